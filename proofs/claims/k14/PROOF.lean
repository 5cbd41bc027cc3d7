import PyProof.Rows.All
import Wide.All
import OpenK.AllK
import Wide.FinOn
import Lean
import PyProof.EqAt
import PyProof.EqKinds
import PyProof.TupleCall
import PyProof.NeKinds
import PySem.Challenge.RW_choicefigures_k14_refused
set_option Elab.async false
set_option linter.all false
set_option maxRecDepth 100000
/-! THE HAND LAYER, for ints, bools, texts, own classes, LISTS and tuples (index, slices, in, append, pop ..), calls, loops. Paste it whole ahead of your own text; what your proof does not reach may be deleted. -/
namespace L2
open PySem PySem.Spec PyProof.Rows

/-- a key: an int or a str -/
abbrev Key := Sum Int Str
def keyIs : Key → Value → Bool
  | .inl k, v => Value.isInt k v
  | .inr x, v => Value.isStrOf x v
def keyH (w : World) : Key → Int
  | .inl k => hashInt k
  | .inr x => hashStr w x
theorem keyIs_shape : ∀ {k : Key} {v : Value}, keyIs k v = true → (∃ i t, k = Sum.inl i ∧ v = Value.int i t) ∨ (∃ x t, k = Sum.inr x ∧ v = Value.str x t)
  | .inl i, v, h => by
    obtain ⟨t, e⟩ := Value.isInt_shape (k := i) (v := v) h
    exact .inl ⟨i, t, rfl, e⟩
  | .inr x, v, h => by
    obtain ⟨t, e⟩ := Value.isStrOf_shape (x := x) (v := v) h
    exact .inr ⟨x, t, rfl, e⟩
theorem keyIs_int (i : Int) (t : Tok) : keyIs (.inl i) (.int i t) = true := by simp [keyIs, Value.isInt]
theorem keyIs_str (x : Str) (t : Tok) : keyIs (.inr x) (.str x t) = true := by simp [keyIs, Value.isStrOf]
theorem key_ll (a b : Int) : decide ((Sum.inl a : Key) = Sum.inl b) = (a == b) := by
  by_cases e : a = b
  · subst e; simp
  · have h : ¬ (Sum.inl a : Key) = Sum.inl b := fun q => e (Sum.inl.inj q)
    rw [decide_eq_false h]
    exact (beq_eq_false_iff_ne.mpr e).symm
theorem key_rr (a b : Str) : decide ((Sum.inr a : Key) = Sum.inr b) = decide (a = b) := by
  by_cases e : a = b
  · subst e; simp
  · have h : ¬ (Sum.inr a : Key) = Sum.inr b := fun q => e (Sum.inr.inj q)
    rw [decide_eq_false h, decide_eq_false e]
theorem key_lr (a : Int) (b : Str) : decide ((Sum.inl a : Key) = Sum.inr b) = false := decide_eq_false (fun q => nomatch q)
theorem key_rl (a : Str) (b : Int) : decide ((Sum.inr a : Key) = Sum.inl b) = false := decide_eq_false (fun q => nomatch q)

def mixKind (prog : Program) (w : World) : PySem.KeyKind prog w Key where
  is := keyIs
  hash := keyH w
  inj := fun v a b ha hb => by
    rcases keyIs_shape ha with ⟨i, t, rfl, rfl⟩ | ⟨x, t, rfl, rfl⟩
    · rcases keyIs_shape hb with ⟨j, u, rfl, e⟩ | ⟨y, u, rfl, e⟩
      · injection e with e1 _; rw [e1]
      · exact nomatch e
    · rcases keyIs_shape hb with ⟨j, u, rfl, e⟩ | ⟨y, u, rfl, e⟩
      · exact nomatch e
      · injection e with e1 _; rw [e1]
  byValue := fun k v h => by
    rcases keyIs_shape h with ⟨i, t, rfl, rfl⟩ | ⟨x, t, rfl, rfl⟩ <;> rfl
  pyHash := fun hv h => by
    rcases keyIs_shape hv with ⟨i, t, rfl, rfl⟩ | ⟨x, t, rfl, rfl⟩
    · exact wpAny_pyHash_int h
    · exact wpAny_pyHash_str h
  eqBool := fun hu hv h => by
    rcases keyIs_shape hu with ⟨i, t, rfl, rfl⟩ | ⟨x, t, rfl, rfl⟩
    · rcases keyIs_shape hv with ⟨j, u, rfl, rfl⟩ | ⟨y, u, rfl, rfl⟩
      · rw [key_ll] at h; exact wpAny_eqBool_int h
      · rw [key_lr] at h; exact SeqAt.EqAt.int_str i t y u _ _ _ _ h
    · rcases keyIs_shape hv with ⟨j, u, rfl, rfl⟩ | ⟨y, u, rfl, rfl⟩
      · rw [key_rl] at h; exact SeqAt.EqAt.str_int x t j u _ _ _ _ h
      · rw [key_rr] at h; exact wpAny_eqBool_str h
  «strs» := fun k x t v h => by
    rcases keyIs_shape h with ⟨i, u, rfl, e⟩ | ⟨y, u, rfl, e⟩
    · exact nomatch e
    · injection e with e1 _
      subst e1
      cases v <;> rfl

theorem mixKind_is (prog : Program) (w : World) (k : Key) (v : Value) : (mixKind prog w).is k v = keyIs k v := rfl
theorem mixKind_int (prog : Program) (w : World) (i : Int) (t : Tok) : (mixKind prog w).is (.inl i) (.int i t) = true := keyIs_int i t
theorem mixKind_str (prog : Program) (w : World) (x : Str) (t : Tok) : (mixKind prog w).is (.inr x) (.str x t) = true := keyIs_str x t
end L2

namespace L2
open PySem PySem.Spec PyProof.Rows

/-- a value, without the heap -/
inductive V where
  | non | bl (b : Bool) | int (i : Int) | str (x : Str) | byt (b : Array UInt8) | flt (b : UInt64) | ref (a : Addr) | ty (n : String)
  deriving DecidableEq

def RelV : V → Value → Prop
  | .non, u => u = Value.none
  | .bl b, u => u = Value.bool b
  | .int i, u => ∃ t, u = Value.int i t
  | .str x, u => ∃ t, u = Value.str x t
  | .byt b, u => ∃ t, u = Value.bytes b t
  | .flt b, u => ∃ t, u = Value.float b t
  | .ref a, u => u = Value.ref a
  | .ty n, u => u = Value.type n

abbrev Vals : List V → List Value → Prop := Paired RelV
theorem Vals.length {xs : List V} {us : List Value} (r : Vals xs us) : xs.length = us.length := Paired.length r
theorem Vals.get : ∀ {xs : List V} {us : List Value} {i : Nat} {x : V}, Vals xs us → xs[i]? = some x → ∃ u, us[i]? = some u ∧ RelV x u
  | _, _, _, _, .nil, e => by simp at e
  | _, _, 0, _, .cons r _, e => by simp at e; subst e; exact ⟨_, rfl, r⟩
  | _, _, i + 1, x, .cons _ t, e => by
    obtain ⟨u, h1, h2⟩ := Vals.get (i := i) (x := x) t (by simpa using e)
    exact ⟨u, by simpa using h1, h2⟩
theorem Vals.set {x : V} {u : Value} (r : RelV x u) : ∀ {xs : List V} {us : List Value} (i : Nat), Vals xs us → Vals (xs.set i x) (us.set i u)
  | _, _, _, .nil => .nil
  | _, _, 0, .cons _ t => .cons r t
  | _, _, i + 1, .cons q t => .cons q (Vals.set r i t)
theorem Vals.append : ∀ {xs ys : List V} {us ws : List Value}, Vals xs us → Vals ys ws → Vals (xs ++ ys) (us ++ ws)
  | _, _, _, _, .nil, s => s
  | _, _, _, _, .cons r t, s => .cons r (Vals.append t s)
theorem Vals.take : ∀ {xs : List V} {us : List Value} (n : Nat), Vals xs us → Vals (xs.take n) (us.take n)
  | _, _, 0, _ => .nil
  | _, _, _ + 1, .nil => .nil
  | _, _, n + 1, .cons r t => .cons r (Vals.take n t)
theorem Vals.drop : ∀ {xs : List V} {us : List Value} (n : Nat), Vals xs us → Vals (xs.drop n) (us.drop n)
  | _, _, 0, r => r
  | _, _, _ + 1, .nil => .nil
  | _, _, n + 1, .cons _ t => Vals.drop n t
theorem Vals.none_of : ∀ {xs : List V} {us : List Value} {i : Nat}, Vals xs us → xs[i]? = none → us[i]? = none := fun {xs us i} r e => by
  have h1 := r.length
  have h2 : xs.length ≤ i := List.getElem?_eq_none_iff.mp e
  exact List.getElem?_eq_none_iff.mpr (by omega)

def RelO : Option V → Option Value → Prop
  | some v, some u => RelV v u
  | none, none => True
  | _, _ => False
def KV {κ : Type} : List (κ × V) → List (κ × Value) → Prop := Paired fun (p : κ × V) (q : κ × Value) => p.1 = q.1 ∧ RelV p.2 q.2

/-- a key of a dict (00_mix): an int or a text -/
def kV : Key → V
  | .inl i => .int i
  | .inr x => .str x

/-- what stands at a tracked address -/
inductive HO where
  /-- a list -/
  | lst (xs : List V)
  /-- a tuple (never changes) -/
  | tup (xs : List V)
  /-- a dict whose keys are ints and texts; one whose keys are tuples of ints and texts (the empty one is both) -/
  | dK (kvs : List (Key × V)) | dT (kvs : List (List Key × V))
  /-- a set of ints: its members, its size -/
  | set (S : Int → Bool) (n : Nat)
  /-- an instance of the class at C, its dict at dx, its attributes -/
  | ins (C dx : Addr) (fs : List (Str × V))
  /-- the dict of the instance at x -/
  | own (x : Addr)
  /-- the dict of an exception -/
  | xd (fs : List (Str × V))
  /-- a bound method, f of x -/
  | met (f x : Addr)
  /-- a range object lo, lo + 1, .. below hi -/
  | rng (lo hi : Int)
  /-- a thing that is known to the object (the script; a dict while a loop walks it): read, never written while it is so -/
  | frz (o : Obj) (u : HO)
  /-- a code object's table -/
  | tbl (ps : Array Value)
  /-- any other thing, by what is true of its one object (a def of one's own: SetO a S n := HO.ext fun h => ..) -/
  | ext (φ : Heap → Prop)

abbrev Hp := Addr → Option HO
def upd (H : Hp) (a : Addr) (o : HO) : Hp := fun b => if b = a then some o else H b
theorem upd_same {H : Hp} {a : Addr} {o : HO} : upd H a o a = some o := by unfold upd; rw [if_pos rfl]
theorem upd_ne {H : Hp} {a b : Addr} {o : HO} (h : b ≠ a) : upd H a o b = H b := by unfold upd; rw [if_neg h]
theorem upd_upd {H : Hp} {a : Addr} {o u : HO} : upd (upd H a o) a u = upd H a u := by
  funext b; unfold upd; split <;> rfl
/-- two objects of different content stand apart -/
theorem ne_of {H : Hp} {a b : Addr} {o u : HO} (h : H a = some o) (h' : H b = some u) (d : o ≠ u) : a ≠ b := by
  intro e; subst e; rw [h] at h'; exact d (Option.some.inj h')
theorem ne_of_none {H : Hp} {a b : Addr} {o : HO} (h : H a = some o) (h' : H b = none) : a ≠ b := by
  intro e; subst e; rw [h] at h'; cases h'

section
variable (P : Program) (w : World)
def ObjOk (H : Hp) (h : Heap) (a : Addr) : HO → Prop
  | .lst xs => xs.length ≤ sizeLine ∧ ∃ (its : List Value) (n : Nat), Vals xs its ∧ h.get? a = some { cls := .type "list", data := .seq its.toArray n }
  | .tup xs => xs.length ≤ sizeLine ∧ ∃ its : List Value, Vals xs its ∧ IsTup h a its.toArray
  | .dK kvs => kvs.length ≤ sizeLine ∧ (a == sysModules) = false ∧ ∃ vs, KV kvs vs ∧ h.DictOf (mixKind P w) a vs
  | .dT kvs => kvs.length ≤ sizeLine ∧ (a == sysModules) = false ∧ ∃ xs : List (List Key × Addr × Value),
      Paired (fun (p : List Key × V) (q : List Key × Addr × Value) => p.1 = q.1 ∧ H q.2.1 = some (.tup (p.1.map kV)) ∧ RelV p.2 q.2.2) kvs xs ∧
      ∃ o es ep, h.get? a = some o ∧ o.ExactDict ∧ o.data = .dict es ep ∧ es.toList = xs.map (entryOfKey (tupleKind (mixKind P w))) ∧ (xs.map (·.1)).Nodup
  | .set S n => h.SetOf (intKind P w) a S n
  | .ins C dx fs => H dx = some (.own a) ∧ fs.length ≤ 1000 ∧ dx ≠ a ∧ h.get? a = some (PySem.W.instObj C dx) ∧
      ∃ mA, h.Ns1 dx mA ∧ (∀ f, RelO (fs.lookup f) (mA f)) ∧ PySem.Within mA (fs.map (·.1))
  | .own _ => ∃ o, h.get? a = some o
  | .xd fs => ∃ mA, h.Ns1 a mA ∧ ∀ f, RelO (fs.lookup f) (mA f)
  | .rng lo hi => ∃ t u v, h.get? a = some { cls := .type "range", data := .fields #[.int lo t, .int hi u, .int 1 v] }
  | .frz o u => h.get? a = some o ∧ ObjOk H h a u
  | .tbl ps => h.get? a = some { cls := .none, data := .fields ps }
  | .met f x => h.get? a = some (PySem.W.methodObj (.ref f) (.ref x))
  | .ext φ => φ h ∧ (∃ o, h.get? a = some o) ∧ ∀ h1 h2 : Heap, φ h1 → (∀ o, h1.get? a = some o → h2.get? a = some o) → φ h2
/-- the abstract heap is held -/
def HOk (H : Hp) (h : Heap) : Prop := ∀ a o, H a = some o → ObjOk P w H h a o
end

section
variable {P : Program} {w : World} {H H' : Hp} {h h' : Heap} {a : Addr} {o : HO}
theorem ObjOk.lt (x : ObjOk P w H h a o) : a < h.objs.size := by
  cases o with
  | lst xs => obtain ⟨_, _, _, _, e⟩ := x; exact Heap.lt_size e
  | tup xs => obtain ⟨_, _, _, p⟩ := x; exact p.lt
  | dK kvs => obtain ⟨_, _, _, _, o, _, _, e, _⟩ := x; exact Heap.lt_size e
  | dT kvs => obtain ⟨_, _, _, _, o, _, _, e, _⟩ := x; exact Heap.lt_size e
  | set S n => obtain ⟨o, _, _, _, e, _⟩ := x; exact Heap.lt_size e
  | ins C dx fs => obtain ⟨_, _, _, e, _⟩ := x; exact Heap.lt_size e
  | own y => obtain ⟨_, e⟩ := x; exact Heap.lt_size e
  | xd fs => obtain ⟨_, ⟨_, _, _, e, _⟩, _⟩ := x; exact Heap.lt_size e
  | rng lo hi => obtain ⟨_, _, _, e⟩ := x; exact Heap.lt_size e
  | frz ob u => obtain ⟨e, _⟩ := x; exact Heap.lt_size e
  | tbl ps => exact Heap.lt_size (show h.get? a = some _ from x)
  | met f y => exact Heap.lt_size (show h.get? a = some _ from x)
  | ext φ => obtain ⟨_, ⟨_, e⟩, _⟩ := x; exact Heap.lt_size e
theorem Paired.mapP {α β : Type} {F G : α → β → Prop} : ∀ {l₁ : List α} {l₂ : List β}, Paired F l₁ l₂ → (∀ a b, F a b → G a b) → Paired G l₁ l₂
  | _, _, .nil, _ => .nil
  | _, _, .cons r t, f => .cons (f _ _ r) (Paired.mapP t f)
theorem Paired.imp' {α β : Type} {F G : α → β → Prop} (f : ∀ a b, F a b → G a b) {l₁ : List α} {l₂ : List β} (r : Paired F l₁ l₂) : Paired G l₁ l₂ := Paired.mapP r f
/-- what an object's description leans on: its own object, its own dict, the tuples -/
theorem ObjOk.stay (x : ObjOk P w H h a o) (k : ∀ b u, (b = a ∨ H b = some (.own a)) → h.get? b = some u → h'.get? b = some u)
    (ho : ∀ b, H b = some (.own a) → H' b = some (.own a)) (ht : ∀ b xs, H b = some (.tup xs) → H' b = some (.tup xs)) : ObjOk P w H' h' a o := by
  induction o with
  | lst xs => obtain ⟨z, its, n, r, e⟩ := x; exact ⟨z, its, n, r, k _ _ (.inl rfl) e⟩
  | tup xs => obtain ⟨z, its, r, ob, e, c⟩ := x; exact ⟨z, its, r, ob, k _ _ (.inl rfl) e, c⟩
  | dK kvs => obtain ⟨z, y, vs, r, ob, es, ep, e, c⟩ := x; exact ⟨z, y, vs, r, ob, es, ep, k _ _ (.inl rfl) e, c⟩
  | dT kvs =>
    obtain ⟨z, y, xs, r, ob, es, ep, e, c⟩ := x
    exact ⟨z, y, xs, Paired.mapP r fun p q z => ⟨z.1, ht _ _ z.2.1, z.2.2⟩, ob, es, ep, k _ _ (.inl rfl) e, c⟩
  | set S n => obtain ⟨ob, es, ep, t, e, c⟩ := x; exact ⟨ob, es, ep, t, k _ _ (.inl rfl) e, c⟩
  | ins C dx fs =>
    obtain ⟨d, z, ne, e, mA, ⟨od, es, ep, e2, c⟩, r⟩ := x
    exact ⟨ho _ d, z, ne, k _ _ (.inl rfl) e, mA, ⟨od, es, ep, k _ _ (.inr d) e2, c⟩, r⟩
  | own y => obtain ⟨ob, e⟩ := x; exact ⟨ob, k _ _ (.inl rfl) e⟩
  | xd fs => obtain ⟨mA, ⟨od, es, ep, e, c⟩, r⟩ := x; exact ⟨mA, ⟨od, es, ep, k _ _ (.inl rfl) e, c⟩, r⟩
  | rng lo hi => obtain ⟨t, u, v, e⟩ := x; exact ⟨t, u, v, k _ _ (.inl rfl) e⟩
  | frz ob u ih => obtain ⟨e, q⟩ := x; exact ⟨k _ _ (.inl rfl) e, ih q⟩
  | tbl ps =>
    have e : h.get? a = some { cls := .none, data := .fields ps } := x
    show h'.get? a = some { cls := .none, data := .fields ps }
    exact k a _ (.inl rfl) e
  | met f y =>
    have e : h.get? a = some (PySem.W.methodObj (.ref f) (.ref y)) := x
    show h'.get? a = some (PySem.W.methodObj (.ref f) (.ref y))
    exact k a _ (.inl rfl) e
  | ext φ => obtain ⟨p, ⟨o, e⟩, st⟩ := x; exact ⟨st _ _ p fun o q => k _ _ (.inl rfl) q, ⟨o, k _ _ (.inl rfl) e⟩, st⟩
theorem HOk.lt (x : HOk P w H h) (e : H a = some o) : a < h.objs.size := (x a o e).lt
theorem HOk.fresh (x : HOk P w H h) (e : h.objs.size ≤ a) : H a = none := by
  cases q : H a with
  | none => rfl
  | some u => exact absurd (Nat.lt_of_lt_of_le (x.lt q) e) (Nat.lt_irrefl _)
/-- every object of the heap is kept -/
theorem HOk.kept (x : HOk P w H h) (k : ∀ b u, h.get? b = some u → h'.get? b = some u) : HOk P w H h' := fun a o e =>
  (x a o e).stay (fun b u _ q => k b u q) (fun _ q => q) fun _ _ q => q
/-- a new object is laid and tracked -/
theorem HOk.laid (x : HOk P w H h) (k : ∀ b u, h.get? b = some u → h'.get? b = some u) (hp : h.objs.size ≤ a) (new : ObjOk P w (upd H a o) h' a o) : HOk P w (upd H a o) h' := fun b u e => by
  have hn := x.fresh hp
  by_cases hb : b = a
  · subst hb; rw [upd_same] at e; cases e; exact new
  · rw [upd_ne hb] at e
    exact (x b u e).stay (fun c v _ q => k c v q) (fun c q => by rw [upd_ne (ne_of_none q hn)]; exact q) fun c xs q => by rw [upd_ne (ne_of_none q hn)]; exact q
end

/-- what may be read as u: it is u, or a known u -/
def Rd (H : Hp) (a : Addr) (u : HO) : Prop := H a = some u ∨ ∃ o, H a = some (.frz o u)
theorem Rd.of {H : Hp} {a : Addr} {u : HO} (h : H a = some u) : Rd H a u := .inl h
theorem Rd.ok {P : Program} {w : World} {H : Hp} {h : Heap} {a : Addr} {u : HO} (r : Rd H a u) (x : HOk P w H h) : ObjOk P w H h a u := by
  rcases r with r | ⟨o, r⟩
  · exact x a u r
  · obtain ⟨_, q⟩ := x a _ r
    exact q
/-- what may be written -/
def Mut : Option HO → Prop
  | some (.lst _) => True
  | some (.dK _) => True
  | some (.dT _) => True
  | some (.set _ _) => True
  | some (.ins _ _ _) => True
  | some (.ext _) => True
  | _ => False
section
variable {P : Program} {w : World} {H : Hp} {h h' : Heap} {x e : Addr} {o' : HO}
/-- the object at e is changed: x itself, or the dict of the instance x -/
theorem HOk.write (ok : HOk P w H h) (mu : Mut (H x)) (he : e = x ∨ H e = some (.own x)) (k : ∀ b u, b ≠ e → h.get? b = some u → h'.get? b = some u) (heo : ∃ u, h'.get? e = some u)
    (new : ObjOk P w (upd H x o') h' x o') : HOk P w (upd H x o') h' := fun b u q => by
  have nown : ∀ c y, H c = some (.own y) → c ≠ x := fun c y r z => by subst z; rw [r] at mu; exact mu
  have ntup : ∀ c xs, H c = some (.tup xs) → c ≠ x := fun c xs r z => by subst z; rw [r] at mu; exact mu
  by_cases hb : b = x
  · subst hb; rw [upd_same] at q; cases q; exact new
  · rw [upd_ne hb] at q
    by_cases hbe : b = e
    · have q' : H b = some (.own x) := by
        rcases he with z | z
        · exact absurd (hbe.trans z) hb
        · rw [hbe]; exact z
      rw [q] at q'; cases q'
      obtain ⟨v, hv⟩ := heo
      exact ⟨v, by rw [hbe]; exact hv⟩
    · refine (ok b u q).stay (fun c v hc r => k c v ?_ r) (fun c r => by rw [upd_ne (nown c b r)]; exact r) fun c xs r => by rw [upd_ne (ntup c xs r)]; exact r
      rcases hc with rfl | hc
      · exact hbe
      · rintro rfl
        rcases he with z | z
        · exact nown c b hc z
        · rw [hc] at z; cases z; exact hb rfl
end

/-! ### kept unless tracked; of the frames at fs (the callers') the slots may change (an exception that passes writes there); of the records at ex (iterators) nothing is said -/
structure Un (fs ex : List Addr) (H H' : Hp) (h h' : Heap) : Prop where
  keep : ∀ b o, h.get? b = some o → H b = none → b ∉ fs → b ∉ ex → h'.get? b = some o
  slot : ∀ b o, h.get? b = some o → H b = none → b ∈ fs → b ∉ ex → ∃ sl, h'.get? b = some { o with slots := sl }
  free : ∀ b o, h.get? b = some o → H b = none → b ∉ ex → H' b = none
  there : ∀ b o, h.get? b = some o → b ∉ ex → ∃ o', h'.get? b = some o'
  tups : ∀ b xs, H b = some (.tup xs) → H' b = some (.tup xs)
  frzs : ∀ b o u, H b = some (.frz o u) → H' b = some (.frz o u)
  tbls : ∀ b ps, H b = some (.tbl ps) → ∃ more, H' b = some (.tbl (ps ++ more))
section
variable {fs fs' ex ex' : List Addr} {H H1 H2 : Hp} {h h1 h2 h' : Heap} {a x e : Addr} {o : HO}
theorem Un.any (u : Un fs ex H H1 h h1) {b : Addr} {ob : Obj} (q : h.get? b = some ob) (n : H b = none) (hx : b ∉ ex) : ∃ sl, h1.get? b = some { ob with slots := sl } := by
  by_cases hb : b ∈ fs
  · exact u.slot b ob q n hb hx
  · exact ⟨ob.slots, u.keep b ob q n hb hx⟩
theorem Un.trans (a : Un fs ex H H1 h h1) (b : Un fs ex H1 H2 h1 h2) : Un fs ex H H2 h h2 where
  keep := fun c ob q n hc hx => b.keep c ob (a.keep c ob q n hc hx) (a.free c ob q n hx) hc hx
  slot := fun c ob q n hc hx => by
    obtain ⟨sl, e1⟩ := a.slot c ob q n hc hx
    obtain ⟨sl', e2⟩ := b.slot c _ e1 (a.free c ob q n hx) hc hx
    exact ⟨sl', e2⟩
  free := fun c ob q n hx => by
    obtain ⟨o', e1⟩ := a.there c ob q hx
    exact b.free c o' e1 (a.free c ob q n hx) hx
  there := fun c ob q hx => by
    obtain ⟨o', e1⟩ := a.there c ob q hx
    exact b.there c o' e1 hx
  tups := fun c xs q => b.tups c xs (a.tups c xs q)
  frzs := fun c ob xs q => b.frzs c ob xs (a.frzs c ob xs q)
  tbls := fun c ps q => by
    obtain ⟨m1, e1⟩ := a.tbls c ps q
    obtain ⟨m2, e2⟩ := b.tbls c _ e1
    exact ⟨m1 ++ m2, by rw [e2, Array.append_assoc]⟩
theorem Un.kept (k : ∀ b u, h.get? b = some u → h'.get? b = some u) : Un fs ex H H h h' :=
  ⟨fun b ob q _ _ _ => k b ob q, fun b ob q _ _ _ => ⟨ob.slots, k b ob q⟩, fun _ _ _ n _ => n, fun b ob q _ => ⟨ob, k b ob q⟩, fun _ _ q => q, fun _ _ _ q => q, fun _ ps q => ⟨#[], by rw [q]; simp⟩⟩
theorem Un.refl : Un fs ex H H h h := Un.kept fun _ _ q => q
theorem Un.laid (k : ∀ b u, h.get? b = some u → h'.get? b = some u) (hp : h.objs.size ≤ a) (hn : H a = none) : Un fs ex H (upd H a o) h h' where
  keep := fun b u q _ _ _ => k b u q
  slot := fun b u q _ _ _ => ⟨u.slots, k b u q⟩
  free := fun b u q n _ => by rw [upd_ne (Nat.ne_of_lt (Nat.lt_of_lt_of_le (Heap.lt_size q) hp))]; exact n
  there := fun b u q _ => ⟨u, k b u q⟩
  tups := fun b xs q => by rw [upd_ne (ne_of_none q hn)]; exact q
  frzs := fun b u xs q => by rw [upd_ne (ne_of_none q hn)]; exact q
  tbls := fun b ps q => ⟨#[], by rw [upd_ne (ne_of_none q hn), q]; simp⟩
theorem Un.write (mu : Mut (H x)) (he : e = x ∨ H e = some (.own x)) (k : ∀ b u, b ≠ e → h.get? b = some u → h'.get? b = some u) (heo : ∃ u, h'.get? e = some u) : Un fs ex H (upd H x o) h h' := by
  have hx : ∀ b, H b = none → b ≠ x := fun b n z => by subst z; rw [n] at mu; exact mu
  have hb : ∀ b, H b = none → b ≠ e := fun b n z => by
    subst z
    rcases he with r | r
    · exact hx b n r
    · rw [n] at r; cases r
  have hm : ∀ b u, H b = some u → ¬ Mut (some u) → b ≠ x := fun b u q nm z => by subst z; rw [q] at mu; exact nm mu
  refine ⟨fun b u q n _ _ => k b u (hb b n) q, fun b u q n _ _ => ⟨u.slots, k b u (hb b n) q⟩, fun b u q n _ => by rw [upd_ne (hx b n)]; exact n, fun b u q _ => ?_,
    fun b xs q => by rw [upd_ne (hm b _ q fun z => z)]; exact q, fun b u xs q => by rw [upd_ne (hm b _ q fun z => z)]; exact q, fun b ps q => ⟨#[], by rw [upd_ne (hm b _ q fun z => z), q]; simp⟩⟩
  by_cases hbe : b = e
  · subst hbe; exact heo
  · exact ⟨u, k b u hbe q⟩
theorem Un.mono (u : Un fs ex H H1 h h1) (hs : ∀ b ∈ fs, b ∈ fs') (hx : ∀ b ∈ ex, b ∈ ex') : Un fs' ex' H H1 h h1 :=
  ⟨fun b ob q n hb he => u.keep b ob q n (fun z => hb (hs b z)) fun z => he (hx b z), fun _ _ q n _ he => u.any q n fun z => he (hx _ z), fun b ob q n he => u.free b ob q n fun z => he (hx b z), fun b ob q he => u.there b ob q fun z => he (hx b z), u.tups, u.frzs, u.tbls⟩
end

/-! ### the heap without what is tracked -/
def trk (h : Heap) (H : Hp) : List Addr := (List.range h.objs.size).filter fun a => (H a).isSome
def hidT (h : Heap) (H : Hp) : Heap := PySem.W.hideAll h (trk h H)
theorem hidT_size (h : Heap) (H : Hp) : (hidT h H).objs.size = h.objs.size := PySem.W.hideAll_size _ _
theorem hidT_get {h : Heap} {H : Hp} {b : Addr} {o : Obj} (e : h.get? b = some o) (n : H b = none) : (hidT h H).get? b = some o :=
  PySem.W.hideAll_get _ e fun hm => by
    have q : (H b).isSome = true := (List.mem_filter.mp hm).2
    rw [n] at q; simp at q
theorem of_hidT {h : Heap} {H : Hp} {b : Addr} {o : Obj} (e : (hidT h H).get? b = some o) : h.get? b = some o ∧ H b = none := by
  have e' : h.get? b = some o := PySem.W.of_hideAll (trk h H) e
  refine ⟨e', ?_⟩
  cases q : H b with
  | none => rfl
  | some x =>
    have hm : b ∈ trk h H := List.mem_filter.mpr ⟨List.mem_range.mpr (Heap.lt_size e'), by simp [q]⟩
    have z : (hidT h H).get? b = none := PySem.W.hideAll_none (trk h H) hm
    rw [z] at e; cases e

/-! ### OpenK's ledger, filled with every new object but one -/
def allNews (g h : Heap) (L : Addr) : List (Addr × Obj) := (List.range h.objs.size).filterMap fun a => if a = L ∨ (g.get? a).isSome = true then none else (h.get? a).map fun o => (a, o)
theorem mem_allNews {g h : Heap} {L a : Addr} {o : Obj} (h1 : a ≠ L) (h2 : g.get? a = none) (h3 : h.get? a = some o) : (a, o) ∈ allNews g h L :=
  List.mem_filterMap.mpr ⟨a, List.mem_range.mpr (Heap.lt_size h3), by simp [h1, h2, h3]⟩
theorem of_mem_allNews {g h : Heap} {L : Addr} {p : Addr × Obj} (hp : p ∈ allNews g h L) : p.1 ≠ L ∧ g.get? p.1 = none ∧ h.get? p.1 = some p.2 := by
  obtain ⟨b, _, e⟩ := List.mem_filterMap.mp hp
  split at e
  · cases e
  · rename_i hn
    cases q : h.get? b with
    | none => rw [q] at e; simp at e
    | some u =>
      rw [q] at e
      simp only [Option.map_some, Option.some.injEq] at e
      subst e
      refine ⟨fun z => hn (.inl z), ?_, q⟩
      show g.get? b = none
      cases r : g.get? b with
      | none => rfl
      | some v => exact (hn (.inr (by simp [r]))).elim
def rest (g h : Heap) (L d : Addr) : List (Addr × Obj) := (allNews g h L).filter fun p => decide (p.1 ≠ d)
theorem rest_ne {g h : Heap} {L d : Addr} : ∀ p ∈ rest g h L d, p.1 ≠ d := fun p hp => of_decide_eq_true (List.mem_filter.mp hp).2
theorem mem_rest {g h : Heap} {L d a : Addr} {o : Obj} (h1 : a ≠ L) (h2 : g.get? a = none) (h3 : h.get? a = some o) (h4 : a ≠ d) : (a, o) ∈ rest g h L d :=
  List.mem_filter.mpr ⟨mem_allNews h1 h2 h3, decide_eq_true h4⟩
theorem news_all {g h : Heap} {L : Addr} : News g L h (allNews g h L) := fun p hp => let ⟨a, b, c⟩ := of_mem_allNews hp; ⟨c, a, b⟩
theorem news_at {g h : Heap} {L d : Addr} {o : Obj} (h1 : d ≠ L) (h2 : g.get? d = none) (h3 : h.get? d = some o) : News g L h ((d, o) :: rest g h L d) := fun p hp => by
  rcases List.mem_cons.mp hp with rfl | hp
  · exact ⟨h3, h1, h2⟩
  · exact news_all p (List.mem_filter.mp hp).1
/-- behind a rule that changed d alone: all else but the frame is kept -/
theorem kept_of_news {g h h' : Heap} {L d : Addr} {m : Str → Option Value} (k : ∀ b o, g.get? b = some o → h.get? b = some o) (F : Fr g L h' m) (N : News g L h' (rest g h L d)) :
    ∀ b o, b ≠ L → b ≠ d → h.get? b = some o → h'.get? b = some o := fun b o h1 h2 e => by
  cases q : g.get? b with
  | some u =>
    have := k b u q
    rw [e] at this; cases this
    exact F.keep b _ q
  | none => exact (N (b, o) (mem_rest h1 q e h2)).1
end L2

namespace L2
open PySem PySem.Spec PyProof.Rows

/-- the module's facts, over the base: the heap at the law's entry without what is tracked there -/
structure Mod (K : PySem.W.Frag) (mg : Str → Option Value) (base : Heap) : Prop where
  kin : K.In base
  glob : base.Ns mainGlobals mg
  blt : ∃ mb, base.Ns builtinsNs mb ∧ ∀ x : Str, x ≠ "__name__" → mb x = bootBuiltins x
  nolimit : base.NoLimit

/-- the context: a def's body (or a comprehension's block) running. base: fixed through the whole law; s₀, H₀: the entry; outer: the frames whose slots others may change (a def's callers); stack: all frames that run;
   ex: iterators that were made ahead of the entry and are walked here (a comprehension's); fn: the names whose cells were made at the entry (a def: all; a comprehension's block: its own); calm: not within an except suite; pn: pins that every state bears; xe: what is wanted of an exception that leaves the code -/
structure Cx where
  prog : Program
  w : World
  K : PySem.W.Frag
  mg : Str → Option Value
  base : Heap
  A : Around
  N : List Str
  s₀ : Shared
  H₀ : Hp
  env : Env
  outer : List Env
  stack : List Env
  ex : List Addr
  fn : Str → Bool
  calm : Bool
  pn : List (Addr × Obj)
  xe : Value → Shared → Prop
/-- the callers' frames -/
def frs (l : List Env) : List Addr := l.filterMap (·.frame)
abbrev Cx.fs (X : Cx) : List Addr := frs X.outer

def Vis (sc : Scope) (x : Str) : Prop := sc.names.lookup x = some .local ∨ sc.names.lookup x = some .cell ∨ sc.names.lookup x = some .free
def Loc (sc : Scope) (x : Str) : Prop := sc.names.lookup x = some .local ∨ sc.names.lookup x = some .cell
def Look (env : Env) (h : Heap) (m : Str → Option Value) (x : Str) (u : Value) : Prop :=
  (env.kindOf x = some .local ∧ m x = some u) ∨ ((env.kindOf x = some .cell ∨ env.kindOf x = some .free) ∧ ∃ c, env.cells.lookup x = some c ∧ h.IsCell c (some u))

structure Cx.Ok (X : Cx) : Prop where
  mod : Mod X.K X.mg X.base
  kind : X.env.scope.kind = .function
  glob : X.env.globals = mainGlobals
  blt : X.env.builtins = builtinsNs
  above : X.s₀.heap.objs.size ≤ X.env.locals
  inj : ∀ x y c, X.env.cells.lookup x = some c → X.env.cells.lookup y = some c → x = y
  has : ∀ x, (X.env.kindOf x = some .cell ∨ X.env.kindOf x = some .free) → ∃ c, X.env.cells.lookup x = some c
  cab : ∀ x c, X.fn x = true → X.env.cells.lookup x = some c → X.s₀.heap.objs.size ≤ c
  hd : X.calm = true → X.A.handled = none
  frames : X.A.frames = some X.stack
  stk : X.stack = X.outer ∨ (X.stack = X.env :: X.outer ∧ X.env.frame = some X.env.locals)
  exf : ∀ b ∈ X.ex, b ≠ X.env.locals ∧ ∀ x c, X.env.cells.lookup x = some c → c ≠ b
  bs : ∀ b o, X.base.get? b = some o → X.s₀.heap.get? b = some o ∧ X.H₀ b = none
  bsz : X.base.objs.size ≤ X.s₀.heap.objs.size
  noex : ∀ b o, X.base.get? b = some o → b ∉ X.ex
  exfs : ∀ b ∈ X.ex, b ∉ X.fs
  funs : X.s₀.heap.FunFrames X.base X.outer
  frf : ∀ b ∈ X.fs, X.H₀ b = none

structure Inv (X : Cx) (pins : List (Addr × Obj)) (σ : List (Option V)) (H : Hp) (s : Shared) : Prop where
  ok : X.Ok
  os : s.os = X.s₀.os
  bare : AllBare s.gens
  base : Un X.fs X.ex X.H₀ H X.s₀.heap s.heap
  loc : ∃ m, s.heap.Ns X.env.locals m ∧ ∀ (i : Nat) (x : Str) (v : V), X.N[i]? = some x → σ[i]? = some (some v) → Vis X.env.scope x → ∃ u, RelV v u ∧ Look X.env s.heap m x u
  cell : ∀ x c, X.env.cells.lookup x = some c → ∃ v, s.heap.IsCell c v
  free : H X.env.locals = none
  freeC : ∀ x c, X.env.cells.lookup x = some c → H c = none
  pin : ∀ p ∈ X.pn ++ pins, s.heap.get? p.1 = some p.2 ∧ H p.1 = none ∧ p.1 ≠ X.env.locals ∧ p.1 ∉ X.fs ∧ ∀ v, p.2.data ≠ .cell v
  hok : HOk X.prog X.w H s.heap
  len : σ.length = X.N.length

section
variable {X : Cx} {pins : List (Addr × Obj)} {σ : List (Option V)} {H H' : Hp} {s : Shared} {h' : Heap}

theorem Cx.Ok.nofr (ok : X.Ok) {b : Addr} {o : Obj} (e : X.base.get? b = some o) : b ∉ X.fs := fun hb => by
  have := (ok.funs.mem hb).1
  rw [e] at this; cases this
theorem Inv.bs (I : Inv X pins σ H s) : ∀ b o, X.base.get? b = some o → s.heap.get? b = some o ∧ H b = none := fun b o e =>
  ⟨I.base.keep b o (I.ok.bs b o e).1 (I.ok.bs b o e).2 (I.ok.nofr e) (I.ok.noex b o e), I.base.free b o (I.ok.bs b o e).1 (I.ok.bs b o e).2 (I.ok.noex b o e)⟩
theorem Inv.bk (I : Inv X pins σ H s) : ∀ b o, X.base.get? b = some o → s.heap.get? b = some o := fun b o e => (I.bs b o e).1
theorem Inv.mod (I : Inv X pins σ H s) : Mod X.K X.mg X.base := I.ok.mod
theorem Inv.kIn (I : Inv X pins σ H s) : X.K.In s.heap := I.ok.mod.kin.keeps I.bk
theorem Inv.nolimit (I : Inv X pins σ H s) : s.heap.NoLimit := I.ok.mod.nolimit.keeps I.bk
/-- the frame over the base: for OpenK's rules (K.In X.base is I.mod.kin) -/
theorem Inv.fr (I : Inv X pins σ H s) : ∃ m, Fr X.base X.env.locals s.heap m :=
  let ⟨m, hn, _⟩ := I.loc
  ⟨m, hn, I.bk, Nat.le_trans I.ok.bsz I.ok.above⟩
theorem Inv.lt (I : Inv X pins σ H s) : X.env.locals < s.heap.objs.size := let ⟨_, hn, _⟩ := I.loc; hn.lt
theorem Inv.sz (I : Inv X pins σ H s) : X.s₀.heap.objs.size ≤ s.heap.objs.size := Nat.le_trans I.ok.above (Nat.le_of_lt I.lt)
theorem Inv.nofs (I : Inv X pins σ H s) {a : Addr} (h : s.heap.objs.size ≤ a) : a ∉ X.fs := fun hb => by
  obtain ⟨_, o, ho, _⟩ := I.ok.funs.mem hb
  exact absurd (Nat.lt_of_lt_of_le (Heap.lt_size ho) (Nat.le_trans I.sz h)) (Nat.lt_irrefl _)
theorem Inv.cne (I : Inv X pins σ H s) : ∀ x c, X.env.cells.lookup x = some c → c ≠ X.env.locals := fun x c e z => by
  obtain ⟨v, o, ho, hd⟩ := I.cell x c e
  obtain ⟨m, ⟨o', es, ep, ho', hd', _⟩, _⟩ := I.loc
  rw [z, ho'] at ho; cases ho; rw [hd'] at hd; cases hd
theorem Inv.funs (I : Inv X pins σ H s) : s.heap.FunFrames X.base X.outer := by
  have all : ∀ (l : List Env), (∀ b ∈ frs l, b ∈ X.fs) → X.s₀.heap.FunFrames X.base l → s.heap.FunFrames X.base l := by
    intro l
    induction l with
    | nil => intro _ _; trivial
    | cons env r ih =>
      intro hs hl
      obtain ⟨hk, ⟨L, o, hf, hn, ho, hd⟩, hr⟩ := hl
      have hL : L ∈ X.fs := hs L (by unfold frs; rw [List.filterMap_cons, hf]; exact List.mem_cons_self)
      obtain ⟨sl, e⟩ := I.base.slot L o ho (I.ok.frf L hL) hL fun z => I.ok.exfs L z hL
      exact ⟨hk, ⟨L, _, hf, hn, e, hd⟩, ih (fun b hb => hs b (by unfold frs; rw [List.filterMap_cons, hf]; exact List.mem_cons_of_mem _ hb)) hr⟩
  exact all X.outer (fun _ hb => hb) I.ok.funs

/-- the frames that run, for a call -/
theorem Inv.stack (I : Inv X pins σ H s) : s.heap.FunFrames X.base X.stack := by
  rcases I.ok.stk with e | ⟨e, hf⟩
  · rw [e]; exact I.funs
  · rw [e]
    obtain ⟨m, hn, _⟩ := I.loc
    refine .cons (by rw [I.ok.kind]; decide) hf hn ?_ I.funs
    exact Heap.get?_none_of_le (Nat.le_trans I.ok.bsz I.ok.above)
theorem Inv.stkSub (I : Inv X pins σ H s) : ∀ b ∈ frs X.stack, b ∈ X.env.locals :: X.fs := fun b hb => by
  rcases I.ok.stk with e | ⟨e, hf⟩
  · rw [e] at hb; exact List.mem_cons_of_mem _ hb
  · rw [e] at hb
    unfold frs at hb
    rw [List.filterMap_cons, hf] at hb
    exact hb
theorem Inv.stkFree (I : Inv X pins σ H s) : ∀ b ∈ frs X.stack, H b = none := fun b hb => by
  rcases List.mem_cons.mp (I.stkSub b hb) with e | hb
  · rw [e]; exact I.free
  · obtain ⟨_, o, ho, _⟩ := I.ok.funs.mem hb
    exact I.base.free b o ho (I.ok.frf b hb) fun z => I.ok.exfs b z hb

/-- THE STEP: the untracked objects but the frame and the records at ch are kept (the callers' frames up to slots), the frame's map is kept, the new abstract heap is held -/
theorem Inv.step {g' : Array GenState} {t' : Nat} {d' : Drawn} {ch : List Addr} (I : Inv X pins σ H s)
    (hch : ∀ b ∈ ch, (b ∈ X.ex ∨ X.s₀.heap.objs.size ≤ b) ∧ b ≠ X.env.locals ∧ (∀ x c, X.env.cells.lookup x = some c → c ≠ b) ∧ ∀ p ∈ X.pn ++ pins, p.1 ≠ b)
    (keep : ∀ b o, b ≠ X.env.locals → b ∉ X.fs → b ∉ ch → s.heap.get? b = some o → H b = none → h'.get? b = some o)
    (slot : ∀ b o, b ≠ X.env.locals → b ∈ X.fs → b ∉ ch → s.heap.get? b = some o → H b = none → ∃ sl, h'.get? b = some { o with slots := sl }) (free : ∀ b o, b ∉ ch → s.heap.get? b = some o → H b = none → H' b = none)
    (there : ∀ b o, b ∉ ch → s.heap.get? b = some o → ∃ o', h'.get? b = some o')
    (tups : ∀ b xs, H b = some (.tup xs) → H' b = some (.tup xs)) (frzs : ∀ b o u, H b = some (.frz o u) → H' b = some (.frz o u)) (tbls : ∀ b ps, H b = some (.tbl ps) → ∃ more, H' b = some (.tbl (ps ++ more)))
    (ns : ∀ m, s.heap.Ns X.env.locals m → h'.Ns X.env.locals m) (hok : HOk X.prog X.w H' h') (hg : AllBare g') :
    Inv X pins σ H' { s with heap := h', gens := g', drawn := d', toks := t' } := by
  have neL : ∀ b o, X.s₀.heap.get? b = some o → b ≠ X.env.locals := fun b o e => Nat.ne_of_lt (Nat.lt_of_lt_of_le (Heap.lt_size e) I.ok.above)
  have neC : ∀ b o, X.s₀.heap.get? b = some o → b ∉ X.ex → b ∉ ch := fun b o e hx hb => by
    rcases (hch b hb).1 with z | z
    · exact hx z
    · exact absurd (Nat.lt_of_lt_of_le (Heap.lt_size e) z) (Nat.lt_irrefl _)
  have cellK : ∀ x c, X.env.cells.lookup x = some c → ∀ v, s.heap.IsCell c v → h'.IsCell c v := fun x c e v ⟨o, ho, hd⟩ => by
    have nch : c ∉ ch := fun z => (hch c z).2.2.1 x c e rfl
    by_cases hc : c ∈ X.fs
    · obtain ⟨sl, q⟩ := slot c o (I.cne x c e) hc nch ho (I.freeC x c e)
      exact ⟨_, q, hd⟩
    · exact ⟨o, keep c o (I.cne x c e) hc nch ho (I.freeC x c e), hd⟩
  refine ⟨I.ok, I.os, hg, ⟨fun b o e n hb hx => ?_, fun b o e n hb hx => ?_, fun b o e n hx => ?_, fun b o e hx => ?_, fun b xs e => tups b xs (I.base.tups b xs e), fun b o xs e => frzs b o xs (I.base.frzs b o xs e), fun b ps e => ?_⟩, ?_, fun x c e => ?_, ?_, fun x c e => ?_, fun p hp => ?_, hok, I.len⟩
  · exact keep b o (neL b o e) hb (neC b o e hx) (I.base.keep b o e n hb hx) (I.base.free b o e n hx)
  · obtain ⟨sl, e1⟩ := I.base.slot b o e n hb hx
    obtain ⟨sl', e2⟩ := slot b _ (neL b o e) hb (neC b o e hx) e1 (I.base.free b o e n hx)
    exact ⟨sl', e2⟩
  · obtain ⟨o', e1⟩ := I.base.there b o e hx
    exact free b o' (neC b o e hx) e1 (I.base.free b o e n hx)
  · obtain ⟨o', e1⟩ := I.base.there b o e hx
    exact there b o' (neC b o e hx) e1
  · obtain ⟨m1, e1⟩ := I.base.tbls b ps e
    obtain ⟨m2, e2⟩ := tbls b _ e1
    exact ⟨m1 ++ m2, by rw [e2, Array.append_assoc]⟩
  · obtain ⟨m, hn, hl⟩ := I.loc
    refine ⟨m, ns m hn, fun i x v e1 e2 e3 => ?_⟩
    obtain ⟨u, r, l⟩ := hl i x v e1 e2 e3
    refine ⟨u, r, ?_⟩
    rcases l with l | ⟨k, c, e, z⟩
    · exact .inl l
    · exact .inr ⟨k, c, e, cellK x c e _ z⟩
  · obtain ⟨v, z⟩ := I.cell x c e
    exact ⟨v, cellK x c e v z⟩
  · obtain ⟨m, ⟨o, _, _, ho, _⟩, _⟩ := I.loc
    exact free _ o (fun z => (hch _ z).2.1 rfl) ho I.free
  · obtain ⟨v, o, ho, hd⟩ := I.cell x c e
    exact free c o (fun z => (hch c z).2.2.1 x c e rfl) ho (I.freeC x c e)
  · obtain ⟨e, n, ne, nf, d⟩ := I.pin p hp
    have nch : p.1 ∉ ch := fun z => (hch p.1 z).2.2.2 p hp rfl
    exact ⟨keep p.1 p.2 ne nf nch e n, free p.1 p.2 nch e n, ne, nf, d⟩
/-- .. where the frame's own object is kept too -/
theorem Inv.un {t' : Nat} (I : Inv X pins σ H s) (u : Un X.fs [] H H' s.heap h') (hok : HOk X.prog X.w H' h') : Inv X pins σ H' { s with heap := h', toks := t' } := by
  obtain ⟨m, ⟨o, es, ep, ho, r⟩, _⟩ := id I.loc
  obtain ⟨sl, hL⟩ := u.any ho I.free (by simp)
  exact I.step (g' := s.gens) (d' := s.drawn) (ch := []) (fun _ z => nomatch z) (fun b o _ hb _ e n => u.keep b o e n hb (by simp)) (fun b o _ hb _ e n => u.slot b o e n hb (by simp)) (fun b o _ e n => u.free b o e n (by simp)) (fun b o _ e => u.there b o e (by simp)) u.tups u.frzs u.tbls (fun m' hm => by
    obtain ⟨o', es', ep', ho', r'⟩ := hm
    rw [ho] at ho'; cases ho'
    exact ⟨_, es', ep', hL, r'⟩) hok I.bare
/-- behind a call (or a comprehension's block): the slots of this frame may have changed too, the records at ch may have turned -/
theorem Inv.call {g' : Array GenState} {t' : Nat} {d' : Drawn} {ch : List Addr} (I : Inv X pins σ H s) (u : Un (frs X.stack) ch H H' s.heap h') (hok : HOk X.prog X.w H' h') (hg : AllBare g')
    (hch : ∀ b ∈ ch, (b ∈ X.ex ∨ X.s₀.heap.objs.size ≤ b) ∧ b ≠ X.env.locals ∧ (∀ x c, X.env.cells.lookup x = some c → c ≠ b) ∧ ∀ p ∈ X.pn ++ pins, p.1 ≠ b) :
    Inv X pins σ H' { s with heap := h', gens := g', drawn := d', toks := t' } := by
  obtain ⟨m, ⟨o, es, ep, ho, r⟩, _⟩ := id I.loc
  obtain ⟨sl, hL⟩ := u.any ho I.free fun z => (hch _ z).2.1 rfl
  exact I.step (ch := ch) hch (fun b o hL hb hc e n => u.keep b o e n (fun z => (List.mem_cons.mp (I.stkSub b z)).elim hL hb) hc) (fun b o _ _ hc e n => u.any e n hc) (fun b o hc e n => u.free b o e n hc) (fun b o hc e => u.there b o e hc) u.tups u.frzs u.tbls (fun m' hm => by
    obtain ⟨o', es', ep', ho', r'⟩ := hm
    rw [ho] at ho'; cases ho'
    exact ⟨_, es', ep', hL, r'⟩) hok hg
/-- an untracked record of ours (an iterator) has turned -/
theorem Inv.turned {t' : Nat} {it : Addr} (I : Inv X pins σ H s) (k : ∀ b o, b ≠ it → s.heap.get? b = some o → h'.get? b = some o) (hn : H it = none) (hL : it ≠ X.env.locals)
    (h1 : it ∈ X.ex ∨ X.s₀.heap.objs.size ≤ it) (h2 : ∀ x c, X.env.cells.lookup x = some c → c ≠ it) (h3 : ∀ p ∈ X.pn ++ pins, p.1 ≠ it) : Inv X pins σ H { s with heap := h', toks := t' } := by
  have nit : ∀ b u, H b = some u → b ≠ it := fun b u e z => by rw [z, hn] at e; cases e
  refine I.step (g' := s.gens) (d' := s.drawn) (ch := [it]) (fun b hb => ?_) (fun b o _ _ hc e _ => k b o (fun z => hc (by simp [z])) e) (fun b o _ _ hc e _ => ⟨o.slots, k b o (fun z => hc (by simp [z])) e⟩) (fun _ _ _ _ n => n)
    (fun b o hc e => ⟨o, k b o (fun z => hc (by simp [z])) e⟩) (fun _ _ e => e) (fun _ _ _ e => e) (fun b ps e => ⟨#[], by rw [e]; simp⟩) (fun m hm => ?_) (fun b u e => ?_) I.bare
  · have e : b = it := by simpa using hb
    subst e
    exact ⟨h1, hL, h2, h3⟩
  · obtain ⟨o, es, ep, ho, r⟩ := hm
    exact ⟨o, es, ep, k _ o (Ne.symm hL) ho, r⟩
  · refine (I.hok b u e).stay (fun c v hc q => k c v ?_ q) (fun _ q => q) fun _ _ q => q
    rcases hc with z | z
    · rw [z]; exact nit b u e
    · exact nit c _ z
theorem Inv.tok (I : Inv X pins σ H s) (t : Nat) : Inv X pins σ H { s with toks := t } := I.un (h' := s.heap) (t' := t) Un.refl I.hok
/-- all objects kept -/
theorem Inv.kept {t' : Nat} (I : Inv X pins σ H s) (k : ∀ b u, s.heap.get? b = some u → h'.get? b = some u) : Inv X pins σ H { s with heap := h', toks := t' } := I.un (Un.kept k) (I.hok.kept k)
/-- a new object laid and tracked -/
theorem Inv.laid {a : Addr} {o : HO} {t' : Nat} (I : Inv X pins σ H s) (k : ∀ b u, s.heap.get? b = some u → h'.get? b = some u) (hp : s.heap.objs.size ≤ a) (new : ObjOk X.prog X.w (upd H a o) h' a o) :
    Inv X pins σ (upd H a o) { s with heap := h', toks := t' } := I.un (Un.laid k hp (I.hok.fresh hp)) (I.hok.laid k hp new)
/-- an object written -/
theorem Inv.write {x e : Addr} {o : HO} {t' : Nat} (I : Inv X pins σ H s) (mu : Mut (H x)) (he : e = x ∨ H e = some (.own x)) (k : ∀ b u, b ≠ e → s.heap.get? b = some u → h'.get? b = some u) (heo : ∃ u, h'.get? e = some u)
    (new : ObjOk X.prog X.w (upd H x o) h' x o) : Inv X pins σ (upd H x o) { s with heap := h', toks := t' } := I.un (Un.write mu he k heo) (I.hok.write mu he k heo new)
/-- forgetting slots, pins -/
theorem Inv.weak {σ' : List (Option V)} (I : Inv X pins σ H s) (hl : σ'.length = σ.length) (w : ∀ (i : Nat) v, σ'[i]? = some (some v) → σ[i]? = some (some v)) : Inv X pins σ' H s :=
  ⟨I.ok, I.os, I.bare, I.base, let ⟨m, hn, hl'⟩ := I.loc; ⟨m, hn, fun i x v e1 e2 e3 => hl' i x v e1 (w i v e2) e3⟩, I.cell, I.free, I.freeC, I.pin, I.hok, hl.trans I.len⟩
theorem Inv.pins_of {pins' : List (Addr × Obj)} (I : Inv X pins σ H s) (h : ∀ p ∈ pins', s.heap.get? p.1 = some p.2 ∧ H p.1 = none ∧ p.1 ≠ X.env.locals ∧ p.1 ∉ X.fs ∧ ∀ v, p.2.data ≠ .cell v) : Inv X pins' σ H s :=
  ⟨I.ok, I.os, I.bare, I.base, I.loc, I.cell, I.free, I.freeC, fun p hp => (List.mem_append.mp hp).elim (fun z => I.pin p (List.mem_append_left _ z)) (h p), I.hok, I.len⟩

theorem nodup_ix {N : List Str} (hN : N.Nodup) {i j : Nat} {x : Str} (a : N[i]? = some x) (b : N[j]? = some x) : i = j := by
  obtain ⟨h1, e1⟩ := List.getElem?_eq_some_iff.mp a
  obtain ⟨h2, e2⟩ := List.getElem?_eq_some_iff.mp b
  exact (List.getElem_inj hN).mp (e1.trans e2.symm)

/-- a name is stored; what changed -/
theorem store_ok2 {M : Model} {A : Around} {E : Value → Shared → Prop} {i : Nat} {x : Str} {v : V} {u : Value} {Q : Unit → Shared → Prop} (I : Inv X pins σ H s) (hN : X.N.Nodup) (hi : X.N[i]? = some x) (hx : Loc X.env.scope x) (r : RelV v u)
    (h : ∀ s', Inv X pins (σ.set i (some v)) H s' → (∃ a, Heap.SameBut a s.heap s'.heap ∧ (a = X.env.locals ∨ X.env.cells.lookup x = some a)) → Q () s') (hf : X.fn x = true ∨ X.env.scope.names.lookup x = some .local := by first | exact .inl rfl | exact .inr rfl | assumption) : wpAny M A (storeName X.env x u) Q E s := by
  obtain ⟨m, hn, hl⟩ := id I.loc
  have hcls : (X.env.scope.kind == .class || (X.env.scope.kind == .module && X.env.locals != X.env.globals)) = false := by rw [I.ok.kind]; rfl
  have hiσ : i < σ.length := by rw [I.len]; exact (List.getElem?_eq_some_iff.mp hi).1
  have cne := I.cne
  have tracked : ∀ {a : Addr} {h' : Heap}, (∃ o, s.heap.get? a = some o ∧ H a = none) → Heap.SameBut a s.heap h' → HOk X.prog X.w H h' := fun {a h'} ha hs b ob e => by
    obtain ⟨_, _, hfree⟩ := ha
    refine (I.hok b ob e).stay (fun c w' hc q => (hs.2 c ?_).trans q) (fun _ q => q) fun _ _ q => q
    rintro rfl
    rcases hc with rfl | hc
    · rw [hfree] at e; cases e
    · rw [hfree] at hc; cases hc
  rcases hx with hk | hk
  · refine wpAny_storeName_local hk hn (fun h' hn' hs => ?_) hcls
    obtain ⟨oL, _, _, hoL, _⟩ := id hn
    refine h _ ⟨I.ok, I.os, I.bare, ⟨fun b o e n hb hx => ?_, fun b o e n hb hx => ?_, I.base.free, fun b o e hx => ?_, I.base.tups, I.base.frzs, I.base.tbls⟩, ⟨_, hn', fun j y v' e1 e2 e3 => ?_⟩, fun y c e => ?_, I.free, I.freeC, fun p hp => ?_, tracked ⟨oL, hoL, I.free⟩ hs, by simpa using I.len⟩ ⟨_, hs, .inl rfl⟩
    · exact (hs.2 b (Nat.ne_of_lt (Nat.lt_of_lt_of_le (Heap.lt_size e) I.ok.above))).trans (I.base.keep b o e n hb hx)
    · obtain ⟨sl, e1⟩ := I.base.slot b o e n hb hx
      exact ⟨sl, (hs.2 b (Nat.ne_of_lt (Nat.lt_of_lt_of_le (Heap.lt_size e) I.ok.above))).trans e1⟩
    · obtain ⟨o', e1⟩ := I.base.there b o e hx
      exact ⟨o', (hs.2 b (Nat.ne_of_lt (Nat.lt_of_lt_of_le (Heap.lt_size e) I.ok.above))).trans e1⟩
    · by_cases hj : j = i
      · subst hj
        rw [hi] at e1; cases e1
        rw [List.getElem?_set_self hiσ] at e2
        cases e2
        exact ⟨u, r, .inl ⟨hk, by simp⟩⟩
      · rw [List.getElem?_set_ne (Ne.symm hj)] at e2
        obtain ⟨u', r', q⟩ := hl j y v' e1 e2 e3
        refine ⟨u', r', ?_⟩
        rcases q with ⟨k, e⟩ | ⟨k, c, e, z⟩
        · refine .inl ⟨k, ?_⟩
          have : y ≠ x := fun e => hj (nodup_ix hN e1 (e ▸ hi))
          simp [this, e]
        · exact .inr ⟨k, c, e, z.sameBut hs (cne y c e)⟩
    · obtain ⟨w', z⟩ := I.cell y c e
      exact ⟨w', z.sameBut hs (cne y c e)⟩
    · obtain ⟨e, n, ne, nf, d⟩ := I.pin p hp
      exact ⟨(hs.2 p.1 ne).trans e, n, ne, nf, d⟩
  · have hfn : X.fn x = true := by
      rcases hf with z | z
      · exact z
      · rw [z] at hk; cases hk
    obtain ⟨c, hc⟩ := I.ok.has x (.inl hk)
    obtain ⟨w', z⟩ := I.cell x c hc
    refine wpAny_storeName_cell I.ok.kind hk hc z (fun h' hc' hs => ?_)
    obtain ⟨oc, hoc, hocd⟩ := id z
    refine h { s with heap := h' } ⟨I.ok, I.os, I.bare, ⟨fun b o e n hb hx => ?_, fun b o e n hb hx => ?_, I.base.free, fun b o e hx => ?_, I.base.tups, I.base.frzs, I.base.tbls⟩, ⟨m, hn.sameBut hs (Ne.symm (cne x c hc)), fun j y v' e1 e2 e3 => ?_⟩, fun y c' e => ?_, I.free, I.freeC, fun p hp => ?_, tracked ⟨oc, hoc, I.freeC x c hc⟩ hs, by simpa using I.len⟩ ⟨c, hs, .inr hc⟩
    · exact (hs.2 b (Nat.ne_of_lt (Nat.lt_of_lt_of_le (Heap.lt_size e) (I.ok.cab x c hfn hc)))).trans (I.base.keep b o e n hb hx)
    · obtain ⟨sl, e1⟩ := I.base.slot b o e n hb hx
      exact ⟨sl, (hs.2 b (Nat.ne_of_lt (Nat.lt_of_lt_of_le (Heap.lt_size e) (I.ok.cab x c hfn hc)))).trans e1⟩
    · obtain ⟨o', e1⟩ := I.base.there b o e hx
      exact ⟨o', (hs.2 b (Nat.ne_of_lt (Nat.lt_of_lt_of_le (Heap.lt_size e) (I.ok.cab x c hfn hc)))).trans e1⟩
    · by_cases hj : j = i
      · subst hj
        rw [hi] at e1; cases e1
        rw [List.getElem?_set_self hiσ] at e2
        cases e2
        exact ⟨u, r, .inr ⟨.inl hk, c, hc, hc'⟩⟩
      · rw [List.getElem?_set_ne (Ne.symm hj)] at e2
        obtain ⟨u', r', q⟩ := hl j y v' e1 e2 e3
        refine ⟨u', r', ?_⟩
        rcases q with q | ⟨k, c', e, z'⟩
        · exact .inl q
        · refine .inr ⟨k, c', e, z'.sameBut hs ?_⟩
          rintro rfl
          exact hj (nodup_ix hN e1 (I.ok.inj _ _ _ e hc ▸ hi))
    · by_cases hcc : c' = c
      · subst hcc; exact ⟨_, hc'⟩
      · obtain ⟨w2, z2⟩ := I.cell y c' e
        exact ⟨w2, z2.sameBut hs hcc⟩
    · obtain ⟨e, n, ne, nf, d⟩ := I.pin p hp
      refine ⟨(hs.2 p.1 ?_).trans e, n, ne, nf, d⟩
      intro q
      rw [q, hoc] at e
      have q' : oc = p.2 := Option.some.inj e
      exact d w' (by rw [← q']; exact hocd)
theorem store_ok {M : Model} {A : Around} {E : Value → Shared → Prop} {i : Nat} {x : Str} {v : V} {u : Value} {Q : Unit → Shared → Prop} (I : Inv X pins σ H s) (hN : X.N.Nodup) (hi : X.N[i]? = some x) (hx : Loc X.env.scope x) (r : RelV v u)
    (h : ∀ s', Inv X pins (σ.set i (some v)) H s' → Q () s') (hf : X.fn x = true ∨ X.env.scope.names.lookup x = some .local := by first | exact .inl rfl | exact .inr rfl | assumption) : wpAny M A (storeName X.env x u) Q E s :=
  store_ok2 I hN hi hx r (fun s' I' _ => h s' I') hf
/-- behind a call or a block, the state as it is -/
theorem Inv.call' {s' : Shared} {ch : List Addr} (I : Inv X pins σ H s) (ho : s'.os = s.os) (u : Un (frs X.stack) ch H H' s.heap s'.heap) (hok : HOk X.prog X.w H' s'.heap) (hg : AllBare s'.gens)
    (hch : ∀ b ∈ ch, (b ∈ X.ex ∨ X.s₀.heap.objs.size ≤ b) ∧ b ≠ X.env.locals ∧ (∀ x c, X.env.cells.lookup x = some c → c ≠ b) ∧ ∀ p ∈ X.pn ++ pins, p.1 ≠ b) : Inv X pins σ H' s' := by
  obtain ⟨h', g', d', t', o'⟩ := s'
  have e : o' = s.os := ho
  subst e
  exact I.call (g' := g') (t' := t') (d' := d') u hok hg hch
end

/-! ### the judgements -/
/-- an exception: its class, its own dict's address (where it has one), the abstract heap behind it -/
abbrev XK := Value → Option Addr → Hp → Prop
abbrev St := List (Option V)
abbrev VK := V → Hp → Prop
/-- an expression's reading; a test's; an argument list's -/
abbrev TE := St → Hp → VK → Prop
abbrev TT := St → Hp → (Bool → Hp → Prop) → Prop
abbrev TA := St → Hp → (List V → Hp → Prop) → Prop
/-- what is wanted behind a statement -/
structure Ends where
  nx : St → Hp → Prop
  rt : VK
  bk : St → Hp → Prop := fun _ _ => False
  ct : St → Hp → Prop := fun _ _ => False
abbrev TS := Ends → St → Hp → Prop

def EP (X : Cx) (pins : List (Addr × Obj)) (σ : St) (Q : VK) (u : Value) (s' : Shared) : Prop := ∃ v H', Inv X pins σ H' s' ∧ RelV v u ∧ Q v H'
def TP (X : Cx) (pins : List (Addr × Obj)) (σ : St) (Q : Bool → Hp → Prop) (b : Bool) (s' : Shared) : Prop := ∃ H', Inv X pins σ H' s' ∧ Q b H'
def AP (X : Cx) (pins : List (Addr × Obj)) (σ : St) (Q : List V → Hp → Prop) (us : List Value) (s' : Shared) : Prop := ∃ vs H', Inv X pins σ H' s' ∧ Vals vs us ∧ Q vs H'
def SP (X : Cx) (pins : List (Addr × Obj)) (D : Ends) (f : Flow) (s' : Shared) : Prop :=
  match f with
  | .next => ∃ σ' H', Inv X pins σ' H' s' ∧ D.nx σ' H'
  | .brk => ∃ σ' H', Inv X pins σ' H' s' ∧ D.bk σ' H'
  | .cont => ∃ σ' H', Inv X pins σ' H' s' ∧ D.ct σ' H'
  | .ret u => ∃ v σ' H', Inv X pins σ' H' s' ∧ RelV v u ∧ D.rt v H'

def PE (X : Cx) (e : Expr) (t : TE) : Prop :=
  ∀ (pins : List (Addr × Obj)) (s : Shared) (σ : St) (H : Hp) (Q : VK), Inv X pins σ H s → t σ H Q → wpAny (model X.prog X.w) X.A (eval e X.env) (EP X pins σ Q) X.xe s
def PT (X : Cx) (e : Expr) (t : TT) : Prop :=
  ∀ (pins : List (Addr × Obj)) (s : Shared) (σ : St) (H : Hp) (Q : Bool → Hp → Prop), Inv X pins σ H s → t σ H Q → wpAny (model X.prog X.w) X.A (isTrue e X.env (eval e X.env)) (TP X pins σ Q) X.xe s
/-- a test whatever its 'whole' is (and, or) -/
def PW (X : Cx) (e : Expr) (t : TT) : Prop :=
  ∀ (whole : Sem Value) (pins : List (Addr × Obj)) (s : Shared) (σ : St) (H : Hp) (Q : Bool → Hp → Prop), Inv X pins σ H s → t σ H Q → wpAny (model X.prog X.w) X.A (isTrue e X.env whole) (TP X pins σ Q) X.xe s
theorem PW.pt {X : Cx} {e : Expr} {t : TT} (h : PW X e t) : PT X e t := h _
/-- an argument list (no star), from the left -/
def PA (X : Cx) (es : List Expr) (t : TA) : Prop :=
  ∀ (pos : Pos) (pins : List (Addr × Obj)) (s : Shared) (σ : St) (H : Hp) (Q : List V → Hp → Prop), Inv X pins σ H s → t σ H Q → wpAny (model X.prog X.w) X.A (spliced (backTo pos (starEach es X.env))) (AP X pins σ Q) X.xe s
def PS (X : Cx) (st : Stmt) (t : TS) : Prop :=
  ∀ (pins : List (Addr × Obj)) (s : Shared) (σ : St) (H : Hp) (D : Ends), Inv X pins σ H s → t D σ H → wpAny (model X.prog X.w) X.A (exec st X.env) (SP X pins D) X.xe s
def PSs (X : Cx) (st : List Stmt) (t : TS) : Prop :=
  ∀ (pins : List (Addr × Obj)) (s : Shared) (σ : St) (H : Hp) (D : Ends), Inv X pins σ H s → t D σ H → wpAny (model X.prog X.w) X.A (execs st X.env) (SP X pins D) X.xe s
/-- weaken the end -/
theorem thn {α : Type} {t : Sem α} {Q Q' : α → Shared → Prop} {M : Model} {A : Around} {E : Value → Shared → Prop} {s : Shared} (h : wpAny M A t Q E s) (hQ : ∀ a s, Q a s → Q' a s) : wpAny M A t Q' E s := wpAny_mono h hQ fun _ _ x => x
end L2

namespace L2
open PySem PySem.Spec PyProof.Rows
section
variable {X : Cx}

/-- two expressions in a row -/
theorem bin {a b : Expr} {ta tb : TE} (ha : PE X a ta) (hb : PE X b tb) {pins : List (Addr × Obj)} {s : Shared} {σ : St} {H : Hp} {R : V → V → Hp → Prop} (I : Inv X pins σ H s) (h : ta σ H fun x H1 => tb σ H1 fun y H2 => R x y H2)
    {α : Type} {Q : α → Shared → Prop} {f : Value → Value → Sem α}
    (hf : ∀ v u s2 x y H2, Inv X pins σ H2 s2 → RelV x v → RelV y u → R x y H2 → wpAny (model X.prog X.w) X.A (f v u) Q X.xe s2) :
    wpAny (model X.prog X.w) X.A (eval a X.env) (fun v s₁ => wpAny (model X.prog X.w) X.A (eval b X.env) (fun u s₂ => wpAny (model X.prog X.w) X.A (f v u) Q X.xe s₂) X.xe s₁) X.xe s := by
  refine thn (ha pins s σ H _ I h) fun v s1 ⟨x, H1, I1, r1, q1⟩ => ?_
  refine thn (hb pins s1 σ H1 _ I1 q1) fun u s2 ⟨y, H2, I2, r2, q2⟩ => ?_
  exact hf v u s2 x y H2 I2 r1 r2 q2

/-! ### names and constants -/
def tVar (i : Nat) : TE := fun σ H Q => ∃ v, σ[i]? = some (some v) ∧ Q v H
def tC (v : V) : TE := fun _ H Q => Q v H
theorem pe_var {i : Nat} {x : Str} {pos : Pos} (hN : X.N[i]? = some x) (hv : Vis X.env.scope x) (hd : (x == ("__debug__" : Str)) = false := by decide) (hcd : (x == ("__classdict__" : Str)) = false := by decide) : PE X (.Name x pos) (tVar i) := by
  intro pins s σ H Q I h
  obtain ⟨v, e, h⟩ := h
  obtain ⟨m, hn, hl⟩ := I.loc
  obtain ⟨u, r, l⟩ := hl i x v hN e hv
  have fin : EP X pins σ Q u s := ⟨v, H, I, r, h⟩
  rcases l with ⟨hk, hm⟩ | ⟨hk, c, hc, hcell⟩
  · exact wpAny_Name (wpAny_loadName_local I.ok.kind hk hn hm fin) hd
  · rcases hk with hk | hk
    · exact wpAny_Name (wpAny_loadName_cell I.ok.kind hk hc hcell fin) hd
    · exact wpAny_Name (wpAny_loadName_free I.ok.kind hk hc hcell fin hcd) hd
theorem pe_int {i j pos} : PE X (.Constant (.int i) j pos) (tC (.int i)) := fun _ _ _ H _ I h => wpAny_Constant_int ⟨.int i, H, I.tok _, ⟨_, rfl⟩, h⟩
theorem pe_bl {b j pos} : PE X (.Constant (.bool b) j pos) (tC (.bl b)) := fun _ _ _ H _ I h => Constant_bool ⟨.bl b, H, I, rfl, h⟩
theorem pe_non {j pos} : PE X (.Constant .none j pos) (tC .non) := fun _ _ _ H _ I h => Constant_none ⟨.non, H, I, rfl, h⟩
theorem pe_str {x j pos} : PE X (.Constant (.str x) j pos) (tC (.str x)) := fun _ _ _ H _ I h => Calls.Constant_str ⟨.str x, H, I.tok _, ⟨_, rfl⟩, h⟩

/-- a global name of the def -/
def Gl (X : Cx) (x : Str) : Prop := X.env.kindOf x = some .globalImplicit
theorem ld_glob {E : Value → Shared → Prop} {pins : List (Addr × Obj)} {s : Shared} {σ : St} {H : Hp} {x : Str} {u : Value} {pos : Pos} {Q : Value → Shared → Prop} (I : Inv X pins σ H s) (hg : Gl X x) (hm : X.mg x = some u) (h : Q u s)
    (hd : (x == ("__debug__" : Str)) = false := by decide) : wpAny (model X.prog X.w) X.A (eval (.Name x pos) X.env) Q E s :=
  Calls.Name_function_global I.ok.kind hg (Calls.loadGlobal_global (by rw [I.ok.glob]; exact I.mod.glob.keeps I.bk) hm h) hd
theorem ld_blt {E : Value → Shared → Prop} {pins : List (Addr × Obj)} {s : Shared} {σ : St} {H : Hp} {x : Str} {u : Value} {pos : Pos} {Q : Value → Shared → Prop} (I : Inv X pins σ H s) (hg : Gl X x) (hm : X.mg x = none) (hv : bootBuiltins x = some u) (h : Q u s)
    (hn : x ≠ "__name__" := by decide) (hd : (x == ("__debug__" : Str)) = false := by decide) : wpAny (model X.prog X.w) X.A (eval (.Name x pos) X.env) Q E s := by
  obtain ⟨mb, h1, h2⟩ := I.mod.blt
  exact Calls.Name_function_global I.ok.kind hg (Calls.loadGlobal_builtin (by rw [I.ok.glob]; exact I.mod.glob.keeps I.bk) hm (by rw [I.ok.blt]; exact h1.keeps I.bk) ((h2 x hn).trans hv) h) hd
/-- a module's constant, a class, a function, as a value -/
theorem pe_glob {x : Str} {v : V} {u : Value} {pos : Pos} (hg : Gl X x) (hm : X.mg x = some u) (r : RelV v u) (hd : (x == ("__debug__" : Str)) = false := by decide) : PE X (.Name x pos) (tC v) :=
  fun _ _ _ H _ I h => ld_glob I hg hm ⟨v, H, I, r, h⟩ hd
theorem pe_bltn {x : Str} {v : V} {u : Value} {pos : Pos} (hg : Gl X x) (hm : X.mg x = none) (hv : bootBuiltins x = some u) (r : RelV v u) (hn : x ≠ "__name__" := by decide) (hd : (x == ("__debug__" : Str)) = false := by decide) : PE X (.Name x pos) (tC v) :=
  fun _ _ _ H _ I h => ld_blt I hg hm hv ⟨v, H, I, r, h⟩ hn hd

/-! ### arithmetic -/
/-- two ints -/
def t2I (ta tb : TE) (k : Int → Int → Hp → Prop) : St → Hp → Prop := fun σ H => ta σ H fun x H1 => tb σ H1 fun y H2 => ∃ i j, x = .int i ∧ y = .int j ∧ k i j H2
def tAdd (ta tb : TE) : TE := fun σ H Q => t2I ta tb (fun i j H2 => Q (.int (i + j)) H2) σ H
def tSub (ta tb : TE) : TE := fun σ H Q => t2I ta tb (fun i j H2 => Q (.int (i - j)) H2) σ H
/-- the left factor below 2^64 -/
def tMul (ta tb : TE) : TE := fun σ H Q => t2I ta tb (fun i j H2 => (-(2 ^ 64) < i ∧ i < 2 ^ 64) ∧ Q (.int (i * j)) H2) σ H
variable {a b : Expr} {ta tb : TE} {pos : Pos}
theorem pe_add (ha : PE X a ta) (hb : PE X b tb) : PE X (.BinOp a .Add b pos) (tAdd ta tb) := by
  intro pins s σ H Q I h
  refine wpAny_BinOp (bin ha hb I h fun v u s2 x y H2 I2 rx ry q => ?_)
  obtain ⟨i, j, rfl, rfl, q⟩ := q
  obtain ⟨t, rfl⟩ := rx
  obtain ⟨t', rfl⟩ := ry
  exact add_int ⟨.int _, H2, I2.tok _, ⟨_, rfl⟩, q⟩
theorem pe_sub (ha : PE X a ta) (hb : PE X b tb) : PE X (.BinOp a .Sub b pos) (tSub ta tb) := by
  intro pins s σ H Q I h
  refine wpAny_BinOp (bin ha hb I h fun v u s2 x y H2 I2 rx ry q => ?_)
  obtain ⟨i, j, rfl, rfl, q⟩ := q
  obtain ⟨t, rfl⟩ := rx
  obtain ⟨t', rfl⟩ := ry
  exact sub_int ⟨.int _, H2, I2.tok _, ⟨_, rfl⟩, q⟩
theorem pe_mul (ha : PE X a ta) (hb : PE X b tb) : PE X (.BinOp a .Mult b pos) (tMul ta tb) := by
  intro pins s σ H Q I h
  refine wpAny_BinOp (bin ha hb I h fun v u s2 x y H2 I2 rx ry q => ?_)
  obtain ⟨i, j, rfl, rfl, ⟨q1, q2⟩, q⟩ := q
  obtain ⟨t, rfl⟩ := rx
  obtain ⟨t', rfl⟩ := ry
  exact mul_int ⟨.int _, H2, I2.tok _, ⟨_, rfl⟩, q⟩ (.of_left (intBits_le_64 q1 q2))

/-! ### comparisons -/
def PC (X : Cx) (op : CmpOp) (a b : Expr) (t : TE) : Prop :=
  ∀ (pins : List (Addr × Obj)) (s : Shared) (σ : St) (H : Hp) (Q : VK), Inv X pins σ H s → t σ H Q →
    wpAny (model X.prog X.w) X.A (eval a X.env) (fun v s₁ => wpAny (model X.prog X.w) X.A (eval b X.env) (fun u s₂ => wpAny (model X.prog X.w) X.A (compareOp op v u) (EP X pins σ Q) X.xe s₂) X.xe s₁) X.xe s
theorem nobehind (b : Expr) {op : CmpOp} (h : op ≠ .In) (h2 : op ≠ .NotIn) : behindInMarks op b = false := by
  have e1 : (op == CmpOp.In) = false := by cases op <;> first | rfl | exact absurd rfl h
  have e2 : (op == CmpOp.NotIn) = false := by cases op <;> first | rfl | exact absurd rfl h2
  cases b <;> simp [behindInMarks, e1, e2]
def tCmp (p : Int → Int → Bool) (ta tb : TE) : TE := fun σ H Q => t2I ta tb (fun i j H2 => Q (.bl (p i j)) H2) σ H
abbrev tLt : TE → TE → TE := tCmp fun i j => decide (i < j)
abbrev tLe : TE → TE → TE := tCmp fun i j => decide (i ≤ j)
abbrev tGt : TE → TE → TE := tCmp fun i j => decide (j < i)
abbrev tGe : TE → TE → TE := tCmp fun i j => decide (j ≤ i)
abbrev tEqI : TE → TE → TE := tCmp fun i j => decide (i = j)
abbrev tNeI : TE → TE → TE := tCmp fun i j => !decide (i = j)
/-- a comparison of two ints, by its rule -/
theorem pc_int {op : CmpOp} {p : Int → Int → Bool} (ha : PE X a ta) (hb : PE X b tb)
    (rule : ∀ (i j : Int) (t u : Tok) (Q : Value → Shared → Prop) (s : Shared), Q (.bool (p i j)) s → wpAny (model X.prog X.w) X.A (compareOp op (.int i t) (.int j u)) Q X.xe s) : PC X op a b (tCmp p ta tb) := by
  intro pins s σ H Q I h
  refine bin ha hb I h fun v u s2 x y H2 I2 rx ry q => ?_
  obtain ⟨i, j, rfl, rfl, q⟩ := q
  obtain ⟨t, rfl⟩ := rx
  obtain ⟨t', rfl⟩ := ry
  exact rule i j t t' _ s2 ⟨.bl _, H2, I2, rfl, q⟩
theorem pc_lt (ha : PE X a ta) (hb : PE X b tb) : PC X .Lt a b (tLt ta tb) := pc_int ha hb fun _ _ _ _ _ _ h => lt_int h
theorem pc_le (ha : PE X a ta) (hb : PE X b tb) : PC X .LtE a b (tLe ta tb) := pc_int ha hb fun _ _ _ _ _ _ h => le_int h
theorem pc_gt (ha : PE X a ta) (hb : PE X b tb) : PC X .Gt a b (tGt ta tb) := pc_int ha hb fun _ _ _ _ _ _ h => gt_int h
theorem pc_ge (ha : PE X a ta) (hb : PE X b tb) : PC X .GtE a b (tGe ta tb) := pc_int ha hb fun _ _ _ _ _ _ h => ge_int h
theorem pc_eqI (ha : PE X a ta) (hb : PE X b tb) : PC X .Eq a b (tEqI ta tb) := pc_int ha hb fun _ _ _ _ _ _ h => eq_int (by rw [Bool.beq_eq_decide_eq]; exact h)
theorem pc_neI (ha : PE X a ta) (hb : PE X b tb) : PC X .NotEq a b (tNeI ta tb) := pc_int ha hb fun _ _ _ _ _ _ h => ne_int (by rw [bne, Bool.beq_eq_decide_eq]; exact h)
/-- is None -/
def tIsN (ta : TE) : TE := fun σ H Q => ta σ H fun x H1 => Q (.bl (decide (x = .non))) H1
def tNotN (ta : TE) : TE := fun σ H Q => ta σ H fun x H1 => Q (.bl (!decide (x = .non))) H1
theorem RelV.none_iff {x : V} {v : Value} (r : RelV x v) : (v == Value.none) = decide (x = .non) := by
  cases x with
  | non => cases r; rfl
  | bl _ => cases r; rfl
  | int _ => obtain ⟨t, rfl⟩ := r; rfl
  | str _ => obtain ⟨t, rfl⟩ := r; rfl
  | byt _ => obtain ⟨t, rfl⟩ := r; rfl
  | flt _ => obtain ⟨t, rfl⟩ := r; rfl
  | ref _ => cases r; rfl
  | ty _ => cases r; rfl
theorem pc_isN {j pos'} (ha : PE X a ta) : PC X .Is a (.Constant .none j pos') (tIsN ta) := by
  intro pins s σ H Q I h
  refine thn (ha pins s σ H _ I h) fun v s1 ⟨x, H1, I1, r1, q1⟩ => ?_
  exact Constant_none (is_none_gen ⟨.bl _, H1, I1, by rw [r1.none_iff]; rfl, q1⟩)
theorem pc_notN {j pos'} (ha : PE X a ta) : PC X .IsNot a (.Constant .none j pos') (tNotN ta) := by
  intro pins s σ H Q I h
  refine thn (ha pins s σ H _ I h) fun v s1 ⟨x, H1, I1, r1, q1⟩ => ?_
  exact Constant_none (isnot_none_gen ⟨.bl _, H1, I1, by rw [r1.none_iff]; rfl, q1⟩)
/-- a comparison as a value, as a test -/
def tB (t : TE) : TT := fun σ H Q => t σ H fun x H1 => ∃ c, x = .bl c ∧ Q c H1
theorem pe_cmp {op : CmpOp} {t : TE} (h : PC X op a b t) (h1 : behindInMarks op b = false := by first | exact nobehind _ (by decide) (by decide) | rfl) : PE X (.Compare a [op] [b] pos) t := fun pins s σ H Q I hw => wpAny_Compare1 (h pins s σ H Q I hw) h1
theorem pt_cmp {op : CmpOp} {t : TE} (h : PC X op a b t) (h1 : behindInMarks op b = false := by first | exact nobehind _ (by decide) (by decide) | rfl) : PT X (.Compare a [op] [b] pos) (tB t) := by
  intro pins s σ H Q I hw
  refine wpAny_isTrue_Compare1 (thn (h pins s σ H _ I hw) fun v s1 h1 => thn h1 fun u s2 h2 => thn h2 fun c s3 ⟨x, H1, I1, r1, q1⟩ => ?_) h1
  obtain ⟨d, rfl, q⟩ := q1
  cases r1
  exact wpAny_truthy_bool ⟨H1, I1, q⟩
/-- an expression whose value is a bool, as a test -/
theorem pt_val {e : Expr} {t : TE} (h : PE X e t) (he : ∀ whole, isTrue e X.env whole = (do let v ← whole; standAt e.pos; holding [v] (truthy v)) := by intro _; rfl) : PT X e (tB t) := by
  intro pins s σ H Q I hw
  refine isTrue_plain (thn (h pins s σ H _ I hw) fun v s1 ⟨x, H1, I1, r1, q1⟩ => ?_) (he _)
  obtain ⟨d, rfl, q⟩ := q1
  cases r1
  exact wpAny_truthy_bool ⟨H1, I1, q⟩

/-! ### and, or, not -/
variable {tA tB' : TT} {rest : List Expr}
def tAnd (t u : TT) : TT := fun σ H Q => t σ H fun c H1 => if c = true then u σ H1 Q else Q false H1
def tOr (t u : TT) : TT := fun σ H Q => t σ H fun c H1 => if c = true then Q true H1 else u σ H1 Q
def tNot (t : TT) : TT := fun σ H Q => t σ H fun c H1 => Q (!c) H1
theorem pw_and1 (ha : PT X a tA) : PW X (.BoolOp .And [a] pos) tA := by
  intro wh pins s σ H Q I h
  refine isTrue_and (thn (ha pins s σ H Q I h) fun c s1 e => ?_)
  cases c with
  | true => exact isTrue_and_nil e
  | false => exact e
theorem pw_or1 (ha : PT X a tA) : PW X (.BoolOp .Or [a] pos) tA := by
  intro wh pins s σ H Q I h
  refine isTrue_or (thn (ha pins s σ H Q I h) fun c s1 e => ?_)
  cases c with
  | false => exact isTrue_or_nil e
  | true => exact e
theorem pw_and (ha : PT X a tA) (hb : PW X (.BoolOp .And (b :: rest) pos) tB') : PW X (.BoolOp .And (a :: b :: rest) pos) (tAnd tA tB') := by
  intro wh pins s σ H Q I h
  refine isTrue_and (thn (ha pins s σ H _ I h) fun c s1 ⟨H1, I1, q1⟩ => ?_)
  cases c with
  | true => exact hb wh pins s1 σ H1 Q I1 q1
  | false => exact ⟨H1, I1, q1⟩
theorem pw_or (ha : PT X a tA) (hb : PW X (.BoolOp .Or (b :: rest) pos) tB') : PW X (.BoolOp .Or (a :: b :: rest) pos) (tOr tA tB') := by
  intro wh pins s σ H Q I h
  refine isTrue_or (thn (ha pins s σ H _ I h) fun c s1 ⟨H1, I1, q1⟩ => ?_)
  cases c with
  | true => exact ⟨H1, I1, q1⟩
  | false => exact hb wh pins s1 σ H1 Q I1 q1
theorem pt_not (ha : PT X a tA) : PT X (.UnaryOp .Not a pos) (tNot tA) := by
  intro pins s σ H Q I h
  exact isTrue_not (ha pins s σ H (fun c H1 => Q (!c) H1) I h)
/-- .. as values (bools) -/
def tAndV (ta tb : TE) : TE := fun σ H Q => ta σ H fun x H1 => ∃ c, x = .bl c ∧ if c = true then tb σ H1 Q else Q (.bl false) H1
def tOrV (ta tb : TE) : TE := fun σ H Q => ta σ H fun x H1 => ∃ c, x = .bl c ∧ if c = true then Q (.bl true) H1 else tb σ H1 Q
def tNotV (ta : TE) : TE := fun σ H Q => ta σ H fun x H1 => ∃ c, x = .bl c ∧ Q (.bl (!c)) H1
theorem pe_one {op} {t : TE} (h : PE X a t) : PE X (.BoolOp op [a] pos) t := fun pins s σ H Q I hw => BoolOp_one (h pins s σ H Q I hw)
theorem pe_and (ha : PE X a ta) (hb : PE X (.BoolOp .And (b :: rest) pos) tb) : PE X (.BoolOp .And (a :: b :: rest) pos) (tAndV ta tb) := by
  intro pins s σ H Q I h
  refine BoolOp_and (thn (ha pins s σ H _ I h) fun v s1 ⟨x, H1, I1, r1, q1⟩ => ?_)
  obtain ⟨c, rfl, q1⟩ := q1
  cases r1
  refine wpAny_truthy_bool ?_
  cases c with
  | true => exact hb pins s1 σ H1 Q I1 q1
  | false => exact ⟨.bl false, H1, I1, rfl, q1⟩
theorem pe_or (ha : PE X a ta) (hb : PE X (.BoolOp .Or (b :: rest) pos) tb) : PE X (.BoolOp .Or (a :: b :: rest) pos) (tOrV ta tb) := by
  intro pins s σ H Q I h
  refine BoolOp_or (thn (ha pins s σ H _ I h) fun v s1 ⟨x, H1, I1, r1, q1⟩ => ?_)
  obtain ⟨c, rfl, q1⟩ := q1
  cases r1
  refine wpAny_truthy_bool ?_
  cases c with
  | false => exact hb pins s1 σ H1 Q I1 q1
  | true => exact ⟨.bl true, H1, I1, rfl, q1⟩
theorem pe_not (ha : PE X a ta) : PE X (.UnaryOp .Not a pos) (tNotV ta) := by
  intro pins s σ H Q I h
  refine UnaryOp_ (thn (ha pins s σ H _ I h) fun v s1 ⟨x, H1, I1, r1, q1⟩ => ?_)
  obtain ⟨c, rfl, q1⟩ := q1
  cases r1
  exact not_of (wpAny_truthy_bool ⟨.bl (!c), H1, I1, rfl, q1⟩)
/-- a if t else b -/
def tIf (t : TT) (ta tb : TE) : TE := fun σ H Q => t σ H fun c H1 => if c = true then ta σ H1 Q else tb σ H1 Q
theorem pe_ifExp {c : Expr} (hc : PT X c tA) (ha : PE X a ta) (hb : PE X b tb) : PE X (.IfExp c a b pos) (tIf tA ta tb) := by
  intro pins s σ H Q I h
  refine wpAny_IfExp (thn (hc pins s σ H _ I h) fun d s1 ⟨H1, I1, q1⟩ => ?_)
  cases d with
  | true => exact ha pins s1 σ H1 Q I1 q1
  | false => exact hb pins s1 σ H1 Q I1 q1
end
end L2

namespace L2
open PySem PySem.Spec PyProof.Rows

/-! ### a list, a tuple that is read: tracked, frozen, or an object of the module -/
def SqL (K : PySem.W.Frag) (H : Hp) (a : Addr) (xs : List V) : Prop :=
  Rd H a (.lst xs) ∨
    ∃ (o : Obj) (its : Array Value) (n : Nat), K.lookup a = some o ∧ o.cls = .type "list" ∧ o.dict = none ∧ o.data = .seq its n ∧ its.size ≤ sizeLine ∧ Vals xs its.toList
def SqT (K : PySem.W.Frag) (H : Hp) (a : Addr) (xs : List V) : Prop :=
  Rd H a (.tup xs) ∨
    ∃ (o : Obj) (its : Array Value) (n : Nat), K.lookup a = some o ∧ o.cls = .type "tuple" ∧ o.data = .seq its n ∧ its.size ≤ sizeLine ∧ Vals xs its.toList
def absV : Value → Option V
  | .none => some .non
  | .bool b => some (.bl b)
  | .int i _ => some (.int i)
  | .str x _ => some (.str x)
  | .bytes b _ => some (.byt b)
  | .float b _ => some (.flt b)
  | .ref a => some (.ref a)
  | .type n => some (.ty n)
  | _ => none
theorem RelV.abs {x : V} {u : Value} (r : RelV x u) : absV u = some x := by
  cases x with
  | non => cases r; rfl
  | bl _ => cases r; rfl
  | int _ => obtain ⟨t, rfl⟩ := r; rfl
  | str _ => obtain ⟨t, rfl⟩ := r; rfl
  | byt _ => obtain ⟨t, rfl⟩ := r; rfl
  | flt _ => obtain ⟨t, rfl⟩ := r; rfl
  | ref _ => cases r; rfl
  | ty _ => cases r; rfl
theorem RelV.inj {x y : V} {u : Value} (r : RelV x u) (q : RelV y u) : x = y := Option.some.inj (r.abs.symm.trans q.abs)
theorem Vals.inj : ∀ {xs ys : List V} {us : List Value}, Vals xs us → Vals ys us → xs = ys
  | _, _, _, .nil, .nil => rfl
  | _, _, _, .cons r t, .cons r' t' => by rw [r.inj r', Vals.inj t t']
section
variable {X : Cx} {pins : List (Addr × Obj)} {σ : St} {H : Hp} {s : Shared} {a : Addr} {xs ys : List V}
theorem SqL.of {K : PySem.W.Frag} (h : H a = some (.lst xs)) : SqL K H a xs := .inl (.inl h)
theorem SqT.of {K : PySem.W.Frag} (h : H a = some (.tup xs)) : SqT K H a xs := .inl (.inl h)
theorem Inv.list (I : Inv X pins σ H s) (h : SqL X.K H a xs) : ∃ its : List Value, Vals xs its ∧ PlainL s.heap a its.toArray ∧ xs.length ≤ sizeLine := by
  rcases h with h | ⟨o, its, n, hk, hc, hd, hs, hz, r⟩
  · obtain ⟨z, its, n, r, e⟩ := h.ok I.hok
    exact ⟨its, r, ⟨_, n, e, rfl, rfl, rfl⟩, z⟩
  · refine ⟨its.toList, r, ⟨o, n, I.kIn a o hk, hc, hd, by simpa using hs⟩, ?_⟩
    have e := r.length
    simp only [Array.length_toList] at e
    omega
theorem Inv.tuple (I : Inv X pins σ H s) (h : SqT X.K H a xs) : ∃ its : List Value, Vals xs its ∧ IsTup s.heap a its.toArray ∧ xs.length ≤ sizeLine := by
  rcases h with h | ⟨o, its, n, hk, hc, hs, hz, r⟩
  · obtain ⟨z, its, r, p⟩ := h.ok I.hok
    exact ⟨its, r, p, z⟩
  · refine ⟨its.toList, r, ⟨o, I.kIn a o hk, hc, n, by simpa using hs⟩, ?_⟩
    have e := r.length
    simp only [Array.length_toList] at e
    omega
theorem Inv.list_inj (I : Inv X pins σ H s) (h : SqL X.K H a xs) (h' : SqL X.K H a ys) : xs = ys := by
  obtain ⟨its, r, ⟨o, n, e, _, _, d⟩, _⟩ := I.list h
  obtain ⟨its', r', ⟨o', n', e', _, _, d'⟩, _⟩ := I.list h'
  rw [e] at e'; cases e'
  rw [d] at d'
  injection d' with d1 _
  have : its = its' := by simpa using congrArg Array.toList d1
  subst this
  exact r.inj r'
theorem Inv.tuple_inj (I : Inv X pins σ H s) (h : SqT X.K H a xs) (h' : SqT X.K H a ys) : xs = ys := by
  obtain ⟨its, r, ⟨o, e, _, n, d⟩, _⟩ := I.tuple h
  obtain ⟨its', r', ⟨o', e', _, n', d'⟩, _⟩ := I.tuple h'
  rw [e] at e'; cases e'
  rw [d] at d'
  injection d' with d1 _
  have : its = its' := by simpa using congrArg Array.toList d1
  subst this
  exact r.inj r'
end

/-! ### another wish about exceptions -/
abbrev Cx.wish (X : Cx) (E : Value → Shared → Prop) : Cx := { X with xe := E }
/-- no exception leaves -/
abbrev Cx.nox (X : Cx) : Cx := X.wish fun _ _ => False
theorem Cx.Ok.wish {X : Cx} (ok : X.Ok) (E : Value → Shared → Prop) : (X.wish E).Ok :=
  ⟨ok.mod, ok.kind, ok.glob, ok.blt, ok.above, ok.inj, ok.has, ok.cab, ok.hd, ok.frames, ok.stk, ok.exf, ok.bs, ok.bsz, ok.noex, ok.exfs, ok.funs, ok.frf⟩
theorem Cx.Ok.unwish {X : Cx} {E : Value → Shared → Prop} (ok : (X.wish E).Ok) : X.Ok :=
  ⟨ok.mod, ok.kind, ok.glob, ok.blt, ok.above, ok.inj, ok.has, ok.cab, ok.hd, ok.frames, ok.stk, ok.exf, ok.bs, ok.bsz, ok.noex, ok.exfs, ok.funs, ok.frf⟩
section
variable {X : Cx} {pins : List (Addr × Obj)} {σ : St} {H : Hp} {s : Shared} {E : Value → Shared → Prop}
theorem Inv.wish (I : Inv X pins σ H s) (E : Value → Shared → Prop) : Inv (X.wish E) pins σ H s := ⟨I.ok.wish E, I.os, I.bare, I.base, I.loc, I.cell, I.free, I.freeC, I.pin, I.hok, I.len⟩
theorem Inv.unwish (I : Inv (X.wish E) pins σ H s) : Inv X pins σ H s := ⟨I.ok.unwish, I.os, I.bare, I.base, I.loc, I.cell, I.free, I.freeC, I.pin, I.hok, I.len⟩
theorem SP.unwish {D : Ends} {f : Flow} {s' : Shared} (h : SP (X.wish E) pins D f s') : SP X pins D f s' := by
  cases f with
  | next => obtain ⟨σ', H', I, q⟩ := h; exact ⟨σ', H', I.unwish, q⟩
  | brk => obtain ⟨σ', H', I, q⟩ := h; exact ⟨σ', H', I.unwish, q⟩
  | cont => obtain ⟨σ', H', I, q⟩ := h; exact ⟨σ', H', I.unwish, q⟩
  | ret u => obtain ⟨v, σ', H', I, r, q⟩ := h; exact ⟨v, σ', H', I.unwish, r, q⟩
theorem PE.nox {e : Expr} {t : TE} (h : PE X.nox e t) : PE X e t := fun pins s σ H Q I hw =>
  wpAny_mono (h pins s σ H Q (I.wish _) hw) (fun _ _ ⟨v, H', I', r, q⟩ => ⟨v, H', I'.unwish, r, q⟩) fun _ _ z => False.elim z
theorem PT.nox {e : Expr} {t : TT} (h : PT X.nox e t) : PT X e t := fun pins s σ H Q I hw =>
  wpAny_mono (h pins s σ H Q (I.wish _) hw) (fun _ _ ⟨H', I', q⟩ => ⟨H', I'.unwish, q⟩) fun _ _ z => False.elim z
theorem PSs.nox {st : List Stmt} {t : TS} (h : PSs X.nox st t) : PSs X st t := fun pins s σ H D I hw =>
  wpAny_mono (h pins s σ H D (I.wish _) hw) (fun _ _ q => q.unwish) fun _ _ z => False.elim z
end

/-! ### blocks and small statements -/
section
variable {X : Cx} {st : Stmt} {rest : List Stmt} {t u : TS} {e : Expr} {te : TE} {pos : Pos}
def tNext : TS := fun D σ H => D.nx σ H
def tSeq (t u : TS) : TS := fun D σ H => t { D with nx := u D } σ H
theorem pss_nil : PSs X [] tNext := fun _ _ σ H _ I h => wpAny_execs_nil ⟨σ, H, I, h⟩
theorem pss_cons (h1 : PS X st t) (h2 : PSs X rest u) : PSs X (st :: rest) (tSeq t u) := by
  intro pins s σ H D I h
  refine wpAny_execs_cons (thn (h1 pins s σ H { D with nx := u D } I h) fun f s1 q => ?_)
  cases f with
  | next =>
    obtain ⟨σ', H', I', q⟩ := q
    exact h2 pins s1 σ' H' D I' q
  | ret v => exact q
  | brk => exact q
  | cont => exact q
theorem pss_one (h1 : PS X st t) : PSs X [st] t := by
  intro pins s σ H D I h
  refine wpAny_execs_cons (thn (h1 pins s σ H D I h) fun f s1 q => ?_)
  cases f with
  | next => exact wpAny_execs_nil q
  | ret v => exact q
  | brk => exact q
  | cont => exact q
def tBreak : TS := fun D σ H => D.bk σ H
def tCont : TS := fun D σ H => D.ct σ H
theorem ps_pass : PS X (.Pass pos) tNext := fun _ _ σ H _ I h => wpAny_Pass ⟨σ, H, I, h⟩
theorem ps_break : PS X (.Break pos) tBreak := fun _ _ σ H _ I h => wpAny_Break ⟨σ, H, I, h⟩
theorem ps_continue : PS X (.Continue pos) tCont := fun _ _ σ H _ I h => wpAny_Continue ⟨σ, H, I, h⟩
/-- in a def's body nothing is shown -/
theorem Inv.quiet {pins : List (Addr × Obj)} {σ : St} {H : Hp} {s : Shared} (I : Inv X pins σ H s) : interactive X.env = false := by simp [interactive, I.ok.kind]
/-- a docstring -/
theorem ps_doc {x j pos pos'} : PS X (.Expr (.Constant (.str x) j pos) pos') tNext := fun _ s σ H _ I h => wpAny_Expr (Calls.Constant_str (show SP X _ _ .next { s with toks := s.toks + 1 } from ⟨σ, H, I.tok _, h⟩)) I.quiet
/-- an expression whose value is dropped -/
def tDrop (te : TE) : TS := fun D σ H => te σ H fun _ H1 => D.nx σ H1
theorem ps_expr (he : PE X e te) (hs : swapsWith e none pos.line X.env = pure false := by rfl) : PS X (.Expr e pos) (tDrop te) := by
  intro pins s σ H D I h
  exact wpAny_Expr_any (thn (he pins s σ H _ I h) fun v s1 ⟨x, H1, I1, r1, q1⟩ => ⟨σ, H1, I1, q1⟩) I.quiet hs
def tRet (te : TE) : TS := fun D σ H => te σ H D.rt
theorem ps_ret (he : PE X e te) : PS X (.Return (some e) pos) (tRet te) := by
  intro pins s σ H D I h
  exact wpAny_Return_some (thn (he pins s σ H _ I h) fun v s1 ⟨x, H1, I1, r1, q1⟩ => ⟨x, σ, H1, I1, r1, q1⟩)
def tRetN : TS := fun D _ H => D.rt .non H
theorem ps_retN : PS X (.Return none pos) tRetN := fun _ _ σ H _ I h => wpAny_Return_none ⟨.non, σ, H, I, rfl, h⟩
def tIfS (c : TT) (t u : TS) : TS := fun D σ H => c σ H fun b H1 => if b = true then t D σ H1 else u D σ H1
theorem ps_if {c : Expr} {a b : List Stmt} {tc : TT} (hc : PT X c tc) (ha : PSs X a t) (hb : PSs X b u) : PS X (.If c a b pos) (tIfS tc t u) := by
  intro pins s σ H D I h
  refine wpAny_If (thn (hc pins s σ H _ I h) fun d s1 ⟨H1, I1, q1⟩ => ?_)
  cases d with
  | true => exact ha pins s1 σ H1 D I1 q1
  | false => exact hb pins s1 σ H1 D I1 q1
/-- code that the proof never comes to -/
def tNever : TS := fun _ _ _ => False
theorem ps_never : PS X st tNever := fun _ _ _ _ _ _ h => h.elim
theorem pss_never {sts : List Stmt} : PSs X sts tNever := fun _ _ _ _ _ _ h => h.elim
end

/-! ### targets -/
abbrev TG := V → St → Hp → (St → Hp → Prop) → Prop
abbrev TGs := List V → St → Hp → (St → Hp → Prop) → Prop
def PG (X : Cx) (target : Expr) (t : TG) : Prop :=
  ∀ (pins : List (Addr × Obj)) (s : Shared) (σ : St) (H : Hp) (v : V) (u : Value) (Q : St → Hp → Prop), Inv X pins σ H s → RelV v u → t v σ H Q →
    wpAny (model X.prog X.w) X.A (assign target X.env u) (fun _ s' => ∃ σ' H', Inv X pins σ' H' s' ∧ Q σ' H') X.xe s
/-- several targets, one after another -/
def PGs (X : Cx) (ts : List Expr) (t : TGs) : Prop :=
  ∀ (pins : List (Addr × Obj)) (s : Shared) (σ : St) (H : Hp) (vs : List V) (us : List Value) (Q : St → Hp → Prop), Inv X pins σ H s → Vals vs us → t vs σ H Q →
    wpAny (model X.prog X.w) X.A (assignInOrder ((assignEach ts X.env).map (·.2)) us) (fun _ s' => ∃ σ' H', Inv X pins σ' H' s' ∧ Q σ' H') X.xe s
/-- o[i] = v, by values -/
abbrev TSet := V → V → V → Hp → (Hp → Prop) → Prop
def PSet (X : Cx) (t : TSet) : Prop :=
  ∀ (pins : List (Addr × Obj)) (s : Shared) (σ : St) (H : Hp) (o i v : V) (ov iv u : Value) (Q : Hp → Prop), Inv X pins σ H s → RelV o ov → RelV i iv → RelV v u → t o i v H Q →
    wpAny (model X.prog X.w) X.A (setItem ov iv u) (fun _ s' => ∃ H', Inv X pins σ H' s' ∧ Q H') X.xe s
/-- a op= b, by values -/
abbrev TIp := V → V → Hp → VK → Prop
def PIp (X : Cx) (op : Operator) (t : TIp) : Prop :=
  ∀ (pins : List (Addr × Obj)) (s : Shared) (σ : St) (H : Hp) (x y : V) (v u : Value) (Q : VK), Inv X pins σ H s → RelV x v → RelV y u → t x y H Q →
    wpAny (model X.prog X.w) X.A (inplaceOp op v u) (EP X pins σ Q) X.xe s
section
variable {X : Cx} {pos : Pos}
def gName (i : Nat) : TG := fun v σ H Q => Q (σ.set i (some v)) H
theorem pg_name {i : Nat} {x : Str} (hN : X.N.Nodup) (hi : X.N[i]? = some x) (hx : Loc X.env.scope x) (hf : X.fn x = true ∨ X.env.scope.names.lookup x = some .local := by first | exact .inl rfl | exact .inr rfl | assumption) : PG X (.Name x pos) (gName i) := by
  intro pins s σ H v u Q I r h
  exact wpAny_assign_Name (store_ok I hN hi hx r (fun s' I' => ⟨_, H, I', h⟩) hf)
def gNil : TGs := fun vs σ H Q => vs = [] ∧ Q σ H
def gCons (t : TG) (u : TGs) : TGs := fun vs σ H Q => ∃ v r, vs = v :: r ∧ t v σ H fun σ' H' => u r σ' H' Q
theorem pgs_nil : PGs X [] gNil := by
  intro pins s σ H vs us Q I r h
  obtain ⟨e, h⟩ := h
  subst e
  cases r
  exact assignInOrder_nil ⟨σ, H, I, h⟩
theorem pgs_cons {e : Expr} {es : List Expr} {t : TG} {u : TGs} (h1 : PG X e t) (h2 : PGs X es u)
    (hs : (assignEach (e :: es) X.env).map (·.2) = assign e X.env :: (assignEach es X.env).map (·.2) := by rfl) : PGs X (e :: es) (gCons t u) := by
  intro pins s σ H vs us Q I r h
  obtain ⟨v, vr, e1, h⟩ := h
  subst e1
  cases r with
  | cons r rr =>
    rw [hs]
    refine assignInOrder_cons (thn (h1 pins s σ H _ _ _ I r h) fun _ s1 ⟨σ1, H1, I1, q1⟩ => ?_)
    exact h2 pins s1 σ1 H1 _ _ Q I1 rr q1
/-- (a, b, ..) = a tuple of that length -/
def gTup (K : PySem.W.Frag) (n : Nat) (t : TGs) : TG := fun v σ H Q => ∃ a xs, v = .ref a ∧ SqT K H a xs ∧ xs.length = n ∧ t xs σ H Q
theorem pg_tup {es : List Expr} {k : Nat} {t : TGs} {n : Nat} (hc : X.calm = true) (h : PGs X es t)
    (hn : (assignEach es X.env).length = n := by rfl) (hst : (assignEach es X.env).findIdx? (·.1) = none := by rfl) : PG X (.Tuple es k pos) (gTup X.K n t) := by
  intro pins s σ H v u Q I r hw
  obtain ⟨a, xs, e1, hq, hl, hw⟩ := hw
  subst e1
  cases r
  obtain ⟨its, rv, ht, hz⟩ := I.tuple hq
  refine assign_Tuple_tuple (I.ok.hd hc) ht (by simp [hn, ← hl, rv.length]) hst fun h' hx => ?_
  have I1 : Inv X pins σ H { s with heap := h' } := I.kept (t' := s.toks) fun b o e => hx b o (Nat.ne_of_lt (Heap.lt_size e)) e
  exact h pins _ σ H xs _ Q I1 (by simpa using rv) hw
/-- o[i] = .. -/
def gSub (to ti : TE) (t : TSet) : TG := fun v σ H Q => to σ H fun o H1 => ti σ H1 fun i H2 => t o i v H2 fun H3 => Q σ H3
theorem pg_sub {o i : Expr} {to ti : TE} {t : TSet} (ho : PE X o to) (hi : PE X i ti) (hs : PSet X t)
    (ha : ∀ v, assign (.Subscript o i pos) X.env v = (do
      let ov ← holding [v] (eval o X.env)
      let iv ← holding [v, ov] (eval i X.env)
      standAt pos
      holding [v, ov, iv] (setItem ov iv v)
      release [v, ov, iv] []) := by intro _; rfl) : PG X (.Subscript o i pos) (gSub to ti t) := by
  intro pins s σ H v u Q I r h
  rw [ha]
  refine wpAny_bind (wpAny_holding (thn (ho pins s σ H _ I h) fun ov s1 ⟨x, H1, I1, r1, q1⟩ => ?_))
  refine wpAny_bind (wpAny_holding (thn (hi pins s1 σ H1 _ I1 q1) fun iv s2 ⟨y, H2, I2, r2, q2⟩ => ?_))
  refine wpAny_bind (wpAny_standAt (wpAny_bind (wpAny_holding (thn (hs pins s2 σ H2 x y v ov iv u _ I2 r1 r2 r q2) fun _ s3 ⟨H3, I3, q3⟩ => ?_))))
  exact wpAny_release ⟨σ, H3, I3, q3⟩
/-- target = value -/
def tAsg (te : TE) (g : TG) : TS := fun D σ H => te σ H fun x H1 => g x σ H1 D.nx
theorem ps_asg {tg e : Expr} {te : TE} {g : TG} (he : PE X e te) (hg : PG X tg g) (hs : swapsWithSole [tg] e pos.line X.env = pure false := by rfl) (hw : swappedStores [tg] e X.env = pure none := by rfl)
    (h1 : (assignEach [tg] X.env).map (·.2) = [assign tg X.env] := by rfl) : PS X (.Assign [tg] e pos) (tAsg te g) := by
  intro pins s σ H D I h
  refine wpAny_Assign_stores (thn (he pins s σ H _ I h) fun v s1 ⟨x, H1, I1, r1, q1⟩ => ?_) hs hw
  rw [h1]
  exact thn (hg pins s1 σ H1 x v _ I1 r1 q1) fun _ s2 q => q
/-- name = value -/
theorem ps_set {i : Nat} {x : Str} {e : Expr} {te : TE} {pos' : Pos} (hN : X.N.Nodup) (hi : X.N[i]? = some x) (hx : Loc X.env.scope x) (he : PE X e te) (hs : swapsWith e (some (.Name x pos')) pos.line X.env = pure false := by rfl) (hf : X.fn x = true ∨ X.env.scope.names.lookup x = some .local := by first | exact .inl rfl | exact .inr rfl | assumption) :
    PS X (.Assign [.Name x pos'] e pos) (tAsg te (gName i)) := by
  intro pins s σ H D I h
  refine wpAny_Assign_Name (thn (he pins s σ H _ I h) fun v s1 ⟨y, H1, I1, r1, q1⟩ => ?_) hs
  exact store_ok I1 hN hi hx r1 (fun s2 I2 => ⟨_, H1, I2, q1⟩) hf
/-- a, b = x, y with plain local names: stored from the right; the pair itself is not tracked (the opening rows as in PyProof/Rows/TupAssign.lean:23) -/
def tPar (i j : Nat) (ta : TA) : TS := fun D σ H => ta σ H fun vs H1 => ∃ v w, vs = [v, w] ∧ D.nx ((σ.set i (some v)).set j (some w)) H1
theorem ps_par {i j : Nat} {x y : Str} {a b : Expr} {ta : TA} {px py pt : Pos} {kt k2 pt2} (hc : X.calm = true) (hN : X.N.Nodup) (hi : X.N[i]? = some x) (hj : X.N[j]? = some y) (hij : i ≠ j)
    (hx : X.env.scope.names.lookup x = some .local) (hy : X.env.scope.names.lookup y = some .local) (ha : PA X [a, b] ta)
    (hw : swappedStores [.Tuple [.Name x px, .Name y py] kt pt] (.Tuple [a, b] k2 pt2) X.env = pure (some [x, y]))
    (hs : swapsWithSole [.Tuple [.Name x px, .Name y py] kt pt] (.Tuple [a, b] k2 pt2) pos.line X.env = pure false := by rfl) :
    PS X (.Assign [.Tuple [.Name x px, .Name y py] kt pt] (.Tuple [a, b] k2 pt2) pos) (tPar i j ta) := by
  intro pins s σ H D I h
  rw [exec_Assign_arm]
  refine wpAny_bind (wpAny_standAt ?_)
  rw [hs]
  refine wpAny_bind (wpAny_pure ?_)
  rw [if_neg (by decide)]
  refine wpAny_bind (Tuple_ (thn (ha _ pins s σ H _ I h) fun us s1 ⟨vs, H1, I1, r1, q1⟩ => ?_))
  obtain ⟨v, w, e1, q1⟩ := q1
  subst e1
  obtain ⟨u1, u2, rfl, rv, rw'⟩ : ∃ u1 u2, us = [u1, u2] ∧ RelV v u1 ∧ RelV w u2 := by
    cases r1 with
    | cons p q =>
      cases q with
      | cons p' q' =>
        cases q'
        exact ⟨_, _, rfl, p, p'⟩
  refine wpAny_newObj_type ?_ (by show 2 ≤ sizeLine; decide)
  have I2 : Inv X pins σ H1 { s1 with heap := s1.heap.push { cls := .type "tuple", data := .seq [u1, u2].toArray } } := I1.kept (t' := s1.toks) fun b o e => Heap.get?_push_of_some _ e
  rw [hw]
  refine wpAny_bind (wpAny_pure ?_)
  show wpAny (model X.prog X.w) X.A (do rule "assign.swapped-stores"; let items ← unpackItems (.ref s1.heap.objs.size) 2 none; assignInOrder [fun v => bindName X.env y v, fun v => bindName X.env x v] items.reverse; pure Flow.next) _ _ _
  refine wpAny_bind (wpAny_rule (wpAny_bind (unpackItems_tuple (items := #[u1, u2]) (I.ok.hd hc) (IsTup.new s1.heap _) fun h' hx' => ?_)))
  have I3 := I2.kept (h' := h') (t' := s1.toks) fun b o e => hx' b o (Nat.ne_of_lt (Heap.lt_size e)) e
  show wpAny _ _ (assignInOrder [fun v => bindName X.env y v, fun v => bindName X.env x v] [u2, u1] >>= fun _ => pure Flow.next) _ _ _
  refine wpAny_bind (assignInOrder_cons (wpAny_bindName (store_ok I3 hN hj (.inl hy) rw' (fun s2 I4 => ?_) (.inr hy))))
  refine assignInOrder_cons (wpAny_bindName (store_ok I4 hN hi (.inl hx) rv (fun s3 I5 => assignInOrder_nil (wpAny_pure ?_)) (.inr hx)))
  rw [List.set_comm _ _ (Ne.symm hij)] at I5
  exact ⟨_, H1, I5, q1⟩
/-- name op= e -/
def tAug (i : Nat) (te : TE) (ti : TIp) : TS := fun D σ H => ∃ x, σ[i]? = some (some x) ∧ te σ H fun y H1 => ti x y H1 fun z H2 => D.nx (σ.set i (some z)) H2
theorem ps_aug {i : Nat} {x : Str} {e : Expr} {te : TE} {op : Operator} {ti : TIp} {pos' : Pos} (hN : X.N.Nodup) (hi : X.N[i]? = some x) (hx : Loc X.env.scope x) (he : PE X e te) (ho : PIp X op ti) (hf : X.fn x = true ∨ X.env.scope.names.lookup x = some .local := by first | exact .inl rfl | exact .inr rfl | assumption) :
    PS X (.AugAssign (.Name x pos') op e pos) (tAug i te ti) := by
  intro pins s σ H D I h
  obtain ⟨v, e1, h⟩ := h
  obtain ⟨m, hn, hl⟩ := I.loc
  have vis : Vis X.env.scope x := by rcases hx with k | k; exact .inl k; exact .inr (.inl k)
  obtain ⟨u, r, l⟩ := hl i x v hi e1 vis
  refine wpAny_AugAssign_Name ?_
  have go : wpAny (model X.prog X.w) X.A (eval e X.env) (fun w s₂ => wpAny (model X.prog X.w) X.A (inplaceOp op u w) (fun r s₃ => wpAny (model X.prog X.w) X.A (storeName X.env x r) (fun _ => SP X pins D .next) X.xe s₃) X.xe s₂) X.xe s := by
    refine thn (he pins s σ H _ I h) fun w s1 ⟨y, H1, I1, r1, q1⟩ => ?_
    refine thn (ho pins s1 σ H1 v y u w _ I1 r r1 q1) fun z s2 ⟨zv, H2, I2, r2, q2⟩ => ?_
    exact store_ok I2 hN hi hx r2 (fun s3 I3 => ⟨_, H2, I3, q2⟩) hf
  rcases l with ⟨hk, hm⟩ | ⟨hk, c, hc, hcell⟩
  · exact wpAny_loadName_local I.ok.kind hk hn hm go
  · rcases hk with hk | hk
    · exact wpAny_loadName_cell I.ok.kind hk hc hcell go
    · rcases hx with k | k
      · have : X.env.scope.names.lookup x = some .free := hk
        rw [k] at this; cases this
      · have : X.env.scope.names.lookup x = some .free := hk
        rw [k] at this; cases this
/-- o[i] op= e -/
def tAugS (to ti te : TE) (tget : V → V → Hp → VK → Prop) (tip : TIp) (tset : TSet) : TS := fun D σ H => to σ H fun o H1 => ti σ H1 fun i H2 => tget o i H2 fun x H3 => te σ H3 fun y H4 => tip x y H4 fun z H5 => tset o i z H5 fun H6 => D.nx σ H6
/-- o[i], by values -/
def PGet (X : Cx) (t : V → V → Hp → VK → Prop) : Prop :=
  ∀ (pins : List (Addr × Obj)) (s : Shared) (σ : St) (H : Hp) (o i : V) (ov iv : Value) (Q : VK), Inv X pins σ H s → RelV o ov → RelV i iv → t o i H Q →
    wpAny (model X.prog X.w) X.A (getItem ov iv) (EP X pins σ Q) X.xe s
theorem ps_augS {o i e : Expr} {to ti te : TE} {tget : V → V → Hp → VK → Prop} {tip : TIp} {tset : TSet} {op : Operator} {tpos : Pos} (ho : PE X o to) (hi : PE X i ti) (hg : PGet X tget) (he : PE X e te) (hp : PIp X op tip) (hs : PSet X tset)
    (ha : ∀ ov iv new, augStore i ov iv new = (do holding [new, ov, iv] (setItem ov iv new); release [new, ov, iv] []; pure .next) := by intros; rfl) : PS X (.AugAssign (.Subscript o i tpos) op e pos) (tAugS to ti te tget tip tset) := by
  intro pins s σ H D I h
  refine wpAny_AugAssign_SubscriptAny (thn (ho pins s σ H _ I h) fun ov s1 ⟨x1, H1, I1, r1, q1⟩ => ?_) ha
  refine thn (hi pins s1 σ H1 _ I1 q1) fun iv s2 ⟨x2, H2, I2, r2, q2⟩ => ?_
  refine thn (hg pins s2 σ H2 x1 x2 ov iv _ I2 r1 r2 q2) fun old s3 ⟨x3, H3, I3, r3, q3⟩ => ?_
  refine thn (he pins s3 σ H3 _ I3 q3) fun v s4 ⟨x4, H4, I4, r4, q4⟩ => ?_
  refine thn (hp pins s4 σ H4 x3 x4 old v _ I4 r3 r4 q4) fun new s5 ⟨x5, H5, I5, r5, q5⟩ => ?_
  exact thn (hs pins s5 σ H5 x1 x2 x5 ov iv new _ I5 r1 r2 r5 q5) fun _ s6 ⟨H6, I6, q6⟩ => ⟨σ, H6, I6, q6⟩
/-- ints -/
def ipI (f : Int → Int → Int) : TIp := fun x y H Q => ∃ i j, x = .int i ∧ y = .int j ∧ Q (.int (f i j)) H
theorem ip_add : PIp X .Add (ipI fun i j => i + j) := by
  intro pins s σ H x y v u Q I r1 r2 h
  obtain ⟨i, j, e1, e2, q⟩ := h
  subst e1; subst e2
  obtain ⟨t, rfl⟩ := r1
  obtain ⟨t', rfl⟩ := r2
  exact iadd_int ⟨.int _, H, I.tok _, ⟨_, rfl⟩, q⟩
theorem ip_sub : PIp X .Sub (ipI fun i j => i - j) := by
  intro pins s σ H x y v u Q I r1 r2 h
  obtain ⟨i, j, e1, e2, q⟩ := h
  subst e1; subst e2
  obtain ⟨t, rfl⟩ := r1
  obtain ⟨t', rfl⟩ := r2
  exact isub_int ⟨.int _, H, I.tok _, ⟨_, rfl⟩, q⟩
end

/-! ### while -/
section
variable {X : Cx} {pos : Pos}
/-- the invariant W with its measure -/
def tWhile (c : TT) (tb : TS) : TS := fun D σ H => ∃ W : Nat → St → Hp → Prop, (∃ m, W m σ H) ∧ ∀ m σ H, W m σ H →
  c σ H fun b H1 => if b = true then ∃ N : St → Hp → Prop, (∀ σ' H', N σ' H' → ∃ m', m' < m ∧ W m' σ' H') ∧ tb { D with nx := N, ct := N, bk := D.nx } σ H1 else D.nx σ H1
theorem ps_while {c : Expr} {body : List Stmt} {tc : TT} {tb : TS} (hp : PassesOwn (model X.prog X.w) X.A X.env X.xe) (hc : PT X c tc) (hb : PSs X body tb) : PS X (.While c body [] pos) (tWhile tc tb) := by
  intro pins s σ H D I h
  obtain ⟨W, ⟨m0, w0⟩, turn⟩ := h
  refine wpAny_While (codeAny_whileLoop (fun n s' => ∃ σ' H', Inv X pins σ' H' s' ∧ W n σ' H') ?_ m0 ⟨σ, H, I, w0⟩)
  rintro n s1 ⟨σ1, H1, I1, w1⟩
  refine wpAny_passesOwn hp (thn (hc pins s1 σ1 H1 _ I1 (turn n σ1 H1 w1)) fun b s2 ⟨H2, I2, q2⟩ => ?_)
  cases b with
  | true =>
    obtain ⟨N, hN, q2⟩ := q2
    rw [if_pos rfl]
    refine wpAny_passesOwn hp (thn (hb pins s2 σ1 H2 _ I2 q2) fun f s3 q3 => ?_)
    cases f with
    | next =>
      obtain ⟨σ3, H3, I3, n3⟩ := q3
      obtain ⟨m', hm, w3⟩ := hN σ3 H3 n3
      exact ⟨m', hm, σ3, H3, I3, w3⟩
    | cont =>
      obtain ⟨σ3, H3, I3, n3⟩ := q3
      obtain ⟨m', hm, w3⟩ := hN σ3 H3 n3
      exact ⟨m', hm, σ3, H3, I3, w3⟩
    | brk => exact q3
    | ret v => exact q3
  | false =>
    rw [if_neg Bool.false_ne_true]
    exact wpAny_execs_nil ⟨σ1, H2, I2, q2⟩
end

/-! ### what a loop or a comprehension walks -/
/-- at turn i: it yields x (the heap may grow), or it stops -/
structure It where
  go : Nat → Hp → Prop
  yld : Nat → Hp → V → Hp → Prop
  stop : Nat → Hp → Prop
/-- the iterator's own objects may turn: they are not the frame's, not pinned, younger than the entry (or a comprehension's own) -/
def FpOk (X : Cx) (pins : List (Addr × Obj)) (H : Hp) (b : Addr) : Prop :=
  H b = none ∧ b ≠ X.env.locals ∧ b ∉ X.fs ∧ (b ∈ X.ex ∨ X.s₀.heap.objs.size ≤ b) ∧ (∀ x c, X.env.cells.lookup x = some c → c ≠ b) ∧ ∀ p ∈ X.pn ++ pins, p.1 ≠ b
theorem Inv.fpOk {X : Cx} {pins : List (Addr × Obj)} {σ : St} {H H' : Hp} {s : Shared} {b : Addr} (I : Inv X pins σ H s) (hb : s.heap.objs.size ≤ b) (hn : H' b = none) : FpOk X pins H' b := by
  refine ⟨hn, Nat.ne_of_gt (Nat.lt_of_lt_of_le I.lt hb), I.nofs hb, .inr (Nat.le_trans I.sz hb), fun x c e z => ?_, fun p hp z => ?_⟩
  · obtain ⟨v, q⟩ := I.cell x c e
    exact absurd (Nat.lt_of_lt_of_le q.lt (by rw [z]; exact hb)) (Nat.lt_irrefl _)
  · exact absurd (Nat.lt_of_lt_of_le (Heap.lt_size (I.pin p hp).1) (by rw [z]; exact hb)) (Nat.lt_irrefl _)
structure Turn (P : Program) (w : World) (K : PySem.W.Frag) (tg : Expr) (J : It) (fp : List Addr) (it : Addr) (tn : Nat → Heap → Prop) : Prop where
  mem : it ∈ fp
  obj : ∀ i h, tn i h → ∀ b ∈ fp, ∃ o, h.get? b = some o ∧ ∀ v, o.data ≠ .cell v
  keep : ∀ i h h', tn i h → (∀ b ∈ fp, ∀ o, h.get? b = some o → h'.get? b = some o) → tn i h'
  item : ∀ (X : Cx), X.prog = P → X.w = w → X.K = K → X.calm = true → ∀ (i : Nat) (pins : List (Addr × Obj)) (s : Shared) (σ : St) (H : Hp) (E : Value → Shared → Prop), Inv X pins σ H s → (∀ b ∈ fp, FpOk X pins H b) → tn i s.heap → J.go i H →
    wpAny (model P w) X.A (pyNext (.ref it)) (fun r s1 => ∃ u, r = some u ∧
      wpAny (model P w) X.A (letOwnedTupleGo tg (.ref it) u) (fun _ s2 => ∃ x H', Inv X pins σ H' s2 ∧ RelV x u ∧ J.yld i H x H' ∧ tn (i + 1) s2.heap ∧ ∀ b ∈ fp, H' b = none) E s1) E s
  done : ∀ (X : Cx), X.prog = P → X.w = w → X.K = K → X.calm = true → ∀ (i : Nat) (pins : List (Addr × Obj)) (s : Shared) (σ : St) (H : Hp) (E : Value → Shared → Prop), Inv X pins σ H s → (∀ b ∈ fp, FpOk X pins H b) → tn i s.heap → J.stop i H →
    wpAny (model P w) X.A (pyNext (.ref it)) (fun r s1 => r = none ∧ Inv X pins σ H s1) E s
  self : ∀ (A : Around) (i : Nat) (s : Shared) (Q : Value → Shared → Prop) (E : Value → Shared → Prop), tn i s.heap → Q (.ref it) s → wpAny (model P w) A (pyIter (.ref it)) Q E s
abbrev TI := St → Hp → (It → Hp → Prop) → Prop
/-- an iterator has come -/
def PIE (X : Cx) (pins : List (Addr × Obj)) (σ : St) (tg : Expr) (R : It → Hp → Prop) (itv : Value) (s2 : Shared) : Prop :=
  ∃ (it : Addr) (fp : List Addr) (tn : Nat → Heap → Prop) (J : It) (H' : Hp), itv = .ref it ∧ Inv X pins σ H' s2 ∧ Turn X.prog X.w X.K tg J fp it tn ∧ tn 0 s2.heap ∧ (∀ b ∈ fp, FpOk X pins H' b) ∧ R J H'
def PI (X : Cx) (tg iter : Expr) (wi : TI) : Prop :=
  ∀ (pins : List (Addr × Obj)) (s : Shared) (σ : St) (H : Hp) (R : It → Hp → Prop), Inv X pins σ H s → wi σ H R →
    wpAny (model X.prog X.w) X.A (eval iter X.env) (fun v s1 => wpAny (model X.prog X.w) X.A (pyIter v) (PIE X pins σ tg R) X.xe s1) X.xe s

/-- the step ahead of the store is nothing for an iterator that keeps no tuple -/
theorem go_of {M : Model} {A : Around} {E : Value → Shared → Prop} {s : Shared} {tg : Expr} {it : Addr} {u : Value} {o : Obj} {n : String} {vs : Array Value} {Q : Unit → Shared → Prop} (ho : s.heap.get? it = some o) (hc : o.cls = .type n) (hd : o.data = .fields vs)
    (hn : ["enumerate", "zip", "dict_itemiterator", "dict_reverseitemiterator", "odict_iterator", "itertools.zip_longest", "itertools.pairwise"].contains n = false) (hQ : Q () s) : wpAny M A (letOwnedTupleGo tg (.ref it) u) Q E s := by
  unfold letOwnedTupleGo
  cases tg <;> first
    | exact wpAny_pure hQ
    | (cases u <;> first
        | exact wpAny_pure hQ
        | (refine wpAny_bind (wpAny_load ho ?_)
           rw [hc, hd]
           show wpAny M A (if (["enumerate", "zip", "dict_itemiterator", "dict_reverseitemiterator", "odict_iterator", "itertools.zip_longest", "itertools.pairwise"].contains n && vs[0]? == some (rawInt _)) = true then _ else _) Q E s
           rw [if_neg (by intro h; rw [hn, Bool.false_and] at h; cases h)]
           exact wpAny_pure hQ))

/-- the list at a, as it stands at each turn (a loop may append to it) -/
def Itl (K : PySem.W.Frag) (a : Addr) : It :=
  ⟨fun i H => ∃ xs x, SqL K H a xs ∧ xs[i]? = some x, fun i H x H' => H' = H ∧ ∀ xs, SqL K H a xs → xs[i]? = some x, fun i H => ∃ xs, SqL K H a xs ∧ xs.length ≤ i⟩
def Itt (K : PySem.W.Frag) (a : Addr) : It :=
  ⟨fun i H => ∃ xs x, SqT K H a xs ∧ xs[i]? = some x, fun i H x H' => H' = H ∧ ∀ xs, SqT K H a xs → xs[i]? = some x, fun i H => ∃ xs, SqT K H a xs ∧ xs.length ≤ i⟩
/-- lo, lo + 1, .. (n of them) -/
def Itr (lo : Int) (n : Nat) : It := ⟨fun i _ => i < n, fun i H x H' => H' = H ∧ x = .int (lo + i), fun i _ => n ≤ i⟩
theorem turn_list {P : Program} {w : World} {K : PySem.W.Frag} {tg : Expr} (a it : Addr) : Turn P w K tg (Itl K a) [it] it (fun i h => h.IsListIter it a i) where
  mem := by simp
  obj := fun i h st b hb => by
    have e : b = it := by simpa using hb
    subst e
    obtain ⟨o, e, c, d⟩ := st
    exact ⟨o, e, fun v z => by rw [d] at z; cases z⟩
  keep := fun i h h' st k => st.at fun o e => k it (by simp) o e
  item := by
    intro X hP hw hK hc i pins s σ H E I hf st hg
    subst hP hw hK
    obtain ⟨xs, x, hq, hx⟩ := hg
    obtain ⟨its, rv, p, hz⟩ := I.list hq
    obtain ⟨u, hu, ru⟩ := rv.get hx
    obtain ⟨f0, f1, f2, f3, f4, f5⟩ := hf it (by simp)
    refine wpAny_pyNext_list_item st p.isList (x := u) (by simpa using hu) fun h' st' sb => ?_
    have I1 : Inv X pins σ H { s with heap := h' } := I.turned (t' := s.toks) (fun b o hb e => (sb.2 b hb).trans e) f0 f1 f3 f4 f5
    obtain ⟨o, e, c, d⟩ := id st'
    exact ⟨u, rfl, go_of (s := { s with heap := h' }) e c d (by decide) ⟨x, H, I1, ru, ⟨rfl, fun ys hy => by rw [I.list_inj hy hq]; exact hx⟩, st', fun b hb => (hf b hb).1⟩⟩
  done := by
    intro X hP hw hK hc i pins s σ H E I hf st hg
    subst hP hw hK
    obtain ⟨xs, hq, hx⟩ := hg
    obtain ⟨its, rv, p, hz⟩ := I.list hq
    obtain ⟨f0, f1, f2, f3, f4, f5⟩ := hf it (by simp)
    have hl := rv.length
    exact wpAny_pyNext_list_end (I.ok.hd hc) st p.isList (by simp; omega) fun h' eb => ⟨rfl, I.turned (t' := s.toks) (fun b o hb e => eb b o hb e) f0 f1 f3 f4 f5⟩
  self := fun _ _ _ _ _ st h => wpAny_pyIter_listiter st h
theorem turn_tuple {P : Program} {w : World} {K : PySem.W.Frag} {tg : Expr} (a it : Addr) : Turn P w K tg (Itt K a) [it] it (fun i h => h.IsTupleIter it a i) where
  mem := by simp
  obj := fun i h st b hb => by
    have e : b = it := by simpa using hb
    subst e
    obtain ⟨o, e, c, d⟩ := st
    exact ⟨o, e, fun v z => by rw [d] at z; cases z⟩
  keep := fun i h h' st k => st.at fun o e => k it (by simp) o e
  item := by
    intro X hP hw hK hc i pins s σ H E I hf st hg
    subst hP hw hK
    obtain ⟨xs, x, hq, hx⟩ := hg
    obtain ⟨its, rv, p, hz⟩ := I.tuple hq
    obtain ⟨u, hu, ru⟩ := rv.get hx
    obtain ⟨f0, f1, f2, f3, f4, f5⟩ := hf it (by simp)
    refine wpAny_pyNext_tuple_item st (show s.heap.IsTuple a its.toArray from p) (x := u) (by simpa using hu) fun h' st' sb => ?_
    have I1 : Inv X pins σ H { s with heap := h' } := I.turned (t' := s.toks) (fun b o hb e => (sb.2 b hb).trans e) f0 f1 f3 f4 f5
    obtain ⟨o, e, c, d⟩ := id st'
    exact ⟨u, rfl, go_of (s := { s with heap := h' }) e c d (by decide) ⟨x, H, I1, ru, ⟨rfl, fun ys hy => by rw [I.tuple_inj hy hq]; exact hx⟩, st', fun b hb => (hf b hb).1⟩⟩
  done := by
    intro X hP hw hK hc i pins s σ H E I hf st hg
    subst hP hw hK
    obtain ⟨xs, hq, hx⟩ := hg
    obtain ⟨its, rv, p, hz⟩ := I.tuple hq
    obtain ⟨f0, f1, f2, f3, f4, f5⟩ := hf it (by simp)
    have hl := rv.length
    exact wpAny_pyNext_tuple_end (I.ok.hd hc) st (show s.heap.IsTuple a its.toArray from p) (by simp; omega) fun h' eb => ⟨rfl, I.turned (t' := s.toks) (fun b o hb e => eb b o hb e) f0 f1 f3 f4 f5⟩
  self := fun _ _ _ _ _ st h => wpAny_pyIter_tupleiter st h
theorem turn_range {P : Program} {w : World} {K : PySem.W.Frag} {tg : Expr} (it : Addr) (lo : Int) (n : Nat) : Turn P w K tg (Itr lo n) [it] it (fun i h => IsRangeIter h it (lo + (i : Nat) * 1) ((n : Int) - (i : Nat)) 1) where
  mem := by simp
  obj := fun i h st b hb => by
    have e : b = it := by simpa using hb
    subst e
    exact ⟨_, st, fun v z => by
      have z' : Data.fields _ = Data.cell v := z
      cases z'⟩
  keep := fun i h h' st k => k it (by simp) _ st
  item := by
    intro X hP hw hK hc i pins s σ H E I hf st hg
    subst hP hw hK
    obtain ⟨f0, f1, f2, f3, f4, f5⟩ := hf it (by simp)
    have W := Walks.range (prog := X.prog) (w := X.w) (I.ok.hd hc) it lo 1 n
    refine W.item i s _ _ hg st fun v h' tk hv st' kk => ?_
    obtain ⟨t, rfl⟩ := hv
    have I1 : Inv X pins σ H { s with heap := h', toks := tk } := I.turned (fun b o hb e => kk b o (by simpa using hb) e) f0 f1 f3 f4 f5
    refine ⟨_, rfl, go_of (s := { s with heap := h', toks := tk }) (n := "range_iterator") st' rfl rfl (by decide) ⟨.int (lo + i), H, I1, ⟨t, ?_⟩, ⟨rfl, rfl⟩, st', fun b hb => (hf b hb).1⟩⟩
    rw [Int.mul_one]
  done := by
    intro X hP hw hK hc i pins s σ H E I hf st hg
    subst hP hw hK
    obtain ⟨f0, f1, f2, f3, f4, f5⟩ := hf it (by simp)
    exact wpAny_pyNext_range_end (I.ok.hd hc) st (by have : n ≤ i := hg; omega) fun h' eb => ⟨rfl, I.turned (t' := s.toks) (fun b o hb e => eb b o hb e) f0 f1 f3 f4 f5⟩
  self := fun _ _ _ _ _ st h => wpAny_pyIter_rangeiter st h
end L2

namespace L2
open PySem PySem.Spec PyProof.Rows
section
variable {X : Cx} {tg : Expr}
def iList (K : PySem.W.Frag) (tl : TE) : TI := fun σ H R => tl σ H fun x H1 => ∃ a, x = .ref a ∧ (∃ xs, SqL K H1 a xs) ∧ R (Itl K a) H1
def iTup (K : PySem.W.Frag) (tl : TE) : TI := fun σ H R => tl σ H fun x H1 => ∃ a, x = .ref a ∧ (∃ xs, SqT K H1 a xs) ∧ R (Itt K a) H1
theorem pi_list {l : Expr} {tl : TE} (hl : PE X l tl) : PI X tg l (iList X.K tl) := by
  intro pins s σ H R I h
  refine thn (hl pins s σ H _ I h) fun v s1 ⟨x, H1, I1, r1, q1⟩ => ?_
  obtain ⟨a, e, ⟨xs, hq⟩, q⟩ := q1
  subst e
  cases r1
  obtain ⟨its, rv, p, hz⟩ := I1.list hq
  refine wpAny_pyIter_list p.isList ?_
  refine ⟨s1.heap.objs.size, [s1.heap.objs.size], _, _, H1, rfl, I1.kept (t' := s1.toks) fun b o e => Heap.get?_push_of_some _ e, turn_list a _, ⟨_, Heap.get?_push_size _ rfl, rfl, rfl⟩, fun b hb => ?_, q⟩
  have e : b = s1.heap.objs.size := by simpa using hb
  subst e
  exact I1.fpOk (Nat.le_refl _) (I1.hok.fresh (Nat.le_refl _))
theorem pi_tup {l : Expr} {tl : TE} (hl : PE X l tl) : PI X tg l (iTup X.K tl) := by
  intro pins s σ H R I h
  refine thn (hl pins s σ H _ I h) fun v s1 ⟨x, H1, I1, r1, q1⟩ => ?_
  obtain ⟨a, e, ⟨xs, hq⟩, q⟩ := q1
  subst e
  cases r1
  obtain ⟨its, rv, p, hz⟩ := I1.tuple hq
  refine wpAny_pyIter_tuple (show s1.heap.IsTuple a its.toArray from p) ?_
  refine ⟨s1.heap.objs.size, [s1.heap.objs.size], _, _, H1, rfl, I1.kept (t' := s1.toks) fun b o e => Heap.get?_push_of_some _ e, turn_tuple a _, ⟨_, Heap.get?_push_size _ rfl, rfl, rfl⟩, fun b hb => ?_, q⟩
  have e : b = s1.heap.objs.size := by simpa using hb
  subst e
  exact I1.fpOk (Nat.le_refl _) (I1.hok.fresh (Nat.le_refl _))
/-- a range object just made, walked -/
theorem range_it {pins : List (Addr × Obj)} {σ : St} {H : Hp} {s : Shared} {R : It → Hp → Prop} {E : Value → Shared → Prop} {lo hi : Int} {t u v : Tok} {tk : Nat} (I : Inv X pins σ H s) (h1 : -(2 ^ 62) ≤ lo) (h2 : lo < 2 ^ 62) (h3 : -(2 ^ 62) ≤ hi) (h4 : hi < 2 ^ 62)
    (q : R (Itr lo (hi - lo).toNat) H) : wpAny (model X.prog X.w) X.A (pyIter (.ref s.heap.objs.size)) (PIE X pins σ tg R) E { s with heap := s.heap.push { cls := .type "range", data := .fields #[.int lo t, .int hi u, .int 1 v] }, toks := tk } := by
  refine wpAny_pyIter_range (IsRange.new ..) (small_one h1 h2 h3 h4) ?_
  have I1 : Inv X pins σ H { s with heap := s.heap.push { cls := .type "range", data := .fields #[.int lo t, .int hi u, .int 1 v] }, toks := tk } := I.kept fun b o e => Heap.get?_push_of_some _ e
  refine ⟨(s.heap.push { cls := .type "range", data := .fields #[.int lo t, .int hi u, .int 1 v] }).objs.size, [(s.heap.push { cls := .type "range", data := .fields #[.int lo t, .int hi u, .int 1 v] }).objs.size], _, _, H, rfl,
    I1.kept (t' := tk) fun b o e => Heap.get?_push_of_some _ e, turn_range _ lo (hi - lo).toNat, ?_, fun b hb => ?_, q⟩
  · have e1 : lo + ((0 : Nat) : Int) * 1 = lo := by simp
    have e2 : (((hi - lo).toNat : Nat) : Int) - ((0 : Nat) : Int) = Builtin.Range.rangeSize lo hi 1 := by rw [rangeSize_one]; split <;> omega
    show IsRangeIter _ _ (lo + ((0 : Nat) : Int) * 1) ((((hi - lo).toNat : Nat) : Int) - ((0 : Nat) : Int)) 1
    rw [e1, e2]
    exact Heap.get?_push_size _ rfl
  · have e : b = (s.heap.push { cls := .type "range", data := .fields #[.int lo t, .int hi u, .int 1 v] }).objs.size := by simpa using hb
    subst e
    exact I1.fpOk (Nat.le_refl _) (I1.hok.fresh (Nat.le_refl _))
def iRng1 (ta : TA) : TI := fun σ H R => ta σ H fun vs H1 => ∃ j : Int, vs = [.int j] ∧ -(2 ^ 62) ≤ j ∧ j < 2 ^ 62 ∧ R (Itr 0 j.toNat) H1
def iRng2 (ta : TA) : TI := fun σ H R => ta σ H fun vs H1 => ∃ i j : Int, vs = [.int i, .int j] ∧ (-(2 ^ 62) ≤ i ∧ i < 2 ^ 62 ∧ -(2 ^ 62) ≤ j ∧ j < 2 ^ 62) ∧ R (Itr i (j - i).toNat) H1
theorem pi_range1 {a : Expr} {ta : TA} {p pos : Pos} (hg : Gl X "range") (hm : X.mg "range" = none) (ha : PA X [a] ta) (hs : starEach [a] X.env = [(false, eval a X.env)] := by rfl) : PI X tg (.Call (.Name "range" p) [a] [] pos) (iRng1 ta) := by
  intro pins s σ H R I h
  refine Call_ (ld_blt I hg hm boot_range (PyProof.Rows.callWith_type1 (thn (ha pos pins s σ H _ I h) fun us s1 ⟨vs, H1, I1, r1, q1⟩ => ?_) hs rfl))
  obtain ⟨j, e, q1, q2, q⟩ := q1
  subst e
  cases r1 with
  | cons r rr =>
    cases rr
    obtain ⟨t, rfl⟩ := r
    exact call_range_1 (range_it I1 (by omega) (by omega) q1 q2 (by simpa using q))
theorem pi_range2 {a b : Expr} {ta : TA} {p pos : Pos} (hg : Gl X "range") (hm : X.mg "range" = none) (ha : PA X [a, b] ta) (hs : starEach [a, b] X.env = [(false, eval a X.env), (false, eval b X.env)] := by rfl) (hs2 : starEach [b] X.env = [(false, eval b X.env)] := by rfl) :
    PI X tg (.Call (.Name "range" p) [a, b] [] pos) (iRng2 ta) := by
  intro pins s σ H R I h
  refine Call_ (ld_blt I hg hm boot_range (PyProof.Rows.callWith_type1 (thn (ha pos pins s σ H _ I h) fun us s1 ⟨vs, H1, I1, r1, q1⟩ => ?_) (by rw [hs, hs2]) (by rw [hs2]; rfl)))
  obtain ⟨i, j, e, ⟨q1, q2, q3, q4⟩, q⟩ := q1
  subst e
  cases r1 with
  | cons r rr =>
    cases rr with
    | cons r' rr =>
      cases rr
      obtain ⟨t, rfl⟩ := r
      obtain ⟨t', rfl⟩ := r'
      exact call_range_2 (range_it I1 q1 q2 q3 q4 q)

/-! ### for -/
/-- W: the invariant by the turn and a measure; N: what the body is to reach -/
def tFor (wi : TI) (g : TG) (tb : TS) : TS := fun D σ H => wi σ H fun J H1 => ∃ W : Nat → Nat → St → Hp → Prop, (∃ m, W 0 m σ H1) ∧ ∀ i m σ H, W i m σ H →
  (J.stop i H ∧ D.nx σ H) ∨ (J.go i H ∧ ∃ N : St → Hp → Prop, (∀ σ' H', N σ' H' → ∃ m', m' < m ∧ W (i + 1) m' σ' H') ∧ ∀ x H', J.yld i H x H' → g x σ H' fun σ2 H2 => tb { D with nx := N, ct := N, bk := D.nx } σ2 H2)
/-- the records at fp as they stand -/
def pinsAt (fp : List Addr) (h : Heap) : List (Addr × Obj) := fp.filterMap fun b => (h.get? b).map fun o => (b, o)
theorem mem_pinsAt {fp : List Addr} {h : Heap} {b : Addr} {o : Obj} (hb : b ∈ fp) (e : h.get? b = some o) : (b, o) ∈ pinsAt fp h := List.mem_filterMap.mpr ⟨b, hb, by rw [e]; rfl⟩
theorem of_pinsAt {fp : List Addr} {h : Heap} {p : Addr × Obj} (hp : p ∈ pinsAt fp h) : p.1 ∈ fp ∧ h.get? p.1 = some p.2 := by
  obtain ⟨b, hb, e⟩ := List.mem_filterMap.mp hp
  cases q : h.get? b with
  | none => rw [q] at e; cases e
  | some o =>
    rw [q] at e
    have e' : (b, o) = p := Option.some.inj e
    subst e'
    exact ⟨hb, q⟩
theorem Inv.pinned {pins : List (Addr × Obj)} {σ : St} {H : Hp} {s : Shared} {fp : List Addr} (I : Inv X pins σ H s) (hf : ∀ b ∈ fp, FpOk X pins H b) (ho : ∀ b ∈ fp, ∃ o, s.heap.get? b = some o ∧ ∀ v, o.data ≠ .cell v) : Inv X (pins ++ pinsAt fp s.heap) σ H s :=
  I.pins_of fun p hp => (List.mem_append.mp hp).elim (fun z => I.pin p (List.mem_append_right _ z)) fun z => by
    obtain ⟨hb, e⟩ := of_pinsAt z
    obtain ⟨f0, f1, f2, _⟩ := hf p.1 hb
    obtain ⟨o, e', d⟩ := ho p.1 hb
    rw [e] at e'; cases e'
    exact ⟨e, f0, f1, f2, d⟩
theorem Inv.unpinned {pins pl : List (Addr × Obj)} {σ : St} {H : Hp} {s : Shared} (I : Inv X (pins ++ pl) σ H s) : Inv X pins σ H s := I.pins_of fun p hp => I.pin p (List.mem_append_right _ (List.mem_append_left _ hp))
theorem ps_for {iter : Expr} {body : List Stmt} {wi : TI} {g : TG} {tb : TS} {pos : Pos} (hp : PassesOwn (model X.prog X.w) X.A X.env X.xe) (hc : X.calm = true) (hi : PI X tg iter wi) (hg : PG X tg g) (hb : PSs X body tb)
    (hs : ∀ x, foldedSetIterable iter X.env x = pure x := by intro _; rfl) : PS X (.For tg iter body [] pos) (tFor wi g tb) := by
  intro pins s σ H D I h
  refine wpAny_For (thn (hi pins s σ H _ I h) fun v s1 h1 => thn h1 fun itv s2 h2 => ?_) hs
  obtain ⟨it, fp, tn, J, H2, e, I2, T, st2, f2, W, ⟨m0, w0⟩, turn⟩ := h2
  subst e
  -- what stays true of the iterator's objects through the loop
  have stat : ∀ {H' : Hp}, (∀ b ∈ fp, H' b = none) → ∀ b ∈ fp, FpOk X pins H' b := fun hn b hb => ⟨hn b hb, (f2 b hb).2⟩
  refine codeAny_forLoop_any (fun n s' => ∃ i σ' H', Inv X pins σ' H' s' ∧ tn i s'.heap ∧ (∀ b ∈ fp, H' b = none) ∧ W i n σ' H') ?_ m0 ⟨0, σ, H2, I2, st2, fun b hb => (f2 b hb).1, w0⟩
  rintro n s3 ⟨i, σ3, H3, I3, st3, fr3, w3⟩
  rcases turn i n σ3 H3 w3 with ⟨stop, qn⟩ | ⟨go, N, hN, step⟩
  · refine wpAny_passesOwn hp (thn (T.done X rfl rfl rfl hc i pins s3 σ3 H3 X.xe I3 (stat fr3) st3 stop) fun r s4 ⟨hr, I4⟩ => ?_)
    subst hr
    exact wpAny_execs_nil ⟨σ3, H3, I4, qn⟩
  · refine wpAny_passesOwn hp (thn (T.item X rfl rfl rfl hc i pins s3 σ3 H3 X.xe I3 (stat fr3) st3 go) fun r s4 ⟨u, hr, h4⟩ => ?_)
    subst hr
    refine wpAny_passesOwn hp (thn h4 fun _ s5 ⟨x, H5, I5, r5, y5, st5, fr5⟩ => ?_)
    have I5' := I5.pinned (stat fr5) (T.obj _ _ st5)
    refine wpAny_passesOwn hp (thn (hg _ s5 σ3 H5 x u _ I5' r5 (step x H5 y5)) fun _ s6 ⟨σ6, H6, I6, q6⟩ => ?_)
    refine wpAny_passesOwn hp (thn (hb _ s6 σ6 H6 _ I6 q6) fun f s7 q7 => ?_)
    have again : ∀ {σ7 : St} {H7 : Hp}, Inv X (pins ++ pinsAt fp s5.heap) σ7 H7 s7 → N σ7 H7 → ∃ m, m < n ∧ ∃ i σ' H', Inv X pins σ' H' s7 ∧ tn i s7.heap ∧ (∀ b ∈ fp, H' b = none) ∧ W i m σ' H' := fun {σ7 H7} I7 n7 => by
      obtain ⟨m', hm, w7⟩ := hN σ7 H7 n7
      refine ⟨m', hm, i + 1, σ7, H7, I7.unpinned, T.keep _ _ _ st5 fun b hb o e => (I7.pin (b, o) (List.mem_append_right _ (List.mem_append_right _ (mem_pinsAt hb e)))).1, fun b hb => ?_, w7⟩
      obtain ⟨o, e, d⟩ := T.obj _ _ st5 b hb
      exact (I7.pin (b, o) (List.mem_append_right _ (List.mem_append_right _ (mem_pinsAt hb e)))).2.1
    cases f with
    | next => obtain ⟨σ7, H7, I7, n7⟩ := q7; exact again I7 n7
    | cont => obtain ⟨σ7, H7, I7, n7⟩ := q7; exact again I7 n7
    | brk => obtain ⟨σ7, H7, I7, q7⟩ := q7; exact ⟨σ7, H7, I7.unpinned, q7⟩
    | ret v => obtain ⟨x7, σ7, H7, I7, r7, q7⟩ := q7; exact ⟨x7, σ7, H7, I7.unpinned, r7, q7⟩
end

/-! ### the forms one uses -/
/-- over a list that the body leaves as it is -/
theorem for_list {K : PySem.W.Frag} {a : Addr} {xs : List V} {g : TG} {tb : TS} {D : Ends} {σ : St} {H : Hp} (Pv : Nat → St → Hp → Prop) (h0 : Pv 0 σ H) (hl : ∀ i σ H, i ≤ xs.length → Pv i σ H → SqL K H a xs)
    (hs : ∀ i x σ H, xs[i]? = some x → Pv i σ H → g x σ H fun σ2 H2 => tb { D with nx := Pv (i + 1), ct := Pv (i + 1), bk := D.nx } σ2 H2) (hd : ∀ σ H, Pv xs.length σ H → D.nx σ H) :
    ∃ W : Nat → Nat → St → Hp → Prop, (∃ m, W 0 m σ H) ∧ ∀ i m σ H, W i m σ H →
      ((Itl K a).stop i H ∧ D.nx σ H) ∨ ((Itl K a).go i H ∧ ∃ N : St → Hp → Prop, (∀ σ' H', N σ' H' → ∃ m', m' < m ∧ W (i + 1) m' σ' H') ∧ ∀ x H', (Itl K a).yld i H x H' → g x σ H' fun σ2 H2 => tb { D with nx := N, ct := N, bk := D.nx } σ2 H2) := by
  refine ⟨fun i m σ H => m = xs.length - i ∧ i ≤ xs.length ∧ Pv i σ H, ⟨xs.length, by simp, Nat.zero_le _, h0⟩, ?_⟩
  rintro i m σ H ⟨rfl, hi, p⟩
  have q := hl i σ H hi p
  by_cases hlt : i < xs.length
  · refine .inr ⟨⟨xs, xs[i], q, by simp [hlt]⟩, Pv (i + 1), fun σ' H' p' => ⟨xs.length - (i + 1), by omega, rfl, hlt, p'⟩, fun x H' y => ?_⟩
    obtain ⟨e, y⟩ := y
    subst e
    exact hs i x σ _ (y xs q) p
  · have e : i = xs.length := by omega
    subst e
    exact .inl ⟨⟨xs, q, Nat.le_refl _⟩, hd σ H p⟩
theorem for_tup {K : PySem.W.Frag} {a : Addr} {xs : List V} {g : TG} {tb : TS} {D : Ends} {σ : St} {H : Hp} (Pv : Nat → St → Hp → Prop) (h0 : Pv 0 σ H) (hl : ∀ i σ H, i ≤ xs.length → Pv i σ H → SqT K H a xs)
    (hs : ∀ i x σ H, xs[i]? = some x → Pv i σ H → g x σ H fun σ2 H2 => tb { D with nx := Pv (i + 1), ct := Pv (i + 1), bk := D.nx } σ2 H2) (hd : ∀ σ H, Pv xs.length σ H → D.nx σ H) :
    ∃ W : Nat → Nat → St → Hp → Prop, (∃ m, W 0 m σ H) ∧ ∀ i m σ H, W i m σ H →
      ((Itt K a).stop i H ∧ D.nx σ H) ∨ ((Itt K a).go i H ∧ ∃ N : St → Hp → Prop, (∀ σ' H', N σ' H' → ∃ m', m' < m ∧ W (i + 1) m' σ' H') ∧ ∀ x H', (Itt K a).yld i H x H' → g x σ H' fun σ2 H2 => tb { D with nx := N, ct := N, bk := D.nx } σ2 H2) := by
  refine ⟨fun i m σ H => m = xs.length - i ∧ i ≤ xs.length ∧ Pv i σ H, ⟨xs.length, by simp, Nat.zero_le _, h0⟩, ?_⟩
  rintro i m σ H ⟨rfl, hi, p⟩
  have q := hl i σ H hi p
  by_cases hlt : i < xs.length
  · refine .inr ⟨⟨xs, xs[i], q, by simp [hlt]⟩, Pv (i + 1), fun σ' H' p' => ⟨xs.length - (i + 1), by omega, rfl, hlt, p'⟩, fun x H' y => ?_⟩
    obtain ⟨e, y⟩ := y
    subst e
    exact hs i x σ _ (y xs q) p
  · have e : i = xs.length := by omega
    subst e
    exact .inl ⟨⟨xs, q, Nat.le_refl _⟩, hd σ H p⟩
theorem for_range {lo : Int} {n : Nat} {g : TG} {tb : TS} {D : Ends} {σ : St} {H : Hp} (Pv : Nat → St → Hp → Prop) (h0 : Pv 0 σ H)
    (hs : ∀ i σ H, i < n → Pv i σ H → g (.int (lo + i)) σ H fun σ2 H2 => tb { D with nx := Pv (i + 1), ct := Pv (i + 1), bk := D.nx } σ2 H2) (hd : ∀ σ H, Pv n σ H → D.nx σ H) :
    ∃ W : Nat → Nat → St → Hp → Prop, (∃ m, W 0 m σ H) ∧ ∀ i m σ H, W i m σ H →
      ((Itr lo n).stop i H ∧ D.nx σ H) ∨ ((Itr lo n).go i H ∧ ∃ N : St → Hp → Prop, (∀ σ' H', N σ' H' → ∃ m', m' < m ∧ W (i + 1) m' σ' H') ∧ ∀ x H', (Itr lo n).yld i H x H' → g x σ H' fun σ2 H2 => tb { D with nx := N, ct := N, bk := D.nx } σ2 H2) := by
  refine ⟨fun i m σ H => m = n - i ∧ i ≤ n ∧ Pv i σ H, ⟨n, by simp, Nat.zero_le _, h0⟩, ?_⟩
  rintro i m σ H ⟨rfl, hi, p⟩
  by_cases hlt : i < n
  · refine .inr ⟨hlt, Pv (i + 1), fun σ' H' p' => ⟨n - (i + 1), by omega, rfl, hlt, p'⟩, fun x H' y => ?_⟩
    obtain ⟨e, y⟩ := y
    subst e y
    exact hs i σ _ hlt p
  · have e : i = n := by omega
    subst e
    exact .inl ⟨Nat.le_refl _, hd σ H p⟩
/-- while, by a word and a measure of the state -/
theorem while_by {c : TT} {tb : TS} {D : Ends} {σ : St} {H : Hp} (Pv : St → Hp → Prop) (μ : St → Hp → Nat) (h0 : Pv σ H)
    (hs : ∀ σ H, Pv σ H → c σ H fun b H1 => if b = true then tb { D with nx := fun σ' H' => Pv σ' H' ∧ μ σ' H' < μ σ H, ct := fun σ' H' => Pv σ' H' ∧ μ σ' H' < μ σ H, bk := D.nx } σ H1 else D.nx σ H1)
    (mono : ∀ σ H Q Q', (∀ b H1, Q b H1 → Q' b H1) → c σ H Q → c σ H Q') : tWhile c tb D σ H := by
  refine ⟨fun m σ H => m = μ σ H ∧ Pv σ H, ⟨_, rfl, h0⟩, ?_⟩
  rintro m σ H ⟨rfl, p⟩
  refine mono σ H _ _ (fun b H1 q => ?_) (hs σ H p)
  cases b with
  | true => exact ⟨_, fun σ' H' ⟨p', l⟩ => ⟨_, l, rfl, p'⟩, q⟩
  | false => exact q
end L2

namespace L2
open PySem PySem.Spec PyProof.Rows

abbrev R2 := V → V → Hp → VK → Prop
/-- a two-place operation on values: f is binaryOp op, inplaceOp op or compareOp op -/
def OpR (X : Cx) (f : Value → Value → Sem Value) (r : R2) : Prop :=
  ∀ (pins : List (Addr × Obj)) (s : Shared) (σ : St) (H : Hp) (x y : V) (v u : Value) (Q : VK), Inv X pins σ H s → RelV x v → RelV y u → r x y H Q →
    wpAny (model X.prog X.w) X.A (f v u) (EP X pins σ Q) X.xe s
/-- a one-place operation -/
def UnR (X : Cx) (f : Value → Sem Value) (r : V → Hp → VK → Prop) : Prop :=
  ∀ (pins : List (Addr × Obj)) (s : Shared) (σ : St) (H : Hp) (x : V) (v : Value) (Q : VK), Inv X pins σ H s → RelV x v → r x H Q →
    wpAny (model X.prog X.w) X.A (f v) (EP X pins σ Q) X.xe s
/-- a call of a value that is known (a builtin, a type) with values -/
def CallR (X : Cx) (f : Value) (r : List V → Hp → VK → Prop) : Prop :=
  ∀ (pins : List (Addr × Obj)) (s : Shared) (σ : St) (H : Hp) (xs : List V) (us : List Value) (Q : VK), Inv X pins σ H s → Vals xs us → r xs H Q →
    wpAny (model X.prog X.w) X.A (call f us) (EP X pins σ Q) X.xe s
/-- a value's truth -/
def TruR (X : Cx) (r : V → Hp → (Bool → Hp → Prop) → Prop) : Prop :=
  ∀ (pins : List (Addr × Obj)) (s : Shared) (σ : St) (H : Hp) (x : V) (v : Value) (Q : Bool → Hp → Prop), Inv X pins σ H s → RelV x v → r x H Q →
    wpAny (model X.prog X.w) X.A (truthy v) (TP X pins σ Q) X.xe s

def tOp (r : R2) (ta tb : TE) : TE := fun σ H Q => ta σ H fun x H1 => tb σ H1 fun y H2 => r x y H2 Q
def tUn (r : V → Hp → VK → Prop) (ta : TE) : TE := fun σ H Q => ta σ H fun x H1 => r x H1 Q
/-- ints in, under C, and a value out -/
def rI (C : Int → Int → Prop) (g : Int → Int → V) : R2 := fun x y H Q => ∃ i j, x = .int i ∧ y = .int j ∧ C i j ∧ Q (g i j) H
def rI0 (g : Int → Int → V) : R2 := fun x y H Q => ∃ i j, x = .int i ∧ y = .int j ∧ Q (g i j) H
def rU (g : Int → V) : V → Hp → VK → Prop := fun x H Q => ∃ i, x = .int i ∧ Q (g i) H

section
variable {X : Cx} {a b c : Expr} {ta tb tc : TE} {pos : Pos}

theorem binT (ha : PE X a ta) (hb : PE X b tb) {pins : List (Addr × Obj)} {s : Shared} {σ : St} {H : Hp} {R : V → V → Hp → Prop} (I : Inv X pins σ H s)
    (h : ta σ H fun x H1 => tb σ H1 fun y H2 => R x y H2) {Q : Value → Shared → Prop} {f : Value → Value → Sem Value}
    (hf : ∀ v u s2 x y H2, Inv X pins σ H2 s2 → RelV x v → RelV y u → R x y H2 → wpAny (model X.prog X.w) X.A (f v u) Q X.xe s2) :
    wpAny (model X.prog X.w) X.A (eval a X.env) (fun v s₁ => wpAny (model X.prog X.w) X.A (eval b X.env) (fun u s₂ => wpAny (model X.prog X.w) X.A (f v u) Q X.xe s₂) X.xe s₁) X.xe s := by
  refine thn (ha pins s σ H _ I h) fun v s1 ⟨x, H1, I1, r1, q1⟩ => ?_
  refine thn (hb pins s1 σ H1 _ I1 q1) fun u s2 ⟨y, H2, I2, r2, q2⟩ => ?_
  exact hf v u s2 x y H2 I2 r1 r2 q2

theorem pe_op {op : Operator} {r : R2} (ho : OpR X (binaryOp op) r) (ha : PE X a ta) (hb : PE X b tb) : PE X (.BinOp a op b pos) (tOp r ta tb) := by
  intro pins s σ H Q I h
  exact wpAny_BinOp (binT ha hb I h fun v u s2 x y H2 I2 rx ry q => ho pins s2 σ H2 x y v u Q I2 rx ry q)
theorem pe_un {op : UnaryOp} {r : V → Hp → VK → Prop} (ho : UnR X (unaryOp op) r) (ha : PE X a ta) : PE X (.UnaryOp op a pos) (tUn r ta) := by
  intro pins s σ H Q I h
  exact UnaryOp_ (thn (ha pins s σ H _ I h) fun v s1 ⟨x, H1, I1, r1, q1⟩ => ho pins s1 σ H1 x v Q I1 r1 q1)
/-- a op= e at a name: the name's slot i -/
theorem augR {op : Operator} {r : R2} (ho : OpR X (inplaceOp op) r) {pins : List (Addr × Obj)} {s : Shared} {σ : St} {H : Hp} {x y : V} {v u : Value} {Q : VK} (I : Inv X pins σ H s)
    (rx : RelV x v) (ry : RelV y u) (q : r x y H Q) : wpAny (model X.prog X.w) X.A (inplaceOp op v u) (EP X pins σ Q) X.xe s := ho pins s σ H x y v u Q I rx ry q

/-! ### ints -/
theorem opI {f : Value → Value → Sem Value} {C : Int → Int → Prop} {g : Int → Int → Int}
    (rule : ∀ (i j : Int) (t u : Tok) (s : Shared) (Q : Value → Shared → Prop) (E : Value → Shared → Prop), C i j → Q (.int (g i j) s.toks) { s with toks := s.toks + 1 } → wpAny (model X.prog X.w) X.A (f (.int i t) (.int j u)) Q E s) :
    OpR X f (rI C fun i j => .int (g i j)) := by
  intro pins s σ H x y v u Q I rx ry h
  obtain ⟨i, j, rfl, rfl, hc, q⟩ := h
  obtain ⟨t, rfl⟩ := rx
  obtain ⟨t', rfl⟩ := ry
  exact rule i j t t' s _ _ hc ⟨.int (g i j), H, I.tok _, ⟨_, rfl⟩, q⟩
theorem opI0 {f : Value → Value → Sem Value} {g : Int → Int → Int}
    (rule : ∀ (i j : Int) (t u : Tok) (s : Shared) (Q : Value → Shared → Prop) (E : Value → Shared → Prop), Q (.int (g i j) s.toks) { s with toks := s.toks + 1 } → wpAny (model X.prog X.w) X.A (f (.int i t) (.int j u)) Q E s) :
    OpR X f (rI0 fun i j => .int (g i j)) := by
  intro pins s σ H x y v u Q I rx ry h
  obtain ⟨i, j, rfl, rfl, q⟩ := h
  obtain ⟨t, rfl⟩ := rx
  obtain ⟨t', rfl⟩ := ry
  exact rule i j t t' s _ _ ⟨.int (g i j), H, I.tok _, ⟨_, rfl⟩, q⟩
theorem opB0 {f : Value → Value → Sem Value} {g : Int → Int → Bool}
    (rule : ∀ (i j : Int) (t u : Tok) (s : Shared) (Q : Value → Shared → Prop) (E : Value → Shared → Prop), Q (.bool (g i j)) s → wpAny (model X.prog X.w) X.A (f (.int i t) (.int j u)) Q E s) :
    OpR X f (rI0 fun i j => .bl (g i j)) := by
  intro pins s σ H x y v u Q I rx ry h
  obtain ⟨i, j, rfl, rfl, q⟩ := h
  obtain ⟨t, rfl⟩ := rx
  obtain ⟨t', rfl⟩ := ry
  exact rule i j t t' s _ _ ⟨.bl (g i j), H, I, rfl, q⟩

def CDiv (i j : Int) : Prop := 0 < j ∧ j < 1073741824
def CDivN (i j : Int) : Prop := j ≠ 0 ∧ j.natAbs < 1073741824
def CPow (i j : Int) : Prop := 0 ≤ j ∧ j ≤ 1000000 ∧ i.natAbs < 2 ^ 64
def CMul (i j : Int) : Prop := (-(2 ^ 64) < i ∧ i < 2 ^ 64) ∨ (-(2 ^ 64) < j ∧ j < 2 ^ 64)
theorem CMul.ok {i j : Int} (h : CMul i j) : IntMulOk i j := by
  rcases h with ⟨h1, h2⟩ | ⟨h1, h2⟩
  · exact .of_left (intBits_le_64 h1 h2)
  · exact .of_right (intBits_le_64 h1 h2)
theorem two_pow_nn (k : Nat) : (0 : Int) ≤ 2 ^ k := by
  rw [two_pow_cast]
  exact Int.natCast_nonneg _

theorem op_add : OpR X (binaryOp .Add) (rI0 fun i j => .int (i + j)) := opI0 fun _ _ _ _ _ _ _ q => add_int q
theorem op_sub : OpR X (binaryOp .Sub) (rI0 fun i j => .int (i - j)) := opI0 fun _ _ _ _ _ _ _ q => sub_int q
theorem op_mul : OpR X (binaryOp .Mult) (rI CMul fun i j => .int (i * j)) := opI fun _ _ _ _ _ _ _ hc q => mul_int q hc.ok
/-- // by a positive divisor -/
theorem op_fdiv : OpR X (binaryOp .FloorDiv) (rI CDiv fun i j => .int (i / j)) := opI fun i j _ _ _ _ _ hc q => by
  have h1 : (0 : Int) < j := hc.1
  have h2 : j < 1073741824 := hc.2
  exact floordiv_int (by omega) (by rw [Int.fdiv_eq_ediv_of_nonneg i (by omega)]; exact q) (.inl (PyProof.noPylong_small (by omega)))
theorem op_fdivN : OpR X (binaryOp .FloorDiv) (rI CDivN fun i j => .int (i.fdiv j)) := opI fun _ _ _ _ _ _ _ hc q => floordiv_int hc.1 q (.inl (PyProof.noPylong_small hc.2))
/-- % by a positive divisor of any size -/
theorem op_mod : OpR X (binaryOp .Mod) (rI (fun _ j => 0 < j) fun i j => .int (i % j)) := opI fun i j _ _ _ _ _ hc q => by
  have h1 : (0 : Int) < j := hc
  exact mod_int' (by omega) (by rw [Int.fmod_eq_emod_of_nonneg i (by omega)]; exact q)
theorem op_modN : OpR X (binaryOp .Mod) (rI (fun _ j => j ≠ 0) fun i j => .int (i.fmod j)) := opI fun _ _ _ _ _ _ _ hc q => mod_int' hc q
theorem op_pow : OpR X (binaryOp .Pow) (rI CPow fun i j => .int (i ^ j.toNat)) := opI fun _ _ _ _ _ _ _ hc q => pow_int_small hc.1 hc.2.1 hc.2.2 q
theorem op_shl : OpR X (binaryOp .LShift) (rI CPow fun i j => .int (i * 2 ^ j.toNat)) := opI fun _ _ _ _ _ _ _ hc q => lshift_int_small hc.1 hc.2.1 hc.2.2 q
theorem op_shr : OpR X (binaryOp .RShift) (rI (fun _ j => 0 ≤ j) fun i j => .int (i / 2 ^ j.toNat)) := opI fun i j _ _ _ _ _ hc q =>
  rshift_int hc (by rw [Int.fdiv_eq_ediv_of_nonneg i (two_pow_nn _)]; exact q)
theorem op_and : OpR X (binaryOp .BitAnd) (rI0 fun i j => .int (Builtin.bitAnd i j)) := opI0 fun _ _ _ _ _ _ _ q => and_int q
theorem op_or : OpR X (binaryOp .BitOr) (rI0 fun i j => .int (Builtin.bitOr i j)) := opI0 fun _ _ _ _ _ _ _ q => or_int q
theorem op_xor : OpR X (binaryOp .BitXor) (rI0 fun i j => .int (Builtin.bitXor i j)) := opI0 fun _ _ _ _ _ _ _ q => xor_int q

theorem iop_add : OpR X (inplaceOp .Add) (rI0 fun i j => .int (i + j)) := opI0 fun _ _ _ _ _ _ _ q => iadd_int q
theorem iop_sub : OpR X (inplaceOp .Sub) (rI0 fun i j => .int (i - j)) := opI0 fun _ _ _ _ _ _ _ q => isub_int q
theorem iop_mul : OpR X (inplaceOp .Mult) (rI CMul fun i j => .int (i * j)) := opI fun _ _ _ _ _ _ _ hc q => imul_int q hc.ok
theorem iop_fdiv : OpR X (inplaceOp .FloorDiv) (rI CDiv fun i j => .int (i / j)) := opI fun i j _ _ _ _ _ hc q => by
  have h1 : (0 : Int) < j := hc.1
  have h2 : j < 1073741824 := hc.2
  exact ifloordiv_int (by omega) (by rw [Int.fdiv_eq_ediv_of_nonneg i (by omega)]; exact q) (.inl (PyProof.noPylong_small (by omega)))
theorem iop_mod : OpR X (inplaceOp .Mod) (rI (fun _ j => 0 < j) fun i j => .int (i % j)) := opI fun i j _ _ _ _ _ hc q => by
  have h1 : (0 : Int) < j := hc
  exact imod_int (by omega) (by rw [Int.fmod_eq_emod_of_nonneg i (by omega)]; exact q)
theorem iop_shl : OpR X (inplaceOp .LShift) (rI CPow fun i j => .int (i * 2 ^ j.toNat)) := opI fun _ _ _ _ _ _ _ hc q => ilshift_int_small hc.1 hc.2.1 hc.2.2 q
theorem iop_shr : OpR X (inplaceOp .RShift) (rI (fun _ j => 0 ≤ j) fun i j => .int (i / 2 ^ j.toNat)) := opI fun i j _ _ _ _ _ hc q =>
  irshift_int hc (by rw [Int.fdiv_eq_ediv_of_nonneg i (two_pow_nn _)]; exact q)
theorem iop_and : OpR X (inplaceOp .BitAnd) (rI0 fun i j => .int (Builtin.bitAnd i j)) := opI0 fun _ _ _ _ _ _ _ q => iand_int q
theorem iop_or : OpR X (inplaceOp .BitOr) (rI0 fun i j => .int (Builtin.bitOr i j)) := opI0 fun _ _ _ _ _ _ _ q => ior_int q
theorem iop_xor : OpR X (inplaceOp .BitXor) (rI0 fun i j => .int (Builtin.bitXor i j)) := opI0 fun _ _ _ _ _ _ _ q => ixor_int q

theorem unI {f : Value → Sem Value} {g : Int → Int}
    (rule : ∀ (i : Int) (t : Tok) (s : Shared) (Q : Value → Shared → Prop) (E : Value → Shared → Prop), Q (.int (g i) s.toks) { s with toks := s.toks + 1 } → wpAny (model X.prog X.w) X.A (f (.int i t)) Q E s) :
    UnR X f (rU fun i => .int (g i)) := by
  intro pins s σ H x v Q I rx h
  obtain ⟨i, rfl, q⟩ := h
  obtain ⟨t, rfl⟩ := rx
  exact rule i t s _ _ ⟨.int (g i), H, I.tok _, ⟨_, rfl⟩, q⟩
theorem un_neg : UnR X (unaryOp .USub) (rU fun i => .int (-i)) := unI fun _ _ _ _ _ q => neg_int q
theorem un_inv : UnR X (unaryOp .Invert) (rU fun i => .int (Builtin.bitNot i)) := unI fun _ _ _ _ _ q => invert_int q

/-! ### bools among ints: n += (a < b) -/
theorem op_add_ib : OpR X (binaryOp .Add) (fun x y H Q => ∃ i k, x = .int i ∧ y = .bl k ∧ Q (.int (i + b2i k)) H) := by
  intro pins s σ H x y v u Q I rx ry h
  obtain ⟨i, k, rfl, rfl, q⟩ := h
  obtain ⟨t, rfl⟩ := rx
  cases ry
  exact add_int_bool ⟨.int (i + b2i k), H, I.tok _, ⟨_, rfl⟩, q⟩
end

/-! ### comparisons -/
/-- the scalars that == tells apart as data does -/
def scal : V → V → Bool
  | .non, .non => true | .non, .int _ => true | .int _, .non => true | .non, .bl _ => true | .bl _, .non => true | .non, .str _ => true | .str _, .non => true
  | .int _, .int _ => true | .bl _, .bl _ => true | .str _, .str _ => true | .byt _, .byt _ => true
  | .int _, .str _ => true | .str _, .int _ => true | .bl _, .str _ => true | .str _, .bl _ => true
  | _, _ => false
def rEq : R2 := fun x y H Q => scal x y = true ∧ Q (.bl (decide (x = y))) H
def rNe : R2 := fun x y H Q => scal x y = true ∧ Q (.bl (!decide (x = y))) H

theorem dec_int {i j : Int} : decide (V.int i = V.int j) = (i == j) := by
  rw [Bool.eq_iff_iff]
  simp
theorem dec_bl {i j : Bool} : decide (V.bl i = V.bl j) = (i == j) := by
  rw [Bool.eq_iff_iff]
  simp
theorem dec_str {i j : Str} : decide (V.str i = V.str j) = (i == j) := by
  rw [Bool.eq_iff_iff]
  simp
theorem dec_byt {i j : Array UInt8} : decide (V.byt i = V.byt j) = (i.toList == j.toList) := by
  rw [Bool.eq_iff_iff]
  cases i
  cases j
  simp

section
variable {X : Cx} {a b c : Expr} {ta tb tc : TE} {pos : Pos}
theorem fin_bl {pins : List (Addr × Obj)} {σ : St} {H : Hp} {s : Shared} {Q : VK} {k k' : Bool} (I : Inv X pins σ H s) (q : Q (.bl k) H) (e : k = k') : EP X pins σ Q (.bool k') s := by
  subst e
  exact ⟨.bl k, H, I, rfl, q⟩
theorem op_eq : OpR X (compareOp .Eq) rEq := by
  intro pins s σ H x y v u Q I rx ry h
  obtain ⟨hs, q⟩ := h
  cases x with
  | non =>
    cases rx
    cases y with
    | non => cases ry; exact PySem.EqNone.eq_none_none (fin_bl I q (by simp))
    | bl j => cases ry; exact PySem.EqNone.eq_none_bool (fin_bl I q (by simp))
    | int j => obtain ⟨t', rfl⟩ := ry; exact PySem.EqNone.eq_none_int (fin_bl I q (by simp))
    | str j => obtain ⟨t', rfl⟩ := ry; exact PySem.EqNone.eq_none_str (fin_bl I q (by simp))
    | _ => exact absurd (show false = true from hs) Bool.false_ne_true
  | bl i =>
    cases rx
    cases y with
    | non => cases ry; exact PySem.EqNone.eq_bool_none (fin_bl I q (by simp))
    | bl j => cases ry; exact eq_bool (fin_bl I q dec_bl)
    | str j => obtain ⟨t', rfl⟩ := ry; exact PySem.EqMixed.eq_bool_str (fin_bl I q (by simp))
    | _ => exact absurd (show false = true from hs) Bool.false_ne_true
  | int i =>
    obtain ⟨t, rfl⟩ := rx
    cases y with
    | non => cases ry; exact PySem.EqNone.eq_int_none (fin_bl I q (by simp))
    | int j => obtain ⟨t', rfl⟩ := ry; exact eq_int (fin_bl I q dec_int)
    | str j => obtain ⟨t', rfl⟩ := ry; exact PySem.EqMixed.eq_int_str (fin_bl I q (by simp))
    | _ => exact absurd (show false = true from hs) Bool.false_ne_true
  | str i =>
    obtain ⟨t, rfl⟩ := rx
    cases y with
    | non => cases ry; exact PySem.EqNone.eq_str_none (fin_bl I q (by simp))
    | bl j => cases ry; exact PySem.EqMixed.eq_str_bool (fin_bl I q (by simp))
    | int j => obtain ⟨t', rfl⟩ := ry; exact PySem.EqMixed.eq_str_int (fin_bl I q (by simp))
    | str j => obtain ⟨t', rfl⟩ := ry; exact eq_str (fin_bl I q dec_str)
    | _ => exact absurd (show false = true from hs) Bool.false_ne_true
  | byt i =>
    obtain ⟨t, rfl⟩ := rx
    cases y with
    | byt j => obtain ⟨t', rfl⟩ := ry; exact PySem.W.eq_bytes (fin_bl I q dec_byt)
    | _ => exact absurd (show false = true from hs) Bool.false_ne_true
  | _ => cases y <;> exact absurd (show false = true from hs) Bool.false_ne_true
theorem op_ne : OpR X (compareOp .NotEq) rNe := by
  intro pins s σ H x y v u Q I rx ry h
  obtain ⟨hs, q⟩ := h
  cases x with
  | non =>
    cases rx
    cases y with
    | non => cases ry; exact PySem.EqNone.ne_none_none (fin_bl I q (by simp))
    | bl j => cases ry; exact PySem.EqNone.ne_none_bool (fin_bl I q (by simp))
    | int j => obtain ⟨t', rfl⟩ := ry; exact PySem.EqNone.ne_none_int (fin_bl I q (by simp))
    | str j => obtain ⟨t', rfl⟩ := ry; exact PySem.EqNone.ne_none_str (fin_bl I q (by simp))
    | _ => exact absurd (show false = true from hs) Bool.false_ne_true
  | bl i =>
    cases rx
    cases y with
    | non => cases ry; exact PySem.EqNone.ne_bool_none (fin_bl I q (by simp))
    | bl j => cases ry; exact ne_bool (fin_bl I q (congrArg not dec_bl))
    | str j => obtain ⟨t', rfl⟩ := ry; exact PySem.EqMixed.ne_bool_str (fin_bl I q (by simp))
    | _ => exact absurd (show false = true from hs) Bool.false_ne_true
  | int i =>
    obtain ⟨t, rfl⟩ := rx
    cases y with
    | non => cases ry; exact PySem.EqNone.ne_int_none (fin_bl I q (by simp))
    | int j => obtain ⟨t', rfl⟩ := ry; exact ne_int (fin_bl I q (congrArg not dec_int))
    | str j => obtain ⟨t', rfl⟩ := ry; exact PySem.EqMixed.ne_int_str (fin_bl I q (by simp))
    | _ => exact absurd (show false = true from hs) Bool.false_ne_true
  | str i =>
    obtain ⟨t, rfl⟩ := rx
    cases y with
    | non => cases ry; exact PySem.EqNone.ne_str_none (fin_bl I q (by simp))
    | bl j => cases ry; exact PySem.EqMixed.ne_str_bool (fin_bl I q (by simp))
    | int j => obtain ⟨t', rfl⟩ := ry; exact PySem.EqMixed.ne_str_int (fin_bl I q (by simp))
    | str j => obtain ⟨t', rfl⟩ := ry; exact ne_str (fin_bl I q (congrArg not dec_str))
    | _ => exact absurd (show false = true from hs) Bool.false_ne_true
  | byt i =>
    obtain ⟨t, rfl⟩ := rx
    cases y with
    | byt j => obtain ⟨t', rfl⟩ := ry; exact PySem.W.ne_bytes (fin_bl I q (congrArg not dec_byt))
    | _ => exact absurd (show false = true from hs) Bool.false_ne_true
  | _ => cases y <;> exact absurd (show false = true from hs) Bool.false_ne_true

theorem op_lt : OpR X (compareOp .Lt) (rI0 fun i j => .bl (decide (i < j))) := opB0 fun _ _ _ _ _ _ _ q => lt_int q
theorem op_le : OpR X (compareOp .LtE) (rI0 fun i j => .bl (decide (i ≤ j))) := opB0 fun _ _ _ _ _ _ _ q => le_int q
theorem op_gt : OpR X (compareOp .Gt) (rI0 fun i j => .bl (decide (j < i))) := opB0 fun _ _ _ _ _ _ _ q => gt_int q
theorem op_ge : OpR X (compareOp .GtE) (rI0 fun i j => .bl (decide (j ≤ i))) := opB0 fun _ _ _ _ _ _ _ q => ge_int q
theorem op_lt_str : OpR X (compareOp .Lt) (fun x y H Q => ∃ i j, x = .str i ∧ y = .str j ∧ Q (.bl (decide (i.cps.toList < j.cps.toList))) H) := by
  intro pins s σ H x y v u Q I rx ry h
  obtain ⟨i, j, rfl, rfl, q⟩ := h
  obtain ⟨t, rfl⟩ := rx
  obtain ⟨t', rfl⟩ := ry
  exact lt_str (fin_bl I q rfl)
/-- the one string within the other -/
theorem op_in_str : OpR X (compareOp .In) (fun x y H Q => ∃ i j, x = .str i ∧ y = .str j ∧ Q (.bl (!(Builtin.Str.occurrences j i 0 j.length 1).isEmpty)) H) := by
  intro pins s σ H x y v u Q I rx ry h
  obtain ⟨i, j, rfl, rfl, q⟩ := h
  obtain ⟨t, rfl⟩ := rx
  obtain ⟨t', rfl⟩ := ry
  exact in_str (fin_bl I q rfl)

/-- is None, is not None: the right side a value none -/
theorem op_isN : OpR X (compareOp .Is) (fun x y H Q => y = .non ∧ Q (.bl (decide (x = .non))) H) := by
  intro pins s σ H x y v u Q I rx ry h
  obtain ⟨rfl, q⟩ := h
  cases ry
  refine is_none_gen (fin_bl I q ?_)
  cases x <;> first
    | (cases rx; rfl)
    | (obtain ⟨t, rfl⟩ := rx; rfl)
theorem op_notN : OpR X (compareOp .IsNot) (fun x y H Q => y = .non ∧ Q (.bl (!decide (x = .non))) H) := by
  intro pins s σ H x y v u Q I rx ry h
  obtain ⟨rfl, q⟩ := h
  cases ry
  refine isnot_none_gen (fin_bl I q ?_)
  cases x <;> first
    | (cases rx; rfl)
    | (obtain ⟨t, rfl⟩ := rx; rfl)

theorem op_notin_str : OpR X (compareOp .NotIn) (fun x y H Q => ∃ i j, x = .str i ∧ y = .str j ∧ Q (.bl (!(!(Builtin.Str.occurrences j i 0 j.length 1).isEmpty))) H) := by
  intro pins s σ H x y v u Q I rx ry h
  obtain ⟨i, j, rfl, rfl, q⟩ := h
  obtain ⟨t, rfl⟩ := rx
  obtain ⟨t', rfl⟩ := ry
  exact notIn_str (fin_bl I q rfl)
/-- is, is not of two objects that are tracked lists or instances -/
def isObj : HO → Bool
  | .lst _ => true
  | .ins _ _ _ => true
  | _ => false
theorem obj_there {pins : List (Addr × Obj)} {s : Shared} {σ : St} {H : Hp} {a : Addr} {o : HO} (I : Inv X pins σ H s) (h : H a = some o) (p : isObj o = true) : ∃ ob, s.heap.get? a = some ob ∧ ob.cls ≠ .type "tuple" := by
  cases o with
  | lst xs =>
    obtain ⟨_, its, n, _, e⟩ : xs.length ≤ sizeLine ∧ ∃ (its : List Value) (n : Nat), Vals xs its ∧ s.heap.get? a = some { cls := .type "list", data := .seq its.toArray n } := I.hok a _ h
    exact ⟨_, e, (by show Value.type "list" ≠ .type "tuple"; decide +kernel)⟩
  | ins C dx fs =>
    have x := I.hok a _ h
    obtain ⟨_, _, _, e, _⟩ := x
    exact ⟨_, e, (by show Value.ref C ≠ .type "tuple"; exact fun z => by cases z)⟩
  | _ => exact absurd (show false = true from p) Bool.false_ne_true
theorem op_is_ref : OpR X (compareOp .Is) (fun x y H Q => ∃ a b oa ob, x = .ref a ∧ y = .ref b ∧ H a = some oa ∧ isObj oa = true ∧ H b = some ob ∧ isObj ob = true ∧ Q (.bl (decide (a = b))) H) := by
  intro pins s σ H x y v u Q I rx ry h
  obtain ⟨a, b, oa, ob, rfl, rfl, ha, pa, hb, pb, q⟩ := h
  cases rx
  cases ry
  obtain ⟨o1, e1, n1⟩ := obj_there I ha pa
  obtain ⟨o2, e2, _⟩ := obj_there I hb pb
  by_cases z : a = b
  · subst z
    exact wpAny_is_ref_self (fin_bl I q (by simp))
  · exact wpAny_is_ref_other z e1 e2 n1 (fin_bl I q (by simp [z]))
theorem op_isnot_ref : OpR X (compareOp .IsNot) (fun x y H Q => ∃ a b oa ob, x = .ref a ∧ y = .ref b ∧ H a = some oa ∧ isObj oa = true ∧ H b = some ob ∧ isObj ob = true ∧ Q (.bl (!decide (a = b))) H) := by
  intro pins s σ H x y v u Q I rx ry h
  obtain ⟨a, b, oa, ob, rfl, rfl, ha, pa, hb, pb, q⟩ := h
  cases rx
  cases ry
  obtain ⟨o1, e1, n1⟩ := obj_there I ha pa
  obtain ⟨o2, e2, _⟩ := obj_there I hb pb
  by_cases z : a = b
  · subst z
    exact wpAny_isNot_ref_self (fin_bl I q (by simp))
  · exact wpAny_isNot_ref_other z e1 e2 n1 (fin_bl I q (by simp [z]))

/-- two rules for one operation: by cases -/
theorem OpR.or {f : Value → Value → Sem Value} {r r' : R2} (h : OpR X f r) (h' : OpR X f r') : OpR X f (fun x y H Q => r x y H Q ∨ r' x y H Q) := by
  intro pins s σ H x y v u Q I rx ry q
  rcases q with q | q
  · exact h pins s σ H x y v u Q I rx ry q
  · exact h' pins s σ H x y v u Q I rx ry q

theorem nomark (b : Expr) {op : CmpOp} (h : op ≠ .In := by decide) (h2 : op ≠ .NotIn := by decide) : behindInMarks op b = false := by
  have e1 : (op == CmpOp.In) = false := by cases op <;> first | rfl | exact absurd rfl h
  have e2 : (op == CmpOp.NotIn) = false := by cases op <;> first | rfl | exact absurd rfl h2
  cases b <;> simp [behindInMarks, e1, e2]
/-- a comparison as a value; hm: nomark b, or (for in, not in) by with_unfolding_all rfl -/
theorem pe_cmpR {op : CmpOp} {r : R2} (ho : OpR X (compareOp op) r) (ha : PE X a ta) (hb : PE X b tb) (hm : behindInMarks op b = false) : PE X (.Compare a [op] [b] pos) (tOp r ta tb) := by
  intro pins s σ H Q I h
  exact wpAny_Compare1 (binT ha hb I h fun v u s2 x y H2 I2 rx ry q => ho pins s2 σ H2 x y v u Q I2 rx ry q) hm
/-- a reading of a value as a test -/
def tTest (t : TE) : TT := fun σ H Q => t σ H fun x H' => ∃ k, x = .bl k ∧ Q k H'
theorem pt_cmpR {op : CmpOp} {r : R2} (ho : OpR X (compareOp op) r) (ha : PE X a ta) (hb : PE X b tb) (hm : behindInMarks op b = false) : PT X (.Compare a [op] [b] pos) (tTest (tOp r ta tb)) := by
  intro pins s σ H Q I h
  refine wpAny_isTrue_Compare1 (thn (ha pins s σ H _ I h) fun v s1 ⟨x, H1, I1, r1, q1⟩ => thn (hb pins s1 σ H1 _ I1 q1) fun u s2 ⟨y, H2, I2, r2, q2⟩ =>
    thn (ho pins s2 σ H2 x y v u _ I2 r1 r2 q2) fun c s3 ⟨z, H3, I3, r3, k, e, q3⟩ => ?_) hm
  subst e
  cases r3
  exact wpAny_truthy_bool ⟨H3, I3, q3⟩
/-- a op1 b op2 c -/
def tChain (r r' : R2) (ta tb tc : TE) : TE := fun σ H Q => ta σ H fun x H1 => tb σ H1 fun y H2 => r x y H2 fun z H3 => ∃ k, z = .bl k ∧
  (if k = true then tc σ H3 fun w' H4 => r' y w' H4 Q else Q (.bl false) H3)
theorem pe_chain {op op' : CmpOp} {r r' : R2} (ho : OpR X (compareOp op) r) (ho' : OpR X (compareOp op') r') (ha : PE X a ta) (hb : PE X b tb) (hc : PE X c tc)
    (hm : lastMarks [op, op'] [b, c] = false := by with_unfolding_all rfl) : PE X (.Compare a [op, op'] [b, c] pos) (tChain r r' ta tb tc) := by
  intro pins s σ H Q I h
  refine Compare_chain (thn (ha pins s σ H _ I h) fun v s1 ⟨x, H1, I1, r1, q1⟩ => chain_link (thn (hb pins s1 σ H1 _ I1 q1) fun u s2 ⟨y, H2, I2, r2, q2⟩ =>
    thn (ho pins s2 σ H2 x y v u _ I2 r1 r2 q2) fun d s3 ⟨z, H3, I3, r3, k, e, q3⟩ => ?_)) hm
  subst e
  cases r3
  refine wpAny_truthy_bool ?_
  cases k with
  | false => exact ite_ff ⟨.bl false, H3, I3, rfl, q3⟩
  | true => exact ite_tt (chain_last (thn (hc pins s3 σ H3 _ I3 q3) fun w' s4 ⟨z', H4, I4, r4, q4⟩ => ho' pins s4 σ H4 y z' u w' Q I4 r2 r4 q4))
theorem pt_chain {op op' : CmpOp} {r r' : R2} (ho : OpR X (compareOp op) r) (ho' : OpR X (compareOp op') r') (ha : PE X a ta) (hb : PE X b tb) (hc : PE X c tc)
    (hm : lastMarks [op, op'] [b, c] = false := by with_unfolding_all rfl) : PT X (.Compare a [op, op'] [b, c] pos) (tTest (tChain r r' ta tb tc)) := by
  intro pins s σ H Q I h
  refine isTrue_chain (thn (ha pins s σ H _ I h) fun v s1 ⟨x, H1, I1, r1, q1⟩ => test_link (thn (hb pins s1 σ H1 _ I1 q1) fun u s2 ⟨y, H2, I2, r2, q2⟩ =>
    thn (ho pins s2 σ H2 x y v u _ I2 r1 r2 q2) fun d s3 ⟨z, H3, I3, r3, k, e, q3⟩ => ?_)) hm
  subst e
  cases r3
  refine wpAny_truthy_bool ?_
  cases k with
  | false =>
    obtain ⟨k', e', q'⟩ := q3
    cases e'
    exact ite_ff ⟨H3, I3, q'⟩
  | true =>
    refine ite_tt (test_last (thn (hc pins s3 σ H3 _ I3 q3) fun w' s4 ⟨z', H4, I4, r4, q4⟩ => thn (ho' pins s4 σ H4 y z' u w' _ I4 r2 r4 q4) fun d' s5 ⟨z2, H5, I5, r5, k2, e2, q5⟩ => ?_))
    subst e2
    cases r5
    exact wpAny_truthy_bool ⟨H5, I5, q5⟩

/-! ### truth -/
/-- a value's truth by the abstract heap -/
def TruV (K : PySem.W.Frag) (x : V) (H : Hp) (k : Bool) : Prop :=
  match x with
  | .non => k = false
  | .bl b => k = b
  | .int i => k = (i != 0)
  | .str y => y.length ≤ sizeLine ∧ k = ((y.length : Int) != 0)
  | .byt y => y.size ≤ sizeLine ∧ k = ((y.size : Int) != 0)
  | .ref p => (∃ xs, SqL K H p xs ∧ k = !xs.isEmpty) ∨ (∃ xs, SqT K H p xs ∧ k = !xs.isEmpty) ∨ ∃ kvs, H p = some (.dK kvs) ∧ k = !kvs.isEmpty
  | _ => False
theorem isEmpty_kv {κ : Type} {kvs : List (κ × V)} {vs : List (κ × Value)} (r : KV kvs vs) : (!vs.isEmpty) = !kvs.isEmpty := by
  cases r <;> rfl
theorem isEmpty_of {xs : List V} {its : List Value} (r : Vals xs its) : (!its.toArray.isEmpty) = !xs.isEmpty := by
  cases r <;> simp
theorem line63 : (sizeLine : Nat) < 2 ^ 63 := by rw [sizeLine_eq]; decide
theorem tru_ok : TruR X (fun x H Q => ∃ k, TruV X.K x H k ∧ Q k H) := by
  intro pins s σ H x v Q I rx h
  obtain ⟨k, e, q⟩ := h
  have hl := line63
  have hs : sizeLine = 16777216 := sizeLine_eq
  cases x with
  | non =>
    cases rx
    have e' : k = false := e
    subst e'
    exact truthy_none ⟨H, I, q⟩
  | bl b =>
    cases rx
    have e' : k = b := e
    subst e'
    exact wpAny_truthy_bool ⟨H, I, q⟩
  | int i =>
    obtain ⟨t, rfl⟩ := rx
    have e' : k = (i != 0) := e
    subst e'
    exact PySem.P.truthy_int ⟨H, I, q⟩
  | str y =>
    obtain ⟨t, rfl⟩ := rx
    obtain ⟨hy, e'⟩ : y.length ≤ sizeLine ∧ k = ((y.length : Int) != 0) := e
    subst e'
    exact PySem.P.truthy_str (by omega) ⟨H, I.tok _, q⟩
  | byt y =>
    obtain ⟨t, rfl⟩ := rx
    obtain ⟨hy, e'⟩ : y.size ≤ sizeLine ∧ k = ((y.size : Int) != 0) := e
    subst e'
    exact PySem.W.truthy_bytes (by omega) ⟨H, I.tok _, q⟩
  | ref p =>
    cases rx
    have e' : (∃ xs, SqL X.K H p xs ∧ k = !xs.isEmpty) ∨ (∃ xs, SqT X.K H p xs ∧ k = !xs.isEmpty) ∨ ∃ kvs, H p = some (.dK kvs) ∧ k = !kvs.isEmpty := e
    rcases e' with ⟨xs, hx, e'⟩ | ⟨xs, hx, e'⟩ | ⟨kvs, hx, e'⟩
    · subst e'
      obtain ⟨its, r, pl, hz⟩ := I.list hx
      have hlen := r.length
      exact wpAny_truthy_list pl.isList (by simp only [List.size_toArray]; omega) ⟨H, I.tok _, by rw [isEmpty_of r]; exact q⟩
    · subst e'
      obtain ⟨its, r, pl, hz⟩ := I.tuple hx
      have hlen := r.length
      exact truthy_tuple pl (by simp only [List.size_toArray]; omega) ⟨H, I.tok _, by rw [isEmpty_of r]; exact q⟩
    · subst e'
      obtain ⟨hz, hS, vs, r, m⟩ : kvs.length ≤ sizeLine ∧ (p == sysModules) = false ∧ ∃ vs, KV kvs vs ∧ s.heap.DictOf (mixKind X.prog X.w) p vs := I.hok p _ hx
      have hlen : kvs.length = vs.length := Paired.length r
      exact wpAny_truthy_dict hS m (by omega) ⟨H, I.tok _, by rw [isEmpty_kv r]; exact q⟩
  | _ => exact (show False from e).elim
/-- any expression whose test is its value's truth (a name, a call, a subscript, a field ..: he by fun _ => rfl) -/
theorem pt_truth (ha : PE X a ta) (he : ∀ whole, isTrue a X.env whole = (do let v ← whole; standAt a.pos; holding [v] (truthy v))) :
    PT X a (fun σ H Q => ta σ H fun x H' => ∃ k, TruV X.K x H' k ∧ Q k H') := by
  intro pins s σ H Q I h
  exact isTrue_plain (thn (ha pins s σ H _ I h) fun v s1 ⟨x, H1, I1, r1, q1⟩ => tru_ok pins s1 σ H1 x v Q I1 r1 q1) (he _)

/-! ### strs and bytes -/
theorem pe_byt {x : List UInt8} {k : Nat} : PE X (.Constant (.bytes x) k pos) (fun _ H Q => Q (.byt x.toArray) H) := fun _ _ _ H _ I h => PySem.W.Constant_bytes ⟨.byt x.toArray, H, I.tok _, ⟨_, rfl⟩, h⟩
theorem op_add_str : OpR X (binaryOp .Add) (fun x y H Q => ∃ i j, x = .str i ∧ y = .str j ∧ i.length + j.length ≤ sizeLine ∧ Q (.str (i ++ j)) H) := by
  intro pins s σ H x y v u Q I rx ry h
  obtain ⟨i, j, rfl, rfl, hz, q⟩ := h
  obtain ⟨t, rfl⟩ := rx
  obtain ⟨t', rfl⟩ := ry
  exact add_str (fun t' tk => ⟨.str (i ++ j), H, I.tok _, ⟨_, rfl⟩, q⟩) hz
theorem iop_add_str : OpR X (inplaceOp .Add) (fun x y H Q => ∃ i j, x = .str i ∧ y = .str j ∧ i.length + j.length ≤ sizeLine ∧ Q (.str (i ++ j)) H) := by
  intro pins s σ H x y v u Q I rx ry h
  obtain ⟨i, j, rfl, rfl, hz, q⟩ := h
  obtain ⟨t, rfl⟩ := rx
  obtain ⟨t', rfl⟩ := ry
  exact iadd_str (fun t' tk => ⟨.str (i ++ j), H, I.tok _, ⟨_, rfl⟩, q⟩) hz
theorem op_add_byt : OpR X (binaryOp .Add) (fun x y H Q => ∃ i j, x = .byt i ∧ y = .byt j ∧ i.size + j.size ≤ 16777216 ∧ Q (.byt (i ++ j)) H) := by
  intro pins s σ H x y v u Q I rx ry h
  obtain ⟨i, j, rfl, rfl, hz, q⟩ := h
  obtain ⟨t, rfl⟩ := rx
  obtain ⟨t', rfl⟩ := ry
  exact PySem.W.KBy.add_bytes hz (fun t' tk => ⟨.byt (i ++ j), H, I.tok _, ⟨_, rfl⟩, q⟩)

def PlainIxT (b : Expr) : Prop := ∀ o i, subscripted b false o i = operate [o, i] (getItem o i)
/-- s[i], 0 ≤ i < len -/
theorem pe_item_str (ha : PE X a ta) (hb : PE X b tb) (hs : PlainIxT b) :
    PE X (.Subscript a b pos) (tOp (fun x y H Q => ∃ z i c, x = .str z ∧ y = .int i ∧ 0 ≤ i ∧ i < 2 ^ 63 ∧ i < z.length ∧ z.cps[i.toNat]? = some c ∧ Q (.str ⟨#[c]⟩) H) ta tb) := by
  intro pins s σ H Q I h
  refine Subscript_ (binT ha hb I h fun v u s2 x y H2 I2 rx ry q => ?_)
  obtain ⟨z, i, c, rfl, rfl, h0, h63, h1, hc, q⟩ := q
  obtain ⟨t, rfl⟩ := rx
  obtain ⟨t', rfl⟩ := ry
  have e : seqIndex? i z.length = some i.toNat := PySem.StrLaws.seqIndex_nonneg h0 h1
  exact tail_any (typeIs_str s2 z t) slot_str_getitem.lookup (getItem_str (c := c) (by
    have e1 : decide (i < -(2 ^ 63 : Int)) = false := decide_eq_false (by omega)
    have e2 : decide (i ≥ 2 ^ 63) = false := decide_eq_false (by omega)
    rw [e1, e2] <;> rfl) (by rw [e]; exact hc) ⟨.str ⟨#[c]⟩, H2, I2.tok _, ⟨_, rfl⟩, q⟩) (hs _ _)
/-- b[i], 0 ≤ i < len -/
theorem pe_item_byt (ha : PE X a ta) (hb : PE X b tb) (hs : PlainIxT b) :
    PE X (.Subscript a b pos) (tOp (fun x y H Q => ∃ (z : List UInt8) (i : Int), x = .byt z.toArray ∧ y = .int i ∧ z.length ≤ sizeLine ∧ 0 ≤ i ∧ i < z.length ∧ Q (.int ((z.getD i.toNat 0).toNat : Nat)) H) ta tb) := by
  intro pins s σ H Q I h
  refine Subscript_ (binT ha hb I h fun v u s2 x y H2 I2 rx ry q => ?_)
  obtain ⟨z, i, rfl, rfl, hz, h0, h1, q⟩ := q
  obtain ⟨t, rfl⟩ := rx
  obtain ⟨t', rfl⟩ := ry
  have hl : sizeLine = 16777216 := sizeLine_eq
  exact tail_any (PySem.W.typeIs_bytes s2 z.toArray t) PySem.W.FB.slot_bytes_getitem.lookup (PySem.W.getItem_bytes (by omega) h0 h1 ⟨.int ((z.getD i.toNat 0).toNat : Nat), H2, I2.tok _, ⟨_, rfl⟩, q⟩) (hs _ _)

/-! ### scalar builtins, by CallR -/
theorem vals1 {x : V} {us : List Value} (r : Vals [x] us) : ∃ u, us = [u] ∧ RelV x u := by
  cases r with
  | cons r1 r2 => cases r2; exact ⟨_, rfl, r1⟩
theorem vals2 {x y : V} {us : List Value} (r : Vals [x, y] us) : ∃ u w', us = [u, w'] ∧ RelV x u ∧ RelV y w' := by
  cases r with
  | cons r1 r2 =>
    cases r2 with
    | cons r3 r4 => cases r4; exact ⟨_, _, rfl, r1, r3⟩
theorem call_abs : CallR X (.builtin "abs") (fun xs H Q => ∃ i, xs = [.int i] ∧ Q (.int (if i < 0 then -i else i)) H) := by
  intro pins s σ H xs us Q I r h
  obtain ⟨i, rfl, q⟩ := h
  obtain ⟨u, rfl, t, rfl⟩ := vals1 r
  exact call_abs_int fun u tk => ⟨.int (if i < 0 then -i else i), H, I.tok _, ⟨_, rfl⟩, q⟩
theorem call_max2 (hc : X.calm = true) : CallR X (.builtin "max") (fun xs H Q => ∃ i j, xs = [.int i, .int j] ∧ Q (.int (if j > i then j else i)) H) := by
  intro pins s σ H xs us Q I r h
  obtain ⟨i, j, rfl, q⟩ := h
  obtain ⟨u, w', rfl, ⟨t, rfl⟩, ⟨t', rfl⟩⟩ := vals2 r
  refine max_two_ints (I.ok.hd hc) fun h' tk k => ⟨_, H, I.kept k, ?_, q⟩
  by_cases hj : j > i
  · rw [if_pos hj, if_pos hj]; exact ⟨_, rfl⟩
  · rw [if_neg hj, if_neg hj]; exact ⟨_, rfl⟩
theorem call_min2 (hc : X.calm = true) : CallR X (.builtin "min") (fun xs H Q => ∃ i j, xs = [.int i, .int j] ∧ Q (.int (if j < i then j else i)) H) := by
  intro pins s σ H xs us Q I r h
  obtain ⟨i, j, rfl, q⟩ := h
  obtain ⟨u, w', rfl, ⟨t, rfl⟩, ⟨t', rfl⟩⟩ := vals2 r
  refine min_two_ints (I.ok.hd hc) fun h' tk k => ⟨_, H, I.kept k, ?_, q⟩
  by_cases hj : j < i
  · rw [if_pos hj, if_pos hj]; exact ⟨_, rfl⟩
  · rw [if_neg hj, if_neg hj]; exact ⟨_, rfl⟩
theorem call_int1 : CallR X (.type "int") (fun xs H Q => (∃ i, xs = [.int i] ∧ Q (.int i) H) ∨ ∃ k, xs = [.bl k] ∧ Q (.int (if k then 1 else 0)) H) := by
  intro pins s σ H xs us Q I r h
  rcases h with ⟨i, rfl, q⟩ | ⟨k, rfl, q⟩
  · obtain ⟨u, rfl, t, rfl⟩ := vals1 r
    exact call_int_int ⟨.int i, H, I, ⟨_, rfl⟩, q⟩
  · obtain ⟨u, rfl, r1⟩ := vals1 r
    cases r1
    exact call_int_bool ⟨.int (if k then 1 else 0), H, I.tok _, ⟨_, rfl⟩, q⟩
theorem call_bool1 : CallR X (.type "bool") (fun xs H Q => (∃ i, xs = [.int i] ∧ Q (.bl (i != 0)) H) ∨ ∃ k, xs = [.bl k] ∧ Q (.bl k) H) := by
  intro pins s σ H xs us Q I r h
  rcases h with ⟨i, rfl, q⟩ | ⟨k, rfl, q⟩
  · obtain ⟨u, rfl, t, rfl⟩ := vals1 r
    exact call_bool_int ⟨.bl (i != 0), H, I, rfl, q⟩
  · obtain ⟨u, rfl, r1⟩ := vals1 r
    cases r1
    exact call_bool_bool ⟨.bl k, H, I, rfl, q⟩
theorem call_str_int : CallR X (.type "str") (fun xs H Q => ∃ i, xs = [.int i] ∧ i.natAbs.log2 < 1920 ∧ Q (.str (toString i)) H) := by
  intro pins s σ H xs us Q I r h
  obtain ⟨i, rfl, hz, q⟩ := h
  obtain ⟨u, rfl, t, rfl⟩ := vals1 r
  exact PySem.P.str_of_int hz ⟨.str _, H, I.tok _, ⟨_, rfl⟩, q⟩
theorem call_ord : CallR X (.builtin "ord") (fun xs H Q => ∃ x, xs = [.str x] ∧ x.length = 1 ∧ Q (.int (x.cps.getD 0 0 : Nat)) H) := by
  intro pins s σ H xs us Q I r h
  obtain ⟨x, rfl, hz, q⟩ := h
  obtain ⟨u, rfl, t, rfl⟩ := vals1 r
  exact ord_of_one hz ⟨.int _, H, I.tok _, ⟨_, rfl⟩, q⟩
theorem call_chr : CallR X (.builtin "chr") (fun xs H Q => ∃ i, xs = [.int i] ∧ 0 ≤ i ∧ i ≤ 1114111 ∧ Q (.str ⟨#[i.toNat]⟩) H) := by
  intro pins s σ H xs us Q I r h
  obtain ⟨i, rfl, h0, h1, q⟩ := h
  obtain ⟨u, rfl, t, rfl⟩ := vals1 r
  exact chr_of_range h0 h1 ⟨.str _, H, I.tok _, ⟨_, rfl⟩, q⟩
/-- len of a str, a bytes, a list, a tuple -/
def LenV (K : PySem.W.Frag) (x : V) (H : Hp) (n : Nat) : Prop :=
  match x with
  | .str y => y.length ≤ sizeLine ∧ n = y.length
  | .byt y => y.size ≤ sizeLine ∧ n = y.size
  | .ref p => (∃ xs, SqL K H p xs ∧ n = xs.length) ∨ ∃ xs, SqT K H p xs ∧ n = xs.length
  | _ => False
theorem call_len : CallR X (.builtin "len") (fun xs H Q => ∃ x n, xs = [x] ∧ LenV X.K x H n ∧ Q (.int n) H) := by
  intro pins s σ H xs us Q I r h
  obtain ⟨x, n, rfl, e, q⟩ := h
  obtain ⟨u, rfl, rx⟩ := vals1 r
  have hl := line63
  have hs : sizeLine = 16777216 := sizeLine_eq
  cases x with
  | str y =>
    obtain ⟨t, rfl⟩ := rx
    obtain ⟨hy, e'⟩ : y.length ≤ sizeLine ∧ n = y.length := e
    subst e'
    exact len_str (by omega) ⟨.int _, H, I.tok _, ⟨_, rfl⟩, q⟩
  | byt y =>
    obtain ⟨t, rfl⟩ := rx
    obtain ⟨hy, e'⟩ : y.size ≤ sizeLine ∧ n = y.size := e
    subst e'
    exact PySem.W.len_bytes (by omega) ⟨.int _, H, I.tok _, ⟨_, rfl⟩, q⟩
  | ref p =>
    cases rx
    have e' : (∃ xs, SqL X.K H p xs ∧ n = xs.length) ∨ ∃ xs, SqT X.K H p xs ∧ n = xs.length := e
    rcases e' with ⟨xs, hx, e'⟩ | ⟨xs, hx, e'⟩
    · subst e'
      obtain ⟨its, r', pl, hz⟩ := I.list hx
      have hlen := r'.length
      exact Calls.call_len_list pl.isList (by simp only [List.size_toArray]; omega) ⟨.int xs.length, H, I.tok _, ⟨_, by simp only [List.size_toArray]; rw [hlen]⟩, q⟩
    · subst e'
      obtain ⟨its, r', pl, hz⟩ := I.tuple hx
      have hlen := r'.length
      exact len_tuple pl (by simp only [List.size_toArray]; omega) ⟨.int xs.length, H, I.tok _, ⟨_, by simp only [List.size_toArray]; rw [hlen]⟩, q⟩
  | _ => exact (show False from e).elim
/-- divmod: a new tuple -/
theorem call_divmod : CallR X (.builtin "divmod") (fun xs H Q => ∃ i j, xs = [.int i, .int j] ∧ CDiv i j ∧ ∀ p, H p = none → Q (.ref p) (upd H p (.tup [.int (i / j), .int (i % j)]))) := by
  intro pins s σ H xs us Q I r h
  obtain ⟨i, j, rfl, ⟨h1, h2⟩, q⟩ := h
  obtain ⟨u, w', rfl, ⟨t, rfl⟩, ⟨t', rfl⟩⟩ := vals2 r
  refine divmod_int (by omega) ?_ (.inl (PyProof.noPylong_small (by omega)))
  rw [Int.fdiv_eq_ediv_of_nonneg i (by omega), Int.fmod_eq_emod_of_nonneg i (by omega)]
  have hn : H s.heap.objs.size = none := I.hok.fresh (Nat.le_refl _)
  refine ⟨.ref s.heap.objs.size, _, ?_, rfl, q _ hn⟩
  refine I.laid (fun b o e => Heap.get?_push_of_some _ e) (Nat.le_refl _) ⟨by simp only [List.length_cons, List.length_nil]; rw [sizeLine_eq]; decide, [.int (i / j) s.toks, .int (i % j) (s.toks + 1)], .cons ⟨_, rfl⟩ (.cons ⟨_, rfl⟩ .nil), ?_⟩
  exact ⟨_, Heap.get?_push_size s.heap rfl, rfl, 0, rfl⟩
end
end L2

namespace L2
open PySem PySem.Spec PyProof.Rows

/-! ### an instance, its attributes a map -/
structure ObjM (h : Heap) (x dx C : Addr) (mA : Str → Option Value) : Prop where
  obj : h.get? x = some (PySem.W.instObj C dx)
  ns : h.Ns1 dx mA
  ne : dx ≠ x

theorem lookIn_ns {h : Heap} {dx : Addr} {mA : Str → Option Value} (n : h.Ns1 dx mA) : ∃ od, h.get? dx = some od ∧ ∀ name, PySem.W.lookIn name od = some (mA name) := by
  obtain ⟨o, es, ep, ho, hd, hk, _, hm⟩ := n
  refine ⟨o, ho, fun name => ?_⟩
  have e := hm name
  unfold nsFind findBy at e
  rw [← Array.find?_toList] at e
  unfold PySem.W.lookIn
  rw [hd]
  dsimp only
  split
  · rename_i y q
    rw [q] at e
    exact congrArg some e
  · rename_i q
    rw [q] at e
    have a : es.toList.any (·.refKey) = false := by
      rw [List.any_eq_false]
      intro y hy
      obtain ⟨z, t, hkey⟩ := hk y (Array.mem_toList_iff.mp hy)
      simp [DictEntry.refKey, hkey]
    have a' : ¬ es.toList.any (·.refKey) = true := by rw [a]; exact Bool.false_ne_true
    rw [if_neg a']
    exact congrArg some e

theorem ObjM.look {h : Heap} {x dx C : Addr} {mA : Str → Option Value} (I : ObjM h x dx C mA) : ∃ od, PySem.W.InstAt h x (PySem.W.instObj C dx) C (some od) ∧ ∀ name, PySem.W.lookIn name od = some (mA name) :=
  let ⟨od, ho, hl⟩ := lookIn_ns I.ns
  ⟨od, ⟨I.obj, rfl, rfl, ho⟩, hl⟩

section
variable {prog : Program} {w : World} {A : Around} {E : Value → Shared → Prop} {s : Shared} {K : PySem.W.Frag} {x dx C f : Addr} {mA : Str → Option Value} {name : Str} {v : Value}

theorem get_map {expr : Bool} {Q : Value → Shared → Prop} (X : K.In s.heap) (I : ObjM s.heap x dx C mA) (hg : PySem.W.plainGet K C name = true) (hh : PySem.W.hasDictIn K C = true)
    (ha : PySem.W.findIn K (.ref C) name = some none) (hv : mA name = some v) (hv' : PySem.W.handedIn v = true) (h : Q v { s with toks := s.toks + 1 }) :
    wpAny (model prog w) A (getAttr (.ref x) name expr) Q E s := by
  obtain ⟨od, J, hl⟩ := I.look
  exact PySem.W.get_value X J (PySem.W.plainGet_of hg).1 (PySem.W.findObj_own hh ha rfl (by rw [hl, hv])) hv' h

theorem get_const {expr : Bool} {a : Value} {Q : Value → Shared → Prop} (X : K.In s.heap) (I : ObjM s.heap x dx C mA) (hg : PySem.W.plainGet K C name = true) (hh : PySem.W.hasDictIn K C = true)
    (ha : PySem.W.findIn K (.ref C) name = some (some a)) (hn : PySem.W.specialIn K a "__get__" = some none) (hc : PySem.W.copiedNames.contains name = false) (hv : mA name = none) (hv' : PySem.W.handedIn a = true)
    (h : Q a { s with toks := s.toks + 1 }) : wpAny (model prog w) A (getAttr (.ref x) name expr) Q E s := by
  obtain ⟨od, J, hl⟩ := I.look
  exact PySem.W.get_value X J (PySem.W.plainGet_of hg).1 (PySem.W.findObj_cls hh ha hn hv' hc (by rw [hl, hv])) hv' h

theorem get_meth {pl : Sem Bool} {Q : Value × List Value → Shared → Prop} (X : K.In s.heap) (I : ObjM s.heap x dx C mA) (hg : PySem.W.plainGet K C name = true)
    (hf : PySem.W.findIn K (.ref C) name = some (some (.ref f))) (ht : PySem.W.isFn K (.ref f) = true) (hv : mA name = none) (h : Q (.ref f, [.ref x]) s) :
    wpAny (model prog w) A (getMethod (.ref x) name pl) Q E s := by
  obtain ⟨od, J, hl⟩ := I.look
  exact PySem.W.method_fn X J (PySem.W.plainGet_of hg).1 (PySem.W.plainGet_of hg).2 hf (beq_iff_eq.mp ht) (by show (PySem.W.lookIn name od).map (·.isSome) = some false; rw [hl, hv]; rfl) h

theorem set_map {ns : List Str} {Q : Unit → Shared → Prop} (X : K.In s.heap) (I : ObjM s.heap x dx C mA)
    (hs : PySem.W.findIn K (.ref C) "__setattr__" = some (some (.builtin "object.__setattr__"))) (hp : PySem.W.plainOver K C = true) (ht : PySem.W.takerIn K C name = some none) (hh : PySem.W.hasDictIn K C = true)
    (hw : PySem.Within mA ns) (hsz : ns.length ≤ sizeLine)
    (h : ∀ h', ObjM h' x dx C (fun y => if y = name then some v else mA y) → Heap.SameBut dx s.heap h' → Q () { s with heap := h', toks := s.toks + 2 }) :
    wpAny (model prog w) A (setAttr (.ref x) name v) Q E s := by
  obtain ⟨od, J, hl⟩ := I.look
  refine PySem.W.set_plain X J hs (PySem.W.osa_open (s := { s with toks := s.toks + 1 }) (r := none) X J hp ht fun b => ?_)
  obtain ⟨cd, hc, hd'⟩ := PySem.W.any_some hh
  have hx : s.heap.get? x = some ⟨.ref C, some dx, .plain, #[]⟩ := I.obj
  refine wpAny_bind (wpAny_pure (wpAny_bind (wpAny_bind (wpAny_loadPart hx (wpAny_bind (PySem.W.Looks.here (s := { s with toks := s.toks + 1 }) (PySem.W.looks_clsIn X hc) ?_))))))
  rw [hd']
  refine wpAny_pure (a := some dx) (wpAny_bind (wpAny_pure (wpAny_bind ?_)))
  refine wpAny_nsSet1 (s := { s with toks := s.toks + 1 }) I.ns fun h' hn2 hs2 => ?_
  obtain ⟨oD, esD, epD, hoD, hdD, hcD⟩ := hn2.count (PySem.Within.cons name v hw)
  refine wpAny_bind (wpAny_lookBehind hoD (by rw [hdD]; exact pastItsLine_dict (Nat.le_trans hcD (by rw [List.length_cons]; omega))) ?_)
  exact wpAny_pure (h _ ⟨(hs2.2 _ (Ne.symm I.ne)).trans I.obj, hn2, I.ne⟩ hs2)

/-- C(..): the dict at the heap's end, the instance behind it; then its __init__ -/
theorem make_map {R : Result → Shared → Prop} {vs : List Value} {kw : List (Str × Value)} (X : K.In s.heap) (hm : PySem.W.makesIn K C = true)
    (hi : PySem.W.findIn K (.ref C) "__init__" = some (some (.ref f))) (hf : PySem.W.typeIn K (.ref f) = some (.type "function"))
    (h : codeAny (model prog w) (A.under (.builtin "type.__call__" ⟨.ref C :: vs, kw⟩)) (.call (.ref f) ⟨.ref (s.heap.objs.size + 1) :: vs, kw⟩) (PySem.W.InitBack (s.heap.objs.size + 1) R)
      { s with heap := (s.heap.push PySem.W.emptyDict).push (PySem.W.instObj C s.heap.objs.size) }) :
    codeAny (model prog w) A (.call (.ref C) ⟨vs, kw⟩) R s := by
  obtain ⟨hh, g, d, t, os⟩ := s
  exact PySem.W.make_core (PySem.W.makes_of X hm) (PySem.W.looks_findIn X hi) (fun self => PySem.W.bind_fn X self hf) (.inl rfl) h
/-- C() where there is no __init__ but object's -/
theorem make_map0 {R : Result → Shared → Prop} (X : K.In s.heap) (hm : PySem.W.makesIn K C = true)
    (hi : PySem.W.findIn K (.ref C) "__init__" = some (some (.builtin "object.__init__")))
    (hb : ∀ self, PySem.W.Looks (model prog w) s.heap (bindSpecial (.builtin "object.__init__") self) (.builtin "object.__init__", [self]))
    (h : codeAny (model prog w) (A.under (.builtin "type.__call__" ⟨[.ref C], []⟩)) (.call (.builtin "object.__init__") ⟨[.ref (s.heap.objs.size + 1)], []⟩) (PySem.W.InitBack (s.heap.objs.size + 1) R)
      { s with heap := (s.heap.push PySem.W.emptyDict).push (PySem.W.instObj C s.heap.objs.size) }) :
    codeAny (model prog w) A (.call (.ref C) ⟨[], []⟩) R s := by
  obtain ⟨hh, g, d, t, os⟩ := s
  exact PySem.W.make_core (PySem.W.makes_of X hm) (PySem.W.looks_findIn X hi) hb (.inr ⟨rfl, rfl⟩) h
end

/-! ### the attributes as a list of pairs -/
def putF (f : Str) (v : V) : List (Str × V) → List (Str × V)
  | [] => [(f, v)]
  | (g, x) :: r => if g = f then (g, v) :: r else (g, x) :: putF f v r
theorem lookup_putF (f g : Str) (v : V) : ∀ fs : List (Str × V), (putF f v fs).lookup g = if g = f then some v else fs.lookup g
  | [] => by
    show List.lookup g [(f, v)] = _
    by_cases h : g = f
    · have hb : (g == f) = true := beq_iff_eq.mpr h
      simp only [List.lookup, hb, if_pos h]
    · have hb : (g == f) = false := beq_eq_false_iff_ne.mpr h
      simp only [List.lookup, hb, if_neg h]
  | (k, x) :: r => by
    have ih := lookup_putF f g v r
    rw [show putF f v ((k, x) :: r) = (if k = f then (k, v) :: r else (k, x) :: putF f v r) from rfl]
    by_cases hk : k = f
    · rw [if_pos hk]
      by_cases h : g = k
      · have hb : (g == k) = true := beq_iff_eq.mpr h
        simp only [List.lookup, hb, if_pos (h.trans hk)]
      · have hb : (g == k) = false := beq_eq_false_iff_ne.mpr h
        simp only [List.lookup, hb, if_neg (fun e : g = f => h (e.trans hk.symm))]
    · rw [if_neg hk]
      by_cases h : g = k
      · have hb : (g == k) = true := beq_iff_eq.mpr h
        simp only [List.lookup, hb, if_neg (fun e : g = f => hk (h.symm.trans e))]
      · have hb : (g == k) = false := beq_eq_false_iff_ne.mpr h
        simp only [List.lookup, hb]
        exact ih
theorem keys_putF (f : Str) (v : V) : ∀ fs : List (Str × V), f ∈ (putF f v fs).map (·.1) ∧ ∀ g, g ∈ fs.map (·.1) → g ∈ (putF f v fs).map (·.1)
  | [] => ⟨by simp [putF], fun g h => by simp at h⟩
  | (k, x) :: r => by
    obtain ⟨i1, i2⟩ := keys_putF f v r
    rw [show putF f v ((k, x) :: r) = (if k = f then (k, v) :: r else (k, x) :: putF f v r) from rfl]
    by_cases hk : k = f
    · rw [if_pos hk]
      subst hk
      exact ⟨by simp, fun g h => by simpa using h⟩
    · rw [if_neg hk]
      refine ⟨?_, fun g h => ?_⟩
      · rw [List.map_cons]
        exact List.mem_cons_of_mem _ i1
      · rw [List.map_cons] at h ⊢
        rcases List.mem_cons.mp h with e | e
        · exact List.mem_cons.mpr (.inl e)
        · exact List.mem_cons_of_mem _ (i2 g e)
theorem length_putF (f : Str) (v : V) : ∀ fs : List (Str × V), (putF f v fs).length ≤ fs.length + 1
  | [] => by simp [putF]
  | (k, x) :: r => by
    have ih := length_putF f v r
    rw [show putF f v ((k, x) :: r) = (if k = f then (k, v) :: r else (k, x) :: putF f v r) from rfl]
    by_cases hk : k = f
    · rw [if_pos hk, List.length_cons, List.length_cons]; omega
    · rw [if_neg hk, List.length_cons, List.length_cons]; omega

theorem RelO.some_of {v : V} {o : Option Value} (r : RelO (some v) o) : ∃ u, o = some u ∧ RelV v u := by
  cases o with
  | none => exact (show False from r).elim
  | some u => exact ⟨u, rfl, r⟩
theorem RelO.none_of {o : Option Value} (r : RelO none o) : o = none := by
  cases o with
  | none => rfl
  | some u => exact (show False from r).elim
theorem handed_of {v : V} {u : Value} (r : RelV v u) : PySem.W.handedIn u = true := by
  cases v with
  | non => cases (show u = Value.none from r); rfl
  | bl b => cases (show u = Value.bool b from r); rfl
  | int i => obtain ⟨t, e⟩ := (show ∃ t, u = Value.int i t from r); cases e; rfl
  | str x => obtain ⟨t, e⟩ := (show ∃ t, u = Value.str x t from r); cases e; rfl
  | byt b => obtain ⟨t, e⟩ := (show ∃ t, u = Value.bytes b t from r); cases e; rfl
  | flt b => obtain ⟨t, e⟩ := (show ∃ t, u = Value.float b t from r); cases e; rfl
  | ref a => cases (show u = Value.ref a from r); rfl
  | ty n => cases (show u = Value.type n from r); rfl

section
variable {P : Program} {w : World} {H H' : Hp} {h h' : Heap} {a C dx : Addr} {fs fs' : List (Str × V)}
theorem ins_get (hok : HOk P w H h) (e : H a = some (.ins C dx fs)) : ∃ mA, ObjM h a dx C mA ∧ (∀ f, RelO (fs.lookup f) (mA f)) ∧ PySem.Within mA (fs.map (·.1)) ∧ fs.length ≤ 1000 ∧ H dx = some (.own a) := by
  obtain ⟨d, z, ne, ob, mA, n, r, q⟩ := (show ObjOk P w H h a (.ins C dx fs) from hok a _ e)
  exact ⟨mA, ⟨ob, n, ne⟩, r, q, z, d⟩
end

/-! ### what of the text a class must have -/
structure Cls (K : PySem.W.Frag) (C : Addr) : Prop where
  pg : PySem.W.plainGet K C Str.empty = true
  hd : PySem.W.hasDictIn K C = true
  po : PySem.W.plainOver K C = true
  sa : PySem.W.findIn K (.ref C) "__setattr__" = some (some (.builtin "object.__setattr__"))
theorem Cls.get {K : PySem.W.Frag} {C : Addr} (c : Cls K C) (f : Str) : PySem.W.plainGet K C f = true := c.pg
/-- no class of it has the name -/
def NoAttr (K : PySem.W.Frag) (C : Addr) (f : Str) : Prop := PySem.W.findIn K (.ref C) f = some none
theorem NoAttr.taker {K : PySem.W.Frag} {C : Addr} {f : Str} (n : NoAttr K C f) : PySem.W.takerIn K C f = some none := by
  unfold PySem.W.takerIn
  rw [show PySem.W.findIn K (.ref C) f = some none from n]
  rfl
/-- a constant of the class -/
structure Con (K : PySem.W.Frag) (C : Addr) (f : Str) (v : V) (u : Value) : Prop where
  at_ : PySem.W.findIn K (.ref C) f = some (some u)
  rel : RelV v u
  get : PySem.W.specialIn K u "__get__" = some none
  cp : PySem.W.copiedNames.contains f = false
/-- a method: a plain def of the class or of one above it -/
structure Meth (K : PySem.W.Frag) (C : Addr) (m : Str) (f : Addr) : Prop where
  at_ : PySem.W.findIn K (.ref C) m = some (some (.ref f))
  fn : PySem.W.isFn K (.ref f) = true
  kp : PySem.W.keepIn K (.ref f) = true

section
variable {X : Cx} {pins : List (Addr × Obj)} {σ : St} {H : Hp} {s : Shared} {a C dx : Addr} {fs : List (Str × V)} {f : Str} {v : V} {A : Around} {E : Value → Shared → Prop}

theorem getattr_ok {b : Bool} {Q : Value → Shared → Prop} (I : Inv X pins σ H s) (e : H a = some (.ins C dx fs)) (c : Cls X.K C) (n : NoAttr X.K C f) (l : fs.lookup f = some v)
    (h : ∀ u s', Inv X pins σ H s' → RelV v u → Q u s') : wpAny (model X.prog X.w) A (getAttr (.ref a) f b) Q E s := by
  obtain ⟨mA, O, r, _, _, _⟩ := ins_get I.hok e
  obtain ⟨u, hu, ru⟩ := RelO.some_of (v := v) (o := mA f) (by rw [← l]; exact r f)
  exact get_map I.kIn O (c.get f) c.hd n hu (handed_of ru) (h u _ (I.tok _) ru)

theorem getcon_ok {b : Bool} {u : Value} {Q : Value → Shared → Prop} (I : Inv X pins σ H s) (e : H a = some (.ins C dx fs)) (c : Cls X.K C) (k : Con X.K C f v u) (l : fs.lookup f = none)
    (h : ∀ s', Inv X pins σ H s' → Q u s') : wpAny (model X.prog X.w) A (getAttr (.ref a) f b) Q E s := by
  obtain ⟨mA, O, r, _, _, _⟩ := ins_get I.hok e
  have hn : mA f = none := RelO.none_of (by rw [← l]; exact r f)
  exact get_const I.kIn O (c.get f) c.hd k.at_ k.get k.cp hn (handed_of k.rel) (h _ (I.tok _))

theorem getmeth_ok {m : Str} {g : Addr} {pl : Sem Bool} {Q : Value × List Value → Shared → Prop} (I : Inv X pins σ H s) (e : H a = some (.ins C dx fs)) (c : Cls X.K C) (k : Meth X.K C m g) (l : fs.lookup m = none)
    (h : Q (.ref g, [.ref a]) s) : wpAny (model X.prog X.w) A (getMethod (.ref a) m pl) Q E s := by
  obtain ⟨mA, O, r, _, _, _⟩ := ins_get I.hok e
  have hn : mA m = none := RelO.none_of (by rw [← l]; exact r m)
  exact get_meth I.kIn O (c.get m) k.at_ k.fn hn h

theorem setattr_ok {y : V} {u : Value} {Q : Unit → Shared → Prop} (I : Inv X pins σ H s) (e : H a = some (.ins C dx fs)) (c : Cls X.K C) (n : NoAttr X.K C f) (hl : fs.length < 1000) (ry : RelV y u)
    (h : ∀ s', Inv X pins σ (upd H a (.ins C dx (putF f y fs))) s' → Q () s') : wpAny (model X.prog X.w) A (setAttr (.ref a) f u) Q E s := by
  obtain ⟨mA, O, r, wi, _, ho⟩ := ins_get I.hok e
  have hz : (fs.map (·.1)).length ≤ sizeLine := by rw [List.length_map, sizeLine_eq]; omega
  refine set_map I.kIn O c.sa c.po n.taker c.hd wi hz fun h' O' sb => h _ ?_
  have hd : ∃ o, h'.get? dx = some o := let ⟨o, _, _, e', _⟩ := O'.ns; ⟨o, e'⟩
  refine I.write (x := a) (e := dx) (by rw [e]; exact True.intro) (.inr ho) (fun b q hb z => (sb.2 b hb).trans z) hd ?_
  refine ⟨by rw [upd_ne O.ne]; exact ho, ?_, O.ne, O'.obj, _, O'.ns, fun g => ?_, fun g hg => ?_⟩
  · have := length_putF f y fs; omega
  · show RelO ((putF f y fs).lookup g) (if g = f then some u else mA g)
    rw [lookup_putF]
    by_cases q : g = f
    · rw [if_pos q, if_pos q]; exact ry
    · rw [if_neg q, if_neg q]; exact r g
  · by_cases q : g = f
    · rw [q]; exact (keys_putF f y fs).1
    · refine (keys_putF f y fs).2 g (wi g fun z => hg ?_)
      show (if g = f then some u else mA g) = none
      rw [if_neg q]; exact z

/-- a new instance, tracked, without attributes -/
theorem Inv.made (I : Inv X pins σ H s) : Inv X pins σ (upd (upd H s.heap.objs.size (.own (s.heap.objs.size + 1))) (s.heap.objs.size + 1) (.ins C s.heap.objs.size []))
    { s with heap := (s.heap.push PySem.W.emptyDict).push (PySem.W.instObj C s.heap.objs.size) } := by
  have e1 : (s.heap.push PySem.W.emptyDict).get? s.heap.objs.size = some PySem.W.emptyDict := Heap.get?_push_size s.heap rfl
  have e2 : ((s.heap.push PySem.W.emptyDict).push (PySem.W.instObj C s.heap.objs.size)).get? (s.heap.objs.size + 1) = some (PySem.W.instObj C s.heap.objs.size) := by
    have := Heap.get?_push_size (s.heap.push PySem.W.emptyDict) (o := PySem.W.instObj C s.heap.objs.size) rfl
    rwa [Heap.size_push] at this
  have e3 : (s.heap.push PySem.W.emptyDict).Ns s.heap.objs.size (fun _ => none) := ⟨PySem.W.emptyDict, #[], _, e1, rfl, (fun e he => absurd he (by simp)), fun _ => rfl⟩
  have I1 := I.laid (a := s.heap.objs.size) (o := .own (s.heap.objs.size + 1)) (h' := s.heap.push PySem.W.emptyDict) (t' := s.toks) (fun b u q => Heap.get?_push_of_some _ q) (Nat.le_refl _) ⟨_, e1⟩
  refine I1.laid (a := s.heap.objs.size + 1) (o := .ins C s.heap.objs.size []) (t' := s.toks) (fun b u q => Heap.get?_push_of_some _ q) (Nat.le_of_eq (Heap.size_push _ _)) ?_
  have ne : s.heap.objs.size ≠ s.heap.objs.size + 1 := Nat.ne_of_lt (Nat.lt_succ_self _)
  refine ⟨by rw [upd_ne ne, upd_same], Nat.zero_le _, ne, e2, fun _ => none, (Heap.Ns1.of_empty e3).at fun o q => Heap.get?_push_of_some _ q, fun _ => True.intro, fun y hy => absurd rfl hy⟩

/-- e.f where nothing but the object is asked: through attributeBase (super) and the last hold -/
theorem attr_of {prog : Program} {w : World} {env : Env} {e : Expr} {f : Str} {pos : Pos} {s : Shared} {Q : Value → Shared → Prop} (hb : attributeBase e f env (eval e env) = eval e env)
    (h : wpAny (model prog w) A (eval e env) (fun o s₁ => wpAny (model prog w) A (getAttr o f true) Q E s₁) E s) : wpAny (model prog w) A (eval (.Attribute e f pos) env) Q E s :=
  Attribute_any_ h (by rw [arm_eval_Attribute, hb])
end

/-! ### readings and rules -/
/-- e.f, an attribute of the instance -/
def tFld (K : PySem.W.Frag) (ta : TE) (f : Str) : TE := fun σ H Q => ta σ H fun x H1 => ∃ a C dx fs v, x = .ref a ∧ H1 a = some (.ins C dx fs) ∧ Cls K C ∧ NoAttr K C f ∧ fs.lookup f = some v ∧ Q v H1
/-- e.f, a constant of the class -/
def tCon (K : PySem.W.Frag) (ta : TE) (f : Str) : TE := fun σ H Q => ta σ H fun x H1 => ∃ a C dx fs v u, x = .ref a ∧ H1 a = some (.ins C dx fs) ∧ Cls K C ∧ Con K C f v u ∧ fs.lookup f = none ∧ Q v H1
/-- e.f = value -/
def sFld (K : PySem.W.Frag) (ta tv : TE) (f : Str) : TS := fun D σ H => tv σ H fun y H1 => ta σ H1 fun x H2 => ∃ a C dx fs, x = .ref a ∧ H2 a = some (.ins C dx fs) ∧ Cls K C ∧ NoAttr K C f ∧ fs.length < 1000 ∧
  D.nx σ (upd H2 a (.ins C dx (putF f y fs)))
/-- an augmented operator on two values -/
def InOp (X : Cx) (op : Operator) (rd : V → V → Hp → VK → Prop) : Prop :=
  ∀ (pins : List (Addr × Obj)) (s : Shared) (σ : St) (H : Hp) (x y : V) (u v : Value) (Q : VK), Inv X pins σ H s → RelV x u → RelV y v → rd x y H Q → wpAny (model X.prog X.w) X.A (inplaceOp op u v) (EP X pins σ Q) X.xe s
/-- e.f op= value -/
def sFldAug (K : PySem.W.Frag) (ta tv : TE) (rd : V → V → Hp → VK → Prop) (f : Str) : TS := fun D σ H => ta σ H fun x H1 => ∃ a C dx fs v, x = .ref a ∧ H1 a = some (.ins C dx fs) ∧ Cls K C ∧ NoAttr K C f ∧ fs.lookup f = some v ∧
  tv σ H1 fun y H2 => rd v y H2 fun z H3 => ∃ dx' fs', H3 a = some (.ins C dx' fs') ∧ fs'.length < 1000 ∧ D.nx σ (upd H3 a (.ins C dx' (putF f z fs')))

section
variable {X : Cx} {o e value : Expr} {f : Str} {pos pos' tpos : Pos} {ta tv : TE}
theorem pe_fld (he : PE X e ta) (hb : attributeBase e f X.env (eval e X.env) = eval e X.env) : PE X (.Attribute e f pos) (tFld X.K ta f) := by
  intro pins s σ H Q I h
  refine attr_of hb (thn (he pins s σ H _ I h) fun u s1 ⟨x, H1, I1, rx, a, C, dx, fs, v, ex, ea, c, n, l, q⟩ => ?_)
  subst ex
  obtain rfl : u = Value.ref a := rx
  exact getattr_ok I1 ea c n l fun u' s2 I2 ru => ⟨v, H1, I2, ru, q⟩
theorem pe_con (he : PE X e ta) (hb : attributeBase e f X.env (eval e X.env) = eval e X.env) : PE X (.Attribute e f pos) (tCon X.K ta f) := by
  intro pins s σ H Q I h
  refine attr_of hb (thn (he pins s σ H _ I h) fun u s1 ⟨x, H1, I1, rx, a, C, dx, fs, v, u0, ex, ea, c, k, l, q⟩ => ?_)
  subst ex
  obtain rfl : u = Value.ref a := rx
  exact getcon_ok I1 ea c k l fun s2 I2 => ⟨v, H1, I2, k.rel, q⟩
theorem ps_fld (ha : PE X o ta) (hv : PE X value tv) (hs : swapsWith value (some (.Attribute o f pos')) pos.line X.env = pure false) : PS X (.Assign [.Attribute o f pos'] value pos) (sFld X.K ta tv f) := by
  intro pins s σ H D I h
  refine plainObj_wpAny_Assign_Attribute (thn (hv pins s σ H _ I h) fun u s1 ⟨y, H1, I1, ry, q⟩ => thn (ha pins s1 σ H1 _ I1 q) fun ov s2 ⟨x, H2, I2, rx, a, C, dx, fs, ex, ea, c, n, l, q2⟩ => ?_) hs
  subst ex
  obtain rfl : ov = Value.ref a := rx
  exact setattr_ok I2 ea c n l ry fun s3 I3 => ⟨σ, _, I3, q2⟩
theorem ps_fldaug {op : Operator} {rd : V → V → Hp → VK → Prop} (ha : PE X o ta) (hv : PE X value tv) (hop : InOp X op rd) : PS X (.AugAssign (.Attribute o f tpos) op value pos) (sFldAug X.K ta tv rd f) := by
  intro pins s σ H D I h
  refine wpAny_AugAssign_AttributeAny (thn (ha pins s σ H _ I h) fun ov s1 ⟨x, H1, I1, rx, a, C, dx, fs, v, ex, ea, c, n, l, q⟩ => ?_)
  subst ex
  obtain rfl : ov = Value.ref a := rx
  refine getattr_ok I1 ea c n l fun u s2 I2 ru => thn (hv pins s2 σ H1 _ I2 q) fun w3 s3 ⟨y, H2, I3, ry, q3⟩ => thn (hop pins s3 σ H2 v y u w3 _ I3 ru ry q3) fun w4 s4 ⟨z, H3, I4, rz, dx', fs', ea', l', q4⟩ => ?_
  exact setattr_ok I4 ea' c n l' rz fun s5 I5 => ⟨σ, _, I5, q4⟩
def rAdd : V → V → Hp → VK → Prop := fun x y H Q => ∃ i j, x = .int i ∧ y = .int j ∧ Q (.int (i + j)) H
def rSub : V → V → Hp → VK → Prop := fun x y H Q => ∃ i j, x = .int i ∧ y = .int j ∧ Q (.int (i - j)) H
theorem in_add : InOp X .Add rAdd := by
  rintro pins s σ H x y u v Q I rx ry ⟨i, j, rfl, rfl, q⟩
  obtain ⟨t, rfl⟩ := (show ∃ t, u = Value.int i t from rx)
  obtain ⟨t', rfl⟩ := (show ∃ t', v = Value.int j t' from ry)
  exact PyProof.Rows.iadd_int ⟨.int (i + j), H, I.tok _, ⟨_, rfl⟩, q⟩
theorem in_sub : InOp X .Sub rSub := by
  rintro pins s σ H x y u v Q I rx ry ⟨i, j, rfl, rfl, q⟩
  obtain ⟨t, rfl⟩ := (show ∃ t, u = Value.int i t from rx)
  obtain ⟨t', rfl⟩ := (show ∃ t', v = Value.int j t' from ry)
  exact PyProof.Rows.isub_int ⟨.int (i - j), H, I.tok _, ⟨_, rfl⟩, q⟩

/-- what is between an instance and its method: the tree of a method call -/
theorem methcall_of {pl : Sem Bool} {m : Str} {apos : Pos} {args : List Expr} {pins : List (Addr × Obj)} {s : Shared} {σ : St} {H : Hp} {Q : Value → Shared → Prop} {te : TE} (he : PE X e te) (I : Inv X pins σ H s)
    (h : te σ H fun x H1 => ∃ a C dx fs g, x = .ref a ∧ H1 a = some (.ins C dx fs) ∧ Cls X.K C ∧ Meth X.K C m g ∧ fs.lookup m = none ∧
      ∀ s1, Inv X pins σ H1 s1 → wpAny (model X.prog X.w) X.A (callWith pos (.ref g) [.ref a] (backTo pos (starEach args X.env)) (backToKw pos (keywordEach [] X.env))) Q X.xe s1)
    (ht : eval (.Call (.Attribute e m apos) args [] pos) X.env = (do
      let ov ← eval e X.env
      standAt apos.atName
      let (f, first) ← holding [ov] (getMethod ov m pl)
      callWith pos f first (backTo pos (starEach args X.env)) (backToKw pos (keywordEach [] X.env)))) :
    wpAny (model X.prog X.w) X.A (eval (.Call (.Attribute e m apos) args [] pos) X.env) Q X.xe s := by
  refine PySem.W.methodCall_KW (pl := pl) (thn (he pins s σ H _ I h) fun u s1 ⟨x, H1, I1, rx, a, C, dx, fs, g, ex, ea, c, k, l, q⟩ => ?_) ht
  subst ex
  obtain rfl : u = Value.ref a := rx
  exact getmeth_ok I1 ea c k l (q s1 I1)
end

/-! ### isinstance -/
section
variable {X : Cx} {pins : List (Addr × Obj)} {σ : St} {H : Hp} {s : Shared} {A : Around} {E : Value → Shared → Prop} {Q : Value → Shared → Prop} {c : Value} {b : Bool}
/-- the type of a value, as the fragment's deciders take it; for an instance its class -/
inductive TyOf (K : PySem.W.Frag) (H : Hp) : V → Value → Prop where
  | non : TyOf K H .non (.type "NoneType")
  | bl (x : Bool) : TyOf K H (.bl x) (.type "bool")
  | int (i : Int) : TyOf K H (.int i) (.type "int")
  | str (x : Str) : TyOf K H (.str x) (.type "str")
  | flt (x : UInt64) : TyOf K H (.flt x) (.type "float")
  | lst {a : Addr} {xs : List V} (e : H a = some (.lst xs)) : TyOf K H (.ref a) (.type "list")
  | frz {a : Addr} {o : Obj} {xs : List V} (e : H a = some (.frz o (.lst xs))) : TyOf K H (.ref a) (.type "list")
  | tup {a : Addr} {xs : List V} (e : H a = some (.tup xs)) : TyOf K H (.ref a) (.type "tuple")
  | dK {a : Addr} {kvs : List (Key × V)} (e : H a = some (.dK kvs)) : TyOf K H (.ref a) (.type "dict")
  | dT {a : Addr} {kvs : List (List Key × V)} (e : H a = some (.dT kvs)) : TyOf K H (.ref a) (.type "dict")
  | ins {a C dx : Addr} {fs : List (Str × V)} (e : H a = some (.ins C dx fs)) (cl : Cls K C) (ha : PySem.W.findIn K (.ref C) "__class__" = some (some (.builtin "object.__class__")))
      (hn : PySem.W.specialIn K (.builtin "object.__class__") "__get__" = some (some (.builtin "getset_descriptor.__get__"))) (htk : PySem.W.takesIn K (.builtin "object.__class__") = some true)
      (hm : PySem.W.mroIn K C (.type "object") = some true) : TyOf K H (.ref a) (.ref C)
/-- isinstance(x, c) for one class c, a built-in or an own one: kitOne's answer -/
theorem isinst_ok {x : V} {u t : Value} (I : Inv X pins σ H s) (rx : RelV x u) (ty : TyOf X.K H x t) (e : PySem.W.kitOne X.K t c = some b) (h : ∀ tk, Q (.bool b) { s with toks := tk }) :
    wpAny (model X.prog X.w) A (call (.builtin "isinstance") [u, c]) Q E s := by
  cases ty with
  | non => cases (show u = Value.none from rx); exact PySem.W.kia_one PySem.W.kitx_none I.kIn True.intro e (fun z => nomatch z) h
  | bl y => cases (show u = Value.bool y from rx); exact PySem.W.kia_one PySem.W.kitx_bool I.kIn True.intro e (fun z => nomatch z) h
  | int i => obtain ⟨t, q⟩ := (show ∃ t, u = Value.int i t from rx); cases q; exact PySem.W.kia_one PySem.W.kitx_int I.kIn True.intro e (fun z => nomatch z) h
  | str y => obtain ⟨t, q⟩ := (show ∃ t, u = Value.str y t from rx); cases q; exact PySem.W.kia_one PySem.W.kitx_str I.kIn True.intro e (fun z => nomatch z) h
  | flt y => obtain ⟨t, q⟩ := (show ∃ t, u = Value.float y t from rx); cases q; exact PySem.W.kia_one PySem.W.kitx_float I.kIn True.intro e (fun z => nomatch z) h
  | @lst a xs ea =>
    cases (show u = Value.ref a from rx)
    obtain ⟨_, _, n, _, h1⟩ := (show ObjOk X.prog X.w H s.heap a (.lst xs) from I.hok a _ ea)
    exact PySem.W.kia_one PySem.W.kitx_list I.kIn ⟨_, h1, rfl⟩ e (fun z => nomatch z) h
  | @frz a ob xs ea =>
    cases (show u = Value.ref a from rx)
    obtain ⟨_, _, _, n, _, h1⟩ := (show ObjOk X.prog X.w H s.heap a (.frz ob (.lst xs)) from I.hok a _ ea)
    exact PySem.W.kia_one PySem.W.kitx_list I.kIn ⟨_, h1, rfl⟩ e (fun z => nomatch z) h
  | @tup a xs ea =>
    cases (show u = Value.ref a from rx)
    obtain ⟨_, _, _, p⟩ := (show ObjOk X.prog X.w H s.heap a (.tup xs) from I.hok a _ ea)
    obtain ⟨o, h1, h2, _⟩ := p
    exact PySem.W.kia_one PySem.W.kitx_tuple I.kIn ⟨o, h1, h2⟩ e (fun z => nomatch z) h
  | @dK a kvs ea =>
    cases (show u = Value.ref a from rx)
    obtain ⟨_, _, vs, _, p⟩ := (show ObjOk X.prog X.w H s.heap a (.dK kvs) from I.hok a _ ea)
    obtain ⟨o, es, ep, h1, h2, _⟩ := p
    exact PySem.W.kia_one PySem.W.kitx_dict I.kIn ⟨o, h1, h2.1⟩ e (fun z => nomatch z) h
  | @dT a kvs ea =>
    cases (show u = Value.ref a from rx)
    obtain ⟨_, _, xs, _, o, es, ep, h1, h2, _⟩ := (show ObjOk X.prog X.w H s.heap a (.dT kvs) from I.hok a _ ea)
    exact PySem.W.kia_one PySem.W.kitx_dict I.kIn ⟨o, h1, h2.1⟩ e (fun z => nomatch z) h
  | @ins a C dx fs ea cl ha hn htk hm =>
    cases (show u = Value.ref a from rx)
    obtain ⟨mA, O, _⟩ := ins_get I.hok ea
    obtain ⟨od, J, _⟩ := O.look
    exact PySem.W.kia_one (PySem.W.kitx_own (cl.get _) cl.hd ha hn htk hm) I.kIn J e (fun z => nomatch z) h
end
end L2

namespace L2
open PySem PySem.Spec PyProof.Rows

/-! ### room -/
structure Room (k : Nat) (A : Around) : Prop where
  hd : A.handled = none
  dp : A.depth + 3 * k + 5 < recursionLimit
  un : A.units + 16 * k + 200 < cLine
theorem Room.mono {j k : Nat} {A : Around} (r : Room k A) (h : j ≤ k) : Room j A := ⟨r.hd, by have := r.dp; omega, by have := r.un; omega⟩
theorem Room.deeper {k : Nat} {A : Around} (r : Room (k + 1) A) (env : Env) : Room k (A.deeper env) :=
  ⟨r.hd, by have := r.dp; show A.depth + 1 + 3 * k + 5 < _; omega, by have := r.un; show A.units + 3 + 16 * k + 200 < _; omega⟩
theorem Room.in1 {k : Nat} {A : Around} (r : Room (k + 1) A) : Room k A.in1 :=
  ⟨r.hd, by have := r.dp; show A.depth + 3 * k + 5 < _; omega, by have := r.un; show A.units + 1 + 16 * k + 200 < _; omega⟩
theorem make_depth {A : Around} {C : Addr} {us : List Value} {kw : List (Str × Value)} : (A.under (.builtin "type.__call__" ⟨.ref C :: us, kw⟩)).depth = A.depth + 1 := by
  first | rfl | simp [Around.under, Code.weight, Code.isCreation, Code.isGuard, Code.isCaller, Code.frames, Code.isFrame, guardIds]
theorem make_units {A : Around} {C : Addr} {us : List Value} {kw : List (Str × Value)} : (A.under (.builtin "type.__call__" ⟨.ref C :: us, kw⟩)).units = A.units + 1 := by
  first | rfl | simp [Around.under, Code.cUnits, Code.frames, Code.isFrame]
theorem Room.make {k : Nat} {A : Around} (r : Room (k + 1) A) (C : Addr) (us : List Value) (kw : List (Str × Value)) : Room k (A.under (.builtin "type.__call__" ⟨.ref C :: us, kw⟩)) :=
  ⟨r.hd, by have := r.dp; rw [make_depth]; omega, by have := r.un; rw [make_units]; omega⟩
theorem Room.depth {k : Nat} {A : Around} (r : Room k A) : A.depth < recursionLimit := by have := r.dp; omega
theorem Room.units {k : Nat} {A : Around} (r : Room k A) : A.units + 64 < cLine := by have := r.un; omega
theorem Room.units0 {k : Nat} {A : Around} (r : Room k A) : A.units < cLine := by have := r.un; omega

/-! ### argument lists and displays -/
def tNil : TA := fun _ H Q => Q [] H
def tCons (ta : TE) (tr : TA) : TA := fun σ H Q => ta σ H fun x H1 => tr σ H1 fun xs H2 => Q (x :: xs) H2
section
variable {X : Cx} {e : Expr} {es : List Expr} {te : TE} {t : TA} {pos : Pos}
theorem pa_nil : PA X [] tNil := fun _ _ _ _ H Q I h => Calls.spliced_nil ⟨[], H, I, .nil, h⟩
theorem pa_cons (ha : PE X e te) (hr : PA X es t) (hs : starEach (e :: es) X.env = (false, eval e X.env) :: starEach es X.env := by rfl) : PA X (e :: es) (tCons te t) := by
  intro pos pins s σ H Q I h
  rw [hs]
  show wpAny _ _ (spliced ((false, eval e X.env) :: backTo pos (starEach es X.env))) _ _ s
  refine Calls.spliced_cons (thn (ha pins s σ H _ I h) fun u s1 ⟨x, H1, I1, r1, q1⟩ => ?_)
  exact thn (hr pos pins s1 σ H1 _ I1 q1) fun us s2 ⟨xs, H2, I2, r2, q2⟩ => ⟨x :: xs, H2, I2, .cons r1 r2, q2⟩

/-- a tuple, a list of written items -/
def tTup (t : TA) : TE := fun σ H Q => t σ H fun xs H1 => xs.length ≤ sizeLine ∧ ∀ p, H1 p = none → Q (.ref p) (upd H1 p (.tup xs))
def tLst (t : TA) : TE := fun σ H Q => t σ H fun xs H1 => xs.length ≤ sizeLine ∧ ∀ p, H1 p = none → Q (.ref p) (upd H1 p (.lst xs))
theorem pe_tup {x1} (h : PA X es t) : PE X (.Tuple es x1 pos) (tTup t) := by
  intro pins s σ H Q I hq
  refine wpAny_Tuple_spliced (thn (h pos pins s σ H _ I hq) fun us s1 ⟨xs, H1, I1, r, z, q⟩ => ⟨by rw [← r.length]; exact z, ?_⟩)
  have hf : H1 s1.heap.objs.size = none := I1.hok.fresh (Nat.le_refl _)
  refine ⟨.ref s1.heap.objs.size, upd H1 s1.heap.objs.size (.tup xs), I1.laid (t' := s1.toks) (fun b u e => Heap.get?_push_of_some _ e) (Nat.le_refl _) ?_, rfl, q _ hf⟩
  exact ⟨z, us, r, ⟨_, Heap.get?_push_size _ rfl, rfl, _, rfl⟩⟩
theorem pe_lst (h : PA X es t) : PE X (.List es pos) (tLst t) := by
  intro pins s σ H Q I hq
  refine wpAny_List_spliced (thn (h pos pins s σ H _ I hq) fun us s1 ⟨xs, H1, I1, r, z, q⟩ => ⟨by rw [← r.length]; exact z, ?_⟩)
  have hf : H1 s1.heap.objs.size = none := I1.hok.fresh (Nat.le_refl _)
  refine ⟨.ref s1.heap.objs.size, upd H1 s1.heap.objs.size (.lst xs), I1.laid (t' := s1.toks) (fun b u e => Heap.get?_push_of_some _ e) (Nat.le_refl _) ?_, rfl, q _ hf⟩
  exact ⟨z, us, 0, r, Heap.get?_push_size _ rfl⟩
end

/-! ### what a def promises -/
/-- a def's promise: the bound arguments in the parameters' order, the heap, the wanted end, the wanted exception -/
abbrev Sp := List V → Hp → VK → XK → Prop
/-- how an exception lies behind a call (file 08 gives it): the callers' frames, abstract heap and state ahead of the call, the wish, the exception, the state -/
abbrev CXT := List Env → Hp → Shared → XK → Value → Shared → Prop

/-- the state at a call -/
structure Env0 (P : Program) (w : World) (K : PySem.W.Frag) (mg : Str → Option Value) (base : Heap) (A : Around) (outer : List Env) (s : Shared) (H : Hp) : Prop where
  frames : A.frames = some outer
  mod : Mod K mg base
  bs : ∀ b o, base.get? b = some o → s.heap.get? b = some o ∧ H b = none
  bsz : base.objs.size ≤ s.heap.objs.size
  funs : s.heap.FunFrames base outer
  frf : ∀ b ∈ frs outer, H b = none
  hok : HOk P w H s.heap
  bare : AllBare s.gens
/-- a call's end -/
def CE (outer : List Env) (P : Program) (w : World) (H : Hp) (s : Shared) (Q : VK) (u : Value) (s' : Shared) : Prop :=
  ∃ v H', s'.os = s.os ∧ AllBare s'.gens ∧ Un (frs outer) [] H H' s.heap s'.heap ∧ HOk P w H' s'.heap ∧ RelV v u ∧ Q v H'
def CR (CX : CXT) (outer : List Env) (P : Program) (w : World) (H : Hp) (s : Shared) (Q : VK) (E : XK) (r : Result) (s' : Shared) : Prop :=
  match r with
  | .ok (.ret u) => CE outer P w H s Q u s'
  | .ok _ => False
  | .error e => CX outer H s E e s'
structure FnOk (P : Program) (w : World) (K : PySem.W.Frag) (mg : Str → Option Value) (base : Heap) (CX : CXT) (k : Nat) (f : Addr) (fd : FuncData) (ps : List Str) (sp : Sp) : Prop where
  len : ∀ vs H Q E, sp vs H Q E → vs.length = ps.length
  run : ∀ (A : Around) (outer : List Env) (s : Shared) (H : Hp) (args : Args) (us : List Value) (vs : List V) (Q : VK) (E : XK), Room k A → Env0 P w K mg base A outer s H → BindsTo s fd args (ps.zip us) → Vals vs us → sp vs H Q E →
    codeAny (model P w) A (.call (.ref f) args) (CR CX outer P w H s Q E) s
theorem FnOk.mono {P : Program} {w : World} {K : PySem.W.Frag} {mg : Str → Option Value} {base : Heap} {CX : CXT} {j k : Nat} {f : Addr} {fd : FuncData} {ps : List Str} {sp : Sp} (F : FnOk P w K mg base CX j f fd ps sp) (h : j ≤ k) :
    FnOk P w K mg base CX k f fd ps sp := ⟨F.len, fun A outer s H args us vs Q E hr => F.run A outer s H args us vs Q E (hr.mono h)⟩
/-- a weaker promise -/
theorem FnOk.imp {P : Program} {w : World} {K : PySem.W.Frag} {mg : Str → Option Value} {base : Heap} {CX : CXT} {k : Nat} {f : Addr} {fd : FuncData} {ps : List Str} {sp sp' : Sp} (F : FnOk P w K mg base CX k f fd ps sp)
    (h : ∀ vs H Q E, sp' vs H Q E → sp vs H Q E) : FnOk P w K mg base CX k f fd ps sp' :=
  ⟨fun vs H Q E q => F.len vs H Q E (h _ _ _ _ q), fun A outer s H args us vs Q E hr he hb hv hs => F.run A outer s H args us vs Q E hr he hb hv (h _ _ _ _ hs)⟩

theorem Env0.make {P : Program} {w : World} {K : PySem.W.Frag} {mg : Str → Option Value} {base : Heap} {A : Around} {outer : List Env} {s : Shared} {H : Hp} (e : Env0 P w K mg base A outer s H) (C : Addr) (us : List Value) (kw : List (Str × Value)) :
    Env0 P w K mg base (A.under (.builtin "type.__call__" ⟨.ref C :: us, kw⟩)) outer s H := ⟨by first | exact e.frames | (simpa [Around.under, Code.envs, Code.isFrame, pushEnvs] using e.frames), e.mod, e.bs, e.bsz, e.funs, e.frf, e.hok, e.bare⟩
theorem Env0.in1 {P : Program} {w : World} {K : PySem.W.Frag} {mg : Str → Option Value} {base : Heap} {A : Around} {outer : List Env} {s : Shared} {H : Hp} (e : Env0 P w K mg base A outer s H) :
    Env0 P w K mg base A.in1 outer s H := ⟨e.frames, e.mod, e.bs, e.bsz, e.funs, e.frf, e.hok, e.bare⟩

section
variable {X : Cx} {pins : List (Addr × Obj)} {σ : St} {H : Hp} {s s' : Shared}
/-- from a body: what a callee wants -/
theorem Inv.env0 (I : Inv X pins σ H s) : Env0 X.prog X.w X.K X.mg X.base X.A X.stack s H :=
  ⟨I.ok.frames, I.ok.mod, I.bs, Nat.le_trans I.ok.bsz I.sz, I.stack, I.stkFree, I.hok, I.bare⟩
/-- behind a call -/
theorem Inv.after {Q : VK} {u : Value} (I : Inv X pins σ H s) (h : CE X.stack X.prog X.w H s Q u s') : EP X pins σ Q u s' := by
  obtain ⟨v, H', os, bare, un, hok, r, q⟩ := h
  obtain ⟨hh, g, d, t, os'⟩ := s'
  obtain rfl : os' = s.os := os
  exact ⟨v, H', I.call (h' := hh) (g' := g) (d' := d) (t' := t) (ch := []) un hok bare (fun b z => absurd z (by simp)), r, q⟩
end

/-! ### calls -/
/-- f(..): the written arguments, then the defaults dvs; E: what is wanted of an exception -/
def tCall (sp : Sp) (dvs : List V) (E : XK) (t : TA) : TE := fun σ H Q => t σ H fun vs H1 => sp (vs ++ dvs) H1 Q E
/-- o.m(..) of an instance of the class at C -/
def tMeth (C : Addr) (m : Str) (sp : Sp) (dvs : List V) (E : XK) (ta : TE) (t : TA) : TE := fun σ H Q => ta σ H fun x H1 => ∃ a dx fs, x = .ref a ∧ H1 a = some (.ins C dx fs) ∧ fs.lookup m = none ∧
  t σ H1 fun vs H2 => sp (x :: (vs ++ dvs)) H2 Q E
/-- C(..): a new instance and its dict, then __init__ -/
def tMake (C : Addr) (sp : Sp) (dvs : List V) (E : XK) (t : TA) : TE := fun σ H Q => t σ H fun vs H1 => ∀ x dx, H1 x = none → H1 dx = none → dx ≠ x →
  sp (.ref x :: (vs ++ dvs)) (upd (upd H1 dx (.own x)) x (.ins C dx [])) (fun v H2 => v = .non ∧ Q (.ref x) H2) E

/-- how the parameters are bound: us the positional arguments, kw the keywords' values by name, ds the defaults that fill up -/
def Binds (K : PySem.W.Frag) (fd : FuncData) (ps : List Str) (ds : List Value) : Prop :=
  ∀ (s : Shared) (us : List Value), K.In s.heap → (us ++ ds).length = ps.length → BindsTo s fd ⟨us, []⟩ (ps.zip (us ++ ds))
/-- every parameter is given -/
theorem Binds.all {K : PySem.W.Frag} {fd : FuncData} {ps : List Str} (h : ∀ us : List Value, us.length = ps.length → bindArgs fd ⟨us, []⟩ = pure (ps.zip us)) : Binds K fd ps [] := fun s us _ hl => by
  rw [List.append_nil] at hl ⊢
  exact .of_eq (h us hl)

/-- an exception of a callee reaches what this body wants of exceptions -/
def Passes (CX : CXT) (X : Cx) (E : XK) : Prop := ∀ (pins : List (Addr × Obj)) (σ : St) (H : Hp) (s : Shared) (e : Value) (s' : Shared), Inv X pins σ H s → CX X.stack H s E e s' → X.xe e s'

section
variable {X : Cx} {CX : CXT} {k : Nat} {f C : Addr} {fd : FuncData} {ps : List Str} {sp : Sp} {dvs : List V} {ds : List Value} {E : XK} {x m : Str} {p pos apos : Pos} {e o : Expr} {es : List Expr} {ta : TE} {t : TA}

/-- the callee runs -/
theorem run_fn {pins : List (Addr × Obj)} {σ : St} {H : Hp} {s : Shared} {Q : VK} {us : List Value} {vs : List V} (F : FnOk X.prog X.w X.K X.mg X.base CX k f fd ps sp) (hr : Room k X.A) (hb : Binds X.K fd ps ds) (hd : Vals dvs ds) (hx : Passes CX X E)
    (I : Inv X pins σ H s) (r : Vals vs us) (h : sp (vs ++ dvs) H Q E) : wpAny (model X.prog X.w) X.A (call (.ref f) us) (EP X pins σ Q) X.xe s := by
  have r2 : Vals (vs ++ dvs) (us ++ ds) := r.append hd
  have hl : (us ++ ds).length = ps.length := by rw [← r2.length]; exact F.len _ _ _ _ h
  refine wpAny_call (codeAny_mono (F.run X.A X.stack s H ⟨us, []⟩ (us ++ ds) (vs ++ dvs) Q E hr I.env0 (hb s us I.kIn hl) r2 h) fun r s' hq => ?_)
  cases r with
  | error e => exact hx pins σ H s e s' I hq
  | ok fl =>
    cases fl with
    | ret u => exact I.after hq
    | next => exact False.elim hq
    | brk => exact False.elim hq
    | cont => exact False.elim hq

theorem pe_call (F : FnOk X.prog X.w X.K X.mg X.base CX k f fd ps sp) (hr : Room k X.A) (hg : Gl X x) (hm : X.mg x = some (.ref f)) (hk : PySem.W.keepIn X.K (.ref f) = true) (hb : Binds X.K fd ps ds) (hd : Vals dvs ds) (hx : Passes CX X E)
    (ha : PA X (e :: es) t) (hdb : (x == ("__debug__" : Str)) = false := by decide) (he : starEach (e :: es) X.env = (false, eval e X.env) :: starEach es X.env := by rfl) (hpl : (backTo pos (starEach es X.env)).any (·.1) = false := by rfl) :
    PE X (.Call (.Name x p) (e :: es) [] pos) (tCall sp dvs E t) := by
  intro pins s σ H Q I h
  refine wpAny_Call_Name_kw (ld_glob I hg hm ?_ hdb)
  refine PySem.W.callWith_K (h₀ := X.base) I.ok.mod.kin hk (thn (ha pos pins s σ H _ I h) fun us s1 ⟨vs, H1, I1, r, q⟩ => ⟨I1.kIn, ?_⟩) he hpl
  exact run_fn F hr hb hd hx I1 r q
theorem pe_call0 (F : FnOk X.prog X.w X.K X.mg X.base CX k f fd ps sp) (hr : Room k X.A) (hg : Gl X x) (hm : X.mg x = some (.ref f)) (hk : PySem.W.keepIn X.K (.ref f) = true) (hb : Binds X.K fd ps ds) (hd : Vals dvs ds) (hx : Passes CX X E)
    (hdb : (x == ("__debug__" : Str)) = false := by decide) : PE X (.Call (.Name x p) [] [] pos) (tCall sp dvs E tNil) := by
  intro pins s σ H Q I h
  refine wpAny_Call_Name_kw (ld_glob I hg hm ?_ hdb)
  exact PySem.W.callWith_K0 I.kIn hk (run_fn (us := []) F hr hb hd hx I .nil h)

/-- o.m(e, ..) -/
theorem pe_meth {pl : Sem Bool} (he : PE X o ta) (c : Cls X.K C) (hm : Meth X.K C m f) (F : FnOk X.prog X.w X.K X.mg X.base CX k f fd ps sp) (hr : Room k X.A) (hb : Binds X.K fd ps ds) (hd : Vals dvs ds) (hx : Passes CX X E) (ha : PA X (e :: es) t)
    (hst : starEach (e :: es) X.env = (false, eval e X.env) :: starEach es X.env := by rfl) (hpl : (backTo pos (starEach es X.env)).any (·.1) = false := by rfl)
    (ht : eval (.Call (.Attribute o m apos) (e :: es) [] pos) X.env = (do
      let ov ← eval o X.env
      standAt apos.atName
      let (f, first) ← holding [ov] (getMethod ov m pl)
      callWith pos f first (backTo pos (starEach (e :: es) X.env)) (backToKw pos (keywordEach [] X.env))) := by rfl) :
    PE X (.Call (.Attribute o m apos) (e :: es) [] pos) (tMeth C m sp dvs E ta t) := by
  intro pins s σ H Q I h
  refine PySem.W.methodCall_KW (pl := pl) (thn (he pins s σ H _ I h) fun u s1 ⟨x, H1, I1, rx, a, dx, fs, ex, ea, l, q⟩ => ?_) ht
  subst ex
  obtain rfl : u = Value.ref a := rx
  refine getmeth_ok I1 ea c hm l ?_
  refine PySem.W.callWith_K (first := [.ref a]) (h₀ := X.base) I.ok.mod.kin hm.kp (thn (ha pos pins s1 σ H1 _ I1 q) fun us s2 ⟨vs, H2, I2, r, q2⟩ => ⟨I2.kIn, ?_⟩) hst hpl
  exact run_fn (us := .ref a :: us) (vs := .ref a :: vs) F hr hb hd hx I2 (.cons rfl r) q2
/-- o.m() -/
theorem pe_meth0 {pl : Sem Bool} (he : PE X o ta) (c : Cls X.K C) (hm : Meth X.K C m f) (F : FnOk X.prog X.w X.K X.mg X.base CX k f fd ps sp) (hr : Room k X.A) (hb : Binds X.K fd ps ds) (hd : Vals dvs ds) (hx : Passes CX X E)
    (ht : eval (.Call (.Attribute o m apos) [] [] pos) X.env = (do
      let ov ← eval o X.env
      standAt apos.atName
      let (f, first) ← holding [ov] (getMethod ov m pl)
      callWith pos f first (backTo pos (starEach [] X.env)) (backToKw pos (keywordEach [] X.env))) := by rfl) :
    PE X (.Call (.Attribute o m apos) [] [] pos) (tMeth C m sp dvs E ta tNil) := by
  intro pins s σ H Q I h
  refine PySem.W.methodCall_KW (pl := pl) (thn (he pins s σ H _ I h) fun u s1 ⟨x, H1, I1, rx, a, dx, fs, ex, ea, l, q⟩ => ?_) ht
  subst ex
  obtain rfl : u = Value.ref a := rx
  refine getmeth_ok I1 ea c hm l ?_
  exact PySem.W.callWith_K0 (first := [.ref a]) I1.kIn hm.kp (run_fn (us := [.ref a]) (vs := [.ref a]) F hr hb hd hx I1 (.cons rfl .nil) q)

/-- what a class must have to be made -/
structure Mk (K : PySem.W.Frag) (C f : Addr) : Prop where
  makes : PySem.W.makesIn K C = true
  init : PySem.W.findIn K (.ref C) "__init__" = some (some (.ref f))
  fn : PySem.W.isFn K (.ref f) = true
  kp : PySem.W.keepIn K (.ref C) = true

theorem run_make {pins : List (Addr × Obj)} {σ : St} {H : Hp} {s : Shared} {Q : VK} {us : List Value} {vs : List V} (M : Mk X.K C f) (F : FnOk X.prog X.w X.K X.mg X.base CX k f fd ps sp) (hr : Room (k + 1) X.A) (hb : Binds X.K fd ps ds) (hd : Vals dvs ds)
    (hx : Passes CX X E) (I : Inv X pins σ H s) (r : Vals vs us)
    (h : ∀ x dx, H x = none → H dx = none → dx ≠ x → sp (.ref x :: (vs ++ dvs)) (upd (upd H dx (.own x)) x (.ins C dx [])) (fun v H2 => v = .non ∧ Q (.ref x) H2) E) :
    wpAny (model X.prog X.w) X.A (call (.ref C) us) (EP X pins σ Q) X.xe s := by
  have hq := h (s.heap.objs.size + 1) s.heap.objs.size (I.hok.fresh (Nat.le_succ _)) (I.hok.fresh (Nat.le_refl _)) (Nat.ne_of_lt (Nat.lt_succ_self _))
  have I2 := Inv.made (C := C) I
  have r2 : Vals (V.ref (s.heap.objs.size + 1) :: (vs ++ dvs)) (Value.ref (s.heap.objs.size + 1) :: (us ++ ds)) := .cons rfl (r.append hd)
  have hl : (Value.ref (s.heap.objs.size + 1) :: us ++ ds).length = ps.length := by
    have e := r2.length
    rw [F.len _ _ _ _ hq] at e
    exact e.symm
  refine wpAny_call (make_map (f := f) I.kIn M.makes M.init (beq_iff_eq.mp M.fn) (codeAny_mono (F.run _ X.stack _ _ ⟨Value.ref (s.heap.objs.size + 1) :: us, []⟩ (Value.ref (s.heap.objs.size + 1) :: (us ++ ds)) _ _ E (hr.make C us [])
    (I2.env0.make C us []) (hb _ (Value.ref (s.heap.objs.size + 1) :: us) I2.kIn hl) r2 hq) fun r s' hq' => ?_))
  cases r with
  | error e => exact hx pins σ _ _ e s' I2 hq'
  | ok fl =>
    cases fl with
    | ret u =>
      obtain ⟨v, H', I3, rv, ev, q3⟩ := I2.after hq'
      subst ev
      exact ⟨rv, ⟨V.ref (s.heap.objs.size + 1), H', I3, rfl, q3⟩⟩
    | next => exact False.elim hq'
    | brk => exact False.elim hq'
    | cont => exact False.elim hq'
theorem pe_make (M : Mk X.K C f) (F : FnOk X.prog X.w X.K X.mg X.base CX k f fd ps sp) (hr : Room (k + 1) X.A) (hg : Gl X x) (hm : X.mg x = some (.ref C)) (hb : Binds X.K fd ps ds) (hd : Vals dvs ds) (hx : Passes CX X E)
    (ha : PA X (e :: es) t) (hdb : (x == ("__debug__" : Str)) = false := by decide) (he : starEach (e :: es) X.env = (false, eval e X.env) :: starEach es X.env := by rfl) (hpl : (backTo pos (starEach es X.env)).any (·.1) = false := by rfl) :
    PE X (.Call (.Name x p) (e :: es) [] pos) (tMake C sp dvs E t) := by
  intro pins s σ H Q I h
  refine wpAny_Call_Name_kw (ld_glob I hg hm ?_ hdb)
  refine PySem.W.callWith_K (h₀ := X.base) I.ok.mod.kin M.kp (thn (ha pos pins s σ H _ I h) fun us s1 ⟨vs, H1, I1, r, q⟩ => ⟨I1.kIn, ?_⟩) he hpl
  exact run_make M F hr hb hd hx I1 r q
theorem pe_make0 (M : Mk X.K C f) (F : FnOk X.prog X.w X.K X.mg X.base CX k f fd ps sp) (hr : Room (k + 1) X.A) (hg : Gl X x) (hm : X.mg x = some (.ref C)) (hb : Binds X.K fd ps ds) (hd : Vals dvs ds) (hx : Passes CX X E)
    (hdb : (x == ("__debug__" : Str)) = false := by decide) : PE X (.Call (.Name x p) [] [] pos) (tMake C sp dvs E tNil) := by
  intro pins s σ H Q I h
  refine wpAny_Call_Name_kw (ld_glob I hg hm ?_ hdb)
  exact PySem.W.callWith_K0 I.kIn M.kp (run_make (us := []) M F hr hb hd hx I .nil h)
end

/-! ### keywords -/
/-- the values of the keywords, from the left -/
def PK (X : Cx) (kws : List Keyword) (t : TA) : Prop :=
  ∀ (pos : Pos) (pins : List (Addr × Obj)) (s : Shared) (σ : St) (H : Hp) (Q : List V → Hp → Prop), Inv X pins σ H s → t σ H Q → wpAny (model X.prog X.w) X.A (evalAll ((backToKw pos (keywordEach kws X.env)).map (·.2))) (AP X pins σ Q) X.xe s
section
variable {X : Cx} {CX : CXT} {k : Nat} {f C : Addr} {fd : FuncData} {ps ks : List Str} {sp : Sp} {E : XK} {x m : Str} {p pos apos kpos : Pos} {e o : Expr} {es : List Expr} {kws : List Keyword} {te ta : TE} {t tk : TA} {nm : Option Str}
theorem pk_nil : PK X [] tNil := fun _ _ _ _ H Q I h => wpAny_evalAll_nil ⟨[], H, I, .nil, h⟩
theorem pk_cons (ha : PE X e te) (hr : PK X kws t) : PK X (⟨nm, e, kpos⟩ :: kws) (tCons te t) := by
  intro pos pins s σ H Q I h
  show wpAny _ _ (evalAll ((do let v ← eval e X.env; standAt pos; pure v) :: (backToKw pos (keywordEach kws X.env)).map (·.2))) _ _ s
  refine wpAny_evalAll_cons (wpAny_bind (thn (ha pins s σ H _ I h) fun u s1 ⟨x, H1, I1, r1, q1⟩ => wpAny_bind (wpAny_standAt (wpAny_pure ?_))))
  exact thn (hr pos pins s1 σ H1 _ I1 q1) fun us s2 ⟨xs, H2, I2, r2, q2⟩ => ⟨x :: xs, H2, I2, .cons r1 r2, q2⟩

/-- how a call with keywords binds: g puts the positional values us and the keywords' values ws (names ks) in the parameters' order, defaults among them -/
structure KBinds (K : PySem.W.Frag) (fd : FuncData) (ps ks : List Str) (g : List Value → List Value → List Value) (gV : List V → List V → List V) : Prop where
  to : ∀ (s : Shared) (us ws : List Value), K.In s.heap → (g us ws).length = ps.length → BindsTo s fd ⟨us, ks.zip ws⟩ (ps.zip (g us ws))
  rel : ∀ {vs : List V} {us : List Value} {zs : List V} {ws : List Value}, Vals vs us → Vals zs ws → Vals (gV vs zs) (g us ws)
def tCallK (sp : Sp) (gV : List V → List V → List V) (E : XK) (t tk : TA) : TE := fun σ H Q => t σ H fun vs H1 => tk σ H1 fun zs H2 => sp (gV vs zs) H2 Q E
variable {g : List Value → List Value → List Value} {gV : List V → List V → List V}
theorem run_fnk {pins : List (Addr × Obj)} {σ : St} {H : Hp} {s : Shared} {Q : VK} {us ws : List Value} {vs zs : List V} (F : FnOk X.prog X.w X.K X.mg X.base CX k f fd ps sp) (hr : Room k X.A) (hb : KBinds X.K fd ps ks g gV) (hx : Passes CX X E)
    (I : Inv X pins σ H s) (r : Vals vs us) (rz : Vals zs ws) (h : sp (gV vs zs) H Q E) : wpAny (model X.prog X.w) X.A (call (.ref f) us (ks.zip ws)) (EP X pins σ Q) X.xe s := by
  have r2 := hb.rel r rz
  have hl : (g us ws).length = ps.length := by rw [← r2.length]; exact F.len _ _ _ _ h
  refine wpAny_call (codeAny_mono (F.run X.A X.stack s H ⟨us, ks.zip ws⟩ (g us ws) (gV vs zs) Q E hr I.env0 (hb.to s us ws I.kIn hl) r2 h) fun r s' hq => ?_)
  cases r with
  | error e => exact hx pins σ H s e s' I hq
  | ok fl =>
    cases fl with
    | ret u => exact I.after hq
    | next => exact False.elim hq
    | brk => exact False.elim hq
    | cont => exact False.elim hq
/-- f(e, .., k = v, ..) -/
theorem pe_callK (F : FnOk X.prog X.w X.K X.mg X.base CX k f fd ps sp) (hr : Room k X.A) (hg : Gl X x) (hm : X.mg x = some (.ref f)) (hk : PySem.W.keepIn X.K (.ref f) = true) (hb : KBinds X.K fd ps ks g gV) (hx : Passes CX X E)
    (ha : PA X (e :: es) t) (hkw : PK X kws tk) (hall : (backToKw pos (keywordEach kws X.env)).all (·.1.isSome) = true := by rfl) (hks : (backToKw pos (keywordEach kws X.env)).filterMap (·.1) = ks := by rfl)
    (hdb : (x == ("__debug__" : Str)) = false := by decide) (he : starEach (e :: es) X.env = (false, eval e X.env) :: starEach es X.env := by rfl)
    (hpl : ((backTo pos (starEach (e :: es) X.env)).any (·.1) || (backToKw pos (keywordEach kws X.env)).any (·.1.isNone)) = false := by rfl) :
    PE X (.Call (.Name x p) (e :: es) kws pos) (tCallK sp gV E t tk) := by
  intro pins s σ H Q I h
  refine wpAny_Call_Name_kw (ld_glob I hg hm ?_ hdb)
  refine PySem.W.callWith_KW (h₀ := X.base) I.ok.mod.kin hk hall (thn (ha pos pins s σ H _ I h) fun us s1 ⟨vs, H1, I1, r, q⟩ => ?_) hpl he
  refine thn (hkw pos pins s1 σ H1 _ I1 q) fun ws s2 ⟨zs, H2, I2, rz, q2⟩ => ⟨I2.kIn, ?_⟩
  rw [hks]
  exact run_fnk F hr hb hx I2 r rz q2
end

/-! ### a def's body keeps its promise -/
/-- names: the parameters first -/
structure FnScope (N P : List Str) (sc : Scope) : Prop where
  kind : sc.kind = .function
  co : sc.isCoroutine = false
  gen : sc.isGenerator = false
  nd : N.Nodup
  pre : N.take P.length = P
  par : ∀ x ∈ P, sc.names.lookup x = some .local ∨ sc.names.lookup x = some .cell
  nofree : ∀ y ∈ sc.names, y.2 ≠ .free

theorem bindL_out {kindOf : Str → Option NameKind} {x : Str} : ∀ {binds : List (Str × Value)} {m : Str → Option Value}, (∀ v, (x, v) ∉ binds) → bindL kindOf binds m x = m x
  | [], _, _ => rfl
  | (n, v) :: r, m, h => by
    unfold bindL
    rw [bindL_out fun w hw => h w (List.mem_cons_of_mem _ hw)]
    split
    · have : x ≠ n := by rintro rfl; exact h v List.mem_cons_self
      simp [this]
    · rfl
theorem bindC_out {kindOf : Str → Option NameKind} {x : Str} : ∀ {binds : List (Str × Value)} {m : Str → Option Value}, (∀ v, (x, v) ∉ binds) → bindC kindOf binds m x = m x
  | [], _, _ => rfl
  | (n, v) :: r, m, h => by
    unfold bindC
    rw [bindC_out fun w hw => h w (List.mem_cons_of_mem _ hw)]
    split
    · rfl
    · have : x ≠ n := by rintro rfl; exact h v List.mem_cons_self
      simp [this]
theorem bindL_get {kindOf : Str → Option NameKind} {x : Str} {v : Value} : ∀ {P : List Str} {vs : List Value} {i : Nat} {m : Str → Option Value}, P.Nodup → P[i]? = some x → vs[i]? = some v → kindOf x = some .local →
    bindL kindOf (P.zip vs) m x = some v
  | [], _, _, _, _, h, _, _ => by simp at h
  | _ :: _, [], _, _, _, _, h, _ => by simp at h
  | p :: P, w :: vs, 0, m, nd, h1, h2, hk => by
    simp at h1 h2; subst h1; subst h2
    show bindL kindOf ((p, w) :: P.zip vs) m p = _
    unfold bindL
    rw [bindL_out fun v hv => (List.nodup_cons.mp nd).1 (List.of_mem_zip hv).1, if_pos hk]
    simp
  | p :: P, w :: vs, i + 1, m, nd, h1, h2, hk => by
    show bindL kindOf ((p, w) :: P.zip vs) m x = _
    unfold bindL
    exact bindL_get (i := i) (List.nodup_cons.mp nd).2 (by simpa using h1) (by simpa using h2) hk
theorem bindC_get {kindOf : Str → Option NameKind} {x : Str} {v : Value} : ∀ {P : List Str} {vs : List Value} {i : Nat} {m : Str → Option Value}, P.Nodup → P[i]? = some x → vs[i]? = some v → kindOf x ≠ some .local →
    bindC kindOf (P.zip vs) m x = some v
  | [], _, _, _, _, h, _, _ => by simp at h
  | _ :: _, [], _, _, _, _, h, _ => by simp at h
  | p :: P, w :: vs, 0, m, nd, h1, h2, hk => by
    simp at h1 h2; subst h1; subst h2
    show bindC kindOf ((p, w) :: P.zip vs) m p = _
    unfold bindC
    rw [bindC_out fun v hv => (List.nodup_cons.mp nd).1 (List.of_mem_zip hv).1, if_neg hk]
    simp
  | p :: P, w :: vs, i + 1, m, nd, h1, h2, hk => by
    show bindC kindOf ((p, w) :: P.zip vs) m x = _
    unfold bindC
    exact bindC_get (i := i) (List.nodup_cons.mp nd).2 (by simpa using h1) (by simpa using h2) hk

/-- the names' values at the entry -/
def start (N : List Str) (vs : List V) : St := vs.map some ++ List.replicate (N.length - vs.length) none

/-- the context of a def's body, at its entry; an exception leaves the frame, then lies as CX says -/
def cxOf (CX : CXT) (P : Program) (w : World) (K : PySem.W.Frag) (mg : Str → Option Value) (base : Heap) (N : List Str) (qual : Str) (scope : Scope) (f : Addr) (cd : Value) (A : Around) (outer : List Env) (s : Shared) (H : Hp) (E : XK) : Cx where
  prog := P
  w := w
  K := K
  mg := mg
  base := base
  A := A.deeper (envOfC qual scope s.heap.objs.size f cd)
  N := N
  s₀ := s
  H₀ := H
  env := envOfC qual scope s.heap.objs.size f cd
  outer := outer
  stack := envOfC qual scope s.heap.objs.size f cd :: outer
  ex := []
  calm := true
  fn := fun _ => true
  pn := []
  xe := fun e s' => wpAny (model P w) (A.deeper (envOfC qual scope s.heap.objs.size f cd)) (leaving (envOfC qual scope s.heap.objs.size f cd) e) (fun _ s'' => CX outer H s E e s'') (fun e' s'' => CX outer H s E e' s'') s'

theorem cell_has {sc : Scope} {n : Nat} {x : Str} (h : sc.names.lookup x = some .cell) : ∃ c, (cellsFrom n sc.names []).lookup x = some c := by
  have q := PySem.W.cellsFrom_some sc.names n [] (.inl h)
  exact Option.isSome_iff_exists.mp q

theorem inv_start {CX : CXT} {P : Program} {w : World} {K : PySem.W.Frag} {mg : Str → Option Value} {base : Heap} {N ps : List Str} {qual : Str} {scope : Scope} {f : Addr} {cd : Value} {A : Around} {outer : List Env} {s s1 : Shared} {H : Hp} {E : XK} {us : List Value} {vs : List V}
    (S : FnScope N ps scope) (hd : A.handled = none) (e0 : Env0 P w K mg base A outer s H) (hl : vs.length = ps.length) (r : Vals vs us)
    (x : InCallC s s.heap.objs.size (bindL (envOfC qual scope s.heap.objs.size f cd).kindOf (ps.zip us) fun _ => none) (cellsFrom (s.heap.objs.size + 1) scope.names []) (bindC (envOfC qual scope s.heap.objs.size f cd).kindOf (ps.zip us) fun _ => none) s1) :
    Inv (cxOf CX P w K mg base N qual scope f cd A outer s H E) [] (start N vs) H s1 := by
  have hpl : ps.length ≤ N.length := by have := congrArg List.length S.pre; rw [List.length_take] at this; omega
  obtain ⟨h1, tk, rfl, hk⟩ := x.done
  have noA : ∀ b : Addr, b ∉ (cxOf CX P w K mg base N qual scope f cd A outer s H E).ex := fun b z => absurd (show b ∈ ([] : List Addr) from z) (by simp)
  refine ⟨⟨e0.mod, S.kind, rfl, rfl, Nat.le_refl _, fun y z c h1 h2 => ?_, fun y hy => ?_, fun y c _ h => ?_, fun _ => hd, Around.frames_deeper e0.frames, .inr ⟨rfl, rfl⟩, fun b z => absurd z (noA b), e0.bs, e0.bsz, fun b _ _ => noA b, fun b z => absurd z (noA b), e0.funs, e0.frf⟩,
    rfl, e0.bare, Un.kept hk, ⟨_, x.toInCall.ns, fun i y v h1 h2 h3 => ?_⟩, fun y c h => ⟨_, x.cell y c h⟩, e0.hok.fresh (Nat.le_refl _), fun y c h => ?_, fun p hp => absurd (show p ∈ ([] : List (Addr × Obj)) from hp) (by simp), e0.hok.kept hk, ?_⟩
  · exact name_of_addr x.apart (PySem.mem_of_lookup h1) (PySem.mem_of_lookup h2)
  · have hy : scope.names.lookup y = some .cell ∨ scope.names.lookup y = some .free := hy
    rcases hy with hy | hy
    · exact cell_has hy
    · exact absurd rfl (S.nofree _ (PySem.mem_of_lookup hy))
  · exact Nat.le_of_lt (x.above y c (PySem.mem_of_lookup h))
  · have hi : i < vs.length := by
      unfold start at h2
      by_cases hi : i < vs.length
      · exact hi
      · rw [List.getElem?_append_right (by simpa using hi)] at h2
        rw [List.getElem?_replicate] at h2
        split at h2 <;> cases h2
    have ha : vs[i]? = some v := by
      unfold start at h2
      rw [List.getElem?_append_left (by simpa using hi), List.getElem?_map] at h2
      cases e : vs[i]? with
      | none => rw [e] at h2; cases h2
      | some a => rw [e] at h2; cases h2; rfl
    obtain ⟨u, hu, rv⟩ := r.get ha
    have hp : ps[i]? = some y := by
      rw [← S.pre, List.getElem?_take_of_lt (by omega)]; exact h1
    have ndP : ps.Nodup := by rw [← S.pre]; exact S.nd.sublist (List.take_sublist _ _)
    refine ⟨u, rv, ?_⟩
    rcases S.par y (List.mem_of_getElem? hp) with k | k
    · exact .inl ⟨k, bindL_get ndP hp hu k⟩
    · obtain ⟨c, e⟩ := cell_has (n := s.heap.objs.size + 1) k
      refine .inr ⟨.inl k, c, e, ?_⟩
      have q := x.cell y c e
      rw [bindC_get ndP hp hu (by show scope.names.lookup y ≠ _; rw [k]; decide)] at q
      exact q
  · exact e0.hok.fresh (Nat.le_of_lt (x.above y c (PySem.mem_of_lookup h)))
  · unfold start
    show _ = N.length
    rw [List.length_append, List.length_map, List.length_replicate]
    omega

/-- THE RULE: a def (or a method) of the text, by its body. The body's reading t is chosen for each entry; it is run at the parameters' values -/
theorem fn_of {CX : CXT} {P : Program} {w : World} {K : PySem.W.Frag} {mg : Str → Option Value} {base : Heap} {k : Nat} {f : Addr} {name qual : Str} {params : Arguments} {body : List Stmt} {scope : Scope} {dV kV doc pm cdv ct oc : Value} {an od : Option Addr}
    {osl : Array (Option Value)} {N ps : List Str} {sp : Sp} (lk : K.lookup f = some ⟨oc, od, .func (PySem.W.fnOf name qual params body scope dV kV doc pm an cdv ct), osl⟩) (hcd : PySem.W.codeIn K cdv qual = true) (S : FnScope N ps scope)
    (len : ∀ vs H Q E, sp vs H Q E → vs.length = ps.length)
    (hbody : ∀ (A : Around) (outer : List Env) (s : Shared) (H : Hp) (vs : List V) (Q : VK) (E : XK), Room k (A.deeper (envOfC qual scope s.heap.objs.size f cdv)) → sp vs H Q E →
      ∃ t, PSs (cxOf CX P w K mg base N qual scope f cdv A outer s H E) body t ∧ t { nx := fun _ H' => Q .non H', rt := Q } (start N vs) H) :
    FnOk P w K mg base CX (k + 1) f (PySem.W.fnOf name qual params body scope dV kV doc pm an cdv ct) ps sp := by
  refine ⟨len, fun A outer s H args us vs Q E hr e0 hb r hsp => ?_⟩
  have hl := len _ _ _ _ hsp
  have KX : K.In s.heap := e0.mod.kin.keeps fun b o e => (e0.bs b o e).1
  have lim : s.heap.NoLimit := e0.mod.nolimit.keeps fun b o e => (e0.bs b o e).1
  have hkind : ∀ y ∈ ps.zip us, scope.names.lookup y.1 = some .local ∨ (scope.names.lookup y.1 = some .cell ∧ ((cellsFrom (s.heap.objs.size + 1) scope.names []).lookup y.1).isSome = true) := fun ⟨n, v⟩ hy => by
    rcases S.par n (List.of_mem_zip hy).1 with q | q
    · exact .inl q
    · exact .inr ⟨q, PySem.W.cellsFrom_some _ _ _ (.inl q)⟩
  refine codeAny_call_function hr.depth (KX _ _ lk) rfl S.co S.gen rfl (PySem.W.codeRec_of KX hcd) (hb _ _ _ _ ?_)
  refine wpAny_newFunctionEnv_cells S.kind hkind fun env he s1 x => ?_
  subst he
  refine ⟨lim.keeps x.toInCall.keep, codeAny_func ?_⟩
  obtain ⟨t, ht, hq⟩ := hbody A outer s H vs Q E (hr.deeper _) hsp
  have I : Inv (cxOf CX P w K mg base N qual scope f cdv A outer s H E) [] (start N vs) H s1 := inv_start S hr.hd e0 hl r x
  refine wpAny_mono (ht [] s1 (start N vs) H _ I hq) (fun fl s' hs => ?_) fun e s' hs => hs
  have fin : ∀ {σ' : St} {H' : Hp} {v : V} {u : Value}, Inv (cxOf CX P w K mg base N qual scope f cdv A outer s H E) [] σ' H' s' → RelV v u → Q v H' → CE outer P w H s Q u s' :=
    fun {σ' H' v u} J rv q => ⟨v, H', J.os, J.bare, J.base, J.hok, rv, q⟩
  cases fl with
  | ret u =>
    obtain ⟨v, σ', H', J, rv, q⟩ := hs
    exact fin J rv q
  | next =>
    obtain ⟨σ', H', J, q⟩ := hs
    exact fin (v := V.non) (u := Value.none) J rfl q
  | brk =>
    obtain ⟨_, _, _, q⟩ := hs
    exact False.elim q
  | cont =>
    obtain ⟨_, _, _, q⟩ := hs
    exact False.elim q
end L2

namespace L2
open PySem PySem.Spec PyProof.Rows
section
variable {X : Cx} {x : Str} {p pos : Pos} {e : Expr} {es : List Expr} {t : TA} {id T : String} {r : List V → Hp → VK → Prop}

def tCB (r : List V → Hp → VK → Prop) (t : TA) : TE := fun σ H Q => t σ H fun vs H1 => r vs H1 Q
/-- f(e, ..), f a built-in function -/
theorem pe_callB (hc : CallR X (.builtin id) r) (hg : Gl X x) (hm : X.mg x = none) (hv : bootBuiltins x = some (.builtin id)) (ha : PA X (e :: es) t) (hn : x ≠ "__name__" := by decide) (hdb : (x == ("__debug__" : Str)) = false := by decide)
    (he : starEach (e :: es) X.env = (false, eval e X.env) :: starEach es X.env := by rfl) (hpl : (backTo pos (starEach es X.env)).any (·.1) = false := by rfl) : PE X (.Call (.Name x p) (e :: es) [] pos) (tCB r t) := by
  intro pins s σ H Q I h
  refine wpAny_Call_Name_kw (ld_blt I hg hm hv ?_ hn hdb)
  exact PyProof.Rows.callWith_builtin1 (thn (ha pos pins s σ H _ I h) fun us s1 ⟨vs, H1, I1, r1, q1⟩ => hc pins s1 σ H1 vs us Q I1 r1 q1) he hpl
/-- T(e, ..), T a built-in type -/
theorem pe_callTy (hc : CallR X (.type T) r) (hg : Gl X x) (hm : X.mg x = none) (hv : bootBuiltins x = some (.type T)) (ha : PA X (e :: es) t) (hn : x ≠ "__name__" := by decide) (hdb : (x == ("__debug__" : Str)) = false := by decide)
    (he : starEach (e :: es) X.env = (false, eval e X.env) :: starEach es X.env := by rfl) (hpl : (backTo pos (starEach es X.env)).any (·.1) = false := by rfl) : PE X (.Call (.Name x p) (e :: es) [] pos) (tCB r t) := by
  intro pins s σ H Q I h
  refine wpAny_Call_Name_kw (ld_blt I hg hm hv ?_ hn hdb)
  exact PyProof.Rows.callWith_type1 (thn (ha pos pins s σ H _ I h) fun us s1 ⟨vs, H1, I1, r1, q1⟩ => hc pins s1 σ H1 vs us Q I1 r1 q1) he hpl
/-- T() -/
theorem pe_callTy0 (hc : CallR X (.type T) r) (hg : Gl X x) (hm : X.mg x = none) (hv : bootBuiltins x = some (.type T)) (hn : x ≠ "__name__" := by decide) (hdb : (x == ("__debug__" : Str)) = false := by decide) :
    PE X (.Call (.Name x p) [] [] pos) (tCB r tNil) := by
  intro pins s σ H Q I h
  refine wpAny_Call_Name_kw (ld_blt I hg hm hv ?_ hn hdb)
  exact PyProof.Rows.callWith_type0 (hc pins s σ H [] [] Q I .nil h)
end
end L2

namespace HT
open PySem PyProof.Rows

/-- t < u of tuples of ints -/
def lexLt : List Int → List Int → Bool
  | [], [] => false
  | [], _ :: _ => true
  | _ :: _, [] => false
  | x :: xs, y :: ys => if x = y then lexLt xs ys else decide (x < y)
theorem lexLt_cons (x y : Int) (xs ys : List Int) : lexLt (x :: xs) (y :: ys) = if x = y then lexLt xs ys else decide (x < y) := rfl
theorem lexLt_nil_nil : lexLt [] [] = false := rfl
theorem lexLt_nil_cons (y : Int) (ys : List Int) : lexLt [] (y :: ys) = true := rfl
theorem lexLt_cons_nil (x : Int) (xs : List Int) : lexLt (x :: xs) [] = false := rfl

theorem eqAt_int (A : Around) (s : Shared) (a : Int) (t : Tok) (c : Int) (u : Tok) : ∃ e, SeqAt.EqAt A s (.int a t) (.int c u) e ∧ (e = true ↔ a = c) :=
  ⟨(a == c), SeqAt.EqAt.int_int a t c u, by simp⟩
theorem rcLt_int (A : Around) (s : Shared) (a : Int) (t : Tok) (c : Int) (u : Tok) (prog : Program) (w : World) (E : Value → Shared → Prop) (Q : Value → Shared → Prop) (h : Q (.bool (decide (a < c))) s) :
    wpAny (model prog w) A (richCompare .Lt (.int a t) (.int c u)) Q E s :=
  (PyProof.Rows.lt_int h : wpAny (model prog w) A (compareOp .Lt (.int a t) (.int c u)) Q E s)

section
open PySem.SeqAt
open PySem.AutoSeq1 (wpAny_loadPart')
open PySem.MeetsSeq PySem.MeetsSeq2 PySem.MeetsSeq3

theorem tuple_lt_ints (l b : Addr) (items items2 : Array Value) (n n2 : Nat) (dd dd2 : Option Addr) (sl sl2 : Array (Option Value)) (ns ms : List Int) (hi : IntsAre items.toList ns) (hj : IntsAre items2.toList ms) :
    Meets (Builtin.«tuple.__lt__» ⟨[.ref l, .ref b], []⟩)
      (fun _ R s => s.heap.get? l = some { cls := .type "tuple", dict := dd, data := .seq items n, slots := sl } ∧ s.heap.get? b = some { cls := .type "tuple", dict := dd2, data := .seq items2 n2, slots := sl2 } ∧
        R (.ok (.ret (.bool (lexLt ns ms)))) s) :=
  .of_wp fun prog w A R s h => by
    obtain ⟨hp, g, d, tk, os⟩ := s; obtain ⟨hl, hb, h⟩ := h
    have f2 := AutoSeq1.sub_tuple_tuple
    have z1 : items.size = ns.length := by rw [← hi.length]; simp
    have z2 : items2.size = ms.length := by rw [← hj.length]; simp
    wp_walk using wpAny_loadPart' hl, wpAny_loadPart' hb, wpAny_forIn_list _ (fun rest b s' => b.1 = none ∧ s' = ⟨hp, g, d, tk, os⟩ ∧ ∃ (vs ws : List Value) (ns' ms' : List Int), rest = vs.zip ws ∧
      IntsAre vs ns' ∧ IntsAre ws ms' ∧ ns'.length + items2.size = ms'.length + items.size ∧ R (.ok (.ret (.bool (lexLt ns' ms')))) ⟨hp, g, d, tk, os⟩) _
    case turn =>
      rintro ⟨y, x⟩ rest b s' ⟨hb', rfl, vs, ws, ns', ms', hz, hvi, hwi, hlen, hR⟩
      cases hvi with
      | nil => rw [List.zip_nil_left] at hz; cases hz
      | cons a t hvi' =>
        cases hwi with
        | nil => rw [List.zip_nil_right] at hz; cases hz
        | cons c u hwi' =>
          rw [List.zip_cons_cons] at hz
          injection hz with hyx hrest
          injection hyx with hy hx
          subst hy hx
          rw [lexLt_cons] at hR
          simp only [List.length_cons] at hlen
          obtain ⟨e, he, hiff⟩ := eqAt_int A.in1 ⟨hp, g, d, tk, os⟩ a t c u
          refine wpAny_bind (he prog w _ _ ?_)
          cases e with
          | true =>
            rw [if_pos (hiff.mp rfl)] at hR
            wp_walk
            exact ⟨rfl, rfl, _, _, _, _, hrest, hvi', hwi', by omega, hR⟩
          | false =>
            rw [if_neg (fun q => absurd (hiff.mpr q) Bool.false_ne_true)] at hR
            have hri := rcLt_int A.in1 ⟨hp, g, d, tk, os⟩ a t c u prog w
            wp_walk using hri
            exact ⟨_, rfl, by simpa using hR⟩
    case fin =>
      rintro ⟨b1, b2⟩ s' ⟨hb', rfl, vs, ws, ns', ms', hz, hvi, hwi, hlen, hR⟩
      simp only at hb'
      subst hb'
      have hv : lexLt ns' ms' = decide (items.size < items2.size) := by
        cases hvi with
        | nil =>
          cases hwi with
          | nil =>
            simp only [List.length_nil] at hlen
            rw [lexLt_nil_nil]
            exact (decide_eq_false (by omega)).symm
          | cons c u hw =>
            simp only [List.length_nil, List.length_cons] at hlen
            rw [lexLt_nil_cons]
            exact (decide_eq_true (by omega)).symm
        | cons a t hv =>
          cases hwi with
          | nil =>
            simp only [List.length_nil, List.length_cons] at hlen
            rw [lexLt_cons_nil]
            exact (decide_eq_false (by omega)).symm
          | cons c u hw =>
            rw [List.zip_cons_cons] at hz
            cases hz
      rw [hv] at hR
      wp_walk
      exact ⟨_, rfl, by simpa [Builtin.Tuple.tupleCompareSizes] using hR⟩
    case h =>
      exact ⟨rfl, rfl, items.toList, items2.toList, ns, ms, rfl, hi, hj, by omega, h⟩
end

section
variable {prog : Program} {w : World} {A : Around} {E : Value → Shared → Prop} {s : Shared}

theorem lt_tupInts {l b : Addr} {items items2 : Array Value} {ns ms : List Int} {Q : Value → Shared → Prop} (hl : IsTup s.heap l items) (hb : IsTup s.heap b items2) (hi : IntsAre items.toList ns) (hj : IntsAre items2.toList ms)
    (hu : A.units < cLine) (h : Q (.bool (lexLt ns ms)) s) : wpAny (model prog w) A (compareOp .Lt (.ref l) (.ref b)) Q E s := by
  obtain ⟨⟨cls, dd, data, sl⟩, ho, hc, n, hd⟩ := id hl
  obtain ⟨⟨cls2, dd2, data2, sl2⟩, ho2, hc2, n2, hd2⟩ := id hb
  simp only at hc hd hc2 hd2
  subst hc hd hc2 hd2
  exact richCompare_meets_room (op := .Lt) ⟨_, ho, rfl⟩ ⟨_, ho2, rfl⟩ PySem.F.slot_tuple_lt PySem.F.entry_tuple_lt (PySem.F.args_tuple_lt_2 _ _) (tuple_lt_ints l b items items2 n n2 dd dd2 sl sl2 ns ms hi hj)
    ⟨ho, ho2, show Value.bool (lexLt ns ms) ≠ Value.notImplemented ∧ Q (.bool (lexLt ns ms)) s from ⟨(fun x => nomatch x), h⟩⟩ hu

/-- t + u, t not empty -/
theorem cat_tup {t b : Addr} {vs ws : List Value} {Q : Value → Shared → Prop} (ht : IsTup s.heap t vs.toArray) (hb : IsTup s.heap b ws.toArray) (hv : vs ≠ [])
    (h1 : ws = [] → Q (.ref t) s) (h2 : ws ≠ [] → Q (.ref s.heap.objs.size) { s with heap := s.heap.push { cls := .type "tuple", data := .seq (vs ++ ws).toArray } })
    (hsz : vs.length + ws.length ≤ sizeLine) : wpAny (model prog w) A (binaryOp .Add (.ref t) (.ref b)) Q E s := by
  obtain ⟨⟨cls, dd, data, sl⟩, ho, hc, n, hd⟩ := id ht
  obtain ⟨⟨cls2, dd2, data2, sl2⟩, ho2, hc2, n2, hd2⟩ := id hb
  simp only at hc hd hc2 hd2
  subst hc hd hc2 hd2
  have e : vs.toArray ++ ws.toArray = (vs ++ ws).toArray := by simp
  by_cases hw : ws = []
  · exact concat_meets ⟨_, ho, rfl⟩ ⟨_, ho2, rfl⟩ noFill_tuple_add seq_tuple_add PySem.F.slot_tuple_add PySem.F.entry_tuple_add (PySem.F.args_tuple_add_2 _ _)
      (tuple_addW1 t b vs.toArray ws.toArray n n2 dd dd2 sl sl2 (by simpa using hv) (by simp [hw])) ⟨ho, ho2, h1 hw⟩
  · refine concat_meets ⟨_, ho, rfl⟩ ⟨_, ho2, rfl⟩ noFill_tuple_add seq_tuple_add PySem.F.slot_tuple_add PySem.F.entry_tuple_add (PySem.F.args_tuple_add_2 _ _)
      (tuple_addW2 t b vs.toArray ws.toArray n n2 dd dd2 sl sl2 (by simpa using hv) (by simpa using hw) (by rw [List.size_toArray, List.size_toArray]; exact hsz)) ⟨ho, ho2, ?_⟩
    rw [e]
    exact h2 hw

/-! ### t[a:b], not the whole -/
/-- a slice's bound as a place among n (d where it is left out) -/
def sIx (n d : Nat) : Option Int → Nat
  | none => d
  | some v => if v < 0 then (v + (n : Int)).toNat else min v.toNat n
theorem sIx_none (n d : Nat) : sIx n d none = d := rfl
theorem sIx_nat (n d k : Nat) : sIx n d (some (k : Int)) = min k n := by
  show (if (k : Int) < 0 then ((k : Int) + (n : Int)).toNat else min (k : Int).toNat n) = min k n
  rw [if_neg (by omega), Int.toNat_natCast]
theorem sIx_le (n d : Nat) (hd : d ≤ n) (o : Option Int) : sIx n d o ≤ n := by
  cases o with
  | none => exact hd
  | some v =>
    show (if v < 0 then (v + (n : Int)).toNat else min v.toNat n) ≤ n
    by_cases hv : v < 0
    · rw [if_pos hv]; omega
    · rw [if_neg hv]; exact Nat.min_le_right _ _
theorem clip_eq (v : Int) (n d : Nat) : (if v < 0 then max (v + (n : Int)) 0 else min v (n : Int)) = ((sIx n d (some v) : Nat) : Int) := by
  show (if v < 0 then max (v + (n : Int)) 0 else min v (n : Int)) = (((if v < 0 then (v + (n : Int)).toNat else min v.toNat n) : Nat) : Int)
  by_cases hv : v < 0
  · simp only [if_pos hv]; omega
  · simp only [if_neg hv]; omega
theorem adjust_gen (lo hi : Option Int) (n : Nat) : Builtin.Slice.sliceAdjust lo hi 1 (n : Int) = (((sIx n 0 lo : Nat) : Int), ((sIx n n hi : Nat) : Int)) := by
  have h1 : ¬ ((1 : Int) < 0) := by omega
  unfold Builtin.Slice.sliceAdjust
  simp only [h1, if_false]
  refine Prod.ext ?_ ?_
  · cases lo with
    | none => rfl
    | some v => exact clip_eq v n 0
  · cases hi with
    | none => rfl
    | some v => exact clip_eq v n n
theorem places_gen (i j : Nat) : Builtin.Slice.slicePlaces (i : Int) (j : Int) 1 = j - i := by
  unfold Builtin.Slice.slicePlaces
  have h1 : (1 : Int) > 0 := by omega
  simp only [h1, if_true, Int.ediv_one]
  split <;> omega
theorem slicePart_ {v : Value} {o : Option Int} {Q : Option Int → Shared → Prop} (p : IsPart v o) (h : Q o s) : wpAny (model prog w) A (Builtin.Slice.slicePartIndex v) Q E s := by
  cases p with
  | none => exact slicePart_none h
  | int i t => exact slicePart_int h
theorem sliceApplied_gen {sl : Addr} {vl vu : Value} {lo hi : Option Int} {n : Nat} {Q : Int × Int × Nat → Shared → Prop} (hs : s.heap.IsSliceOf sl vl vu .none) (pl : IsPart vl lo) (pu : IsPart vu hi)
    (h : Q (((sIx n 0 lo : Nat) : Int), 1, sIx n n hi - sIx n 0 lo) s) : wpAny (model prog w) A (Builtin.Slice.sliceApplied (.ref sl) (pure (n : Int))) Q E s := by
  obtain ⟨os, hos, hcs, hds⟩ := id hs
  unfold Builtin.Slice.sliceApplied Builtin.Slice.sliceFields
  refine wpAny_bind (wpAny_bind (wpAny_field hos hds (x := vl) rfl (wpAny_bind (wpAny_field hos hds (x := vu) rfl (wpAny_bind (wpAny_field hos hds (x := .none) rfl (wpAny_pure ?_)))))))
  refine wpAny_bind (slicePart_none ?_)
  show wpAny _ _ (if ((1 : Int) == 0) = true then _ else _) _ _ s
  rw [if_neg (by decide)]
  refine wpAny_bind (slicePart_ pl (wpAny_bind (slicePart_ pu (wpAny_bind (wpAny_pure ?_)))))
  show wpAny _ _ (match Builtin.Slice.sliceAdjust lo hi 1 (n : Int) with | (lo, hi) => pure (lo, (1 : Int), Builtin.Slice.slicePlaces lo hi 1)) _ _ s
  rw [adjust_gen lo hi n]
  show wpAny _ _ (pure (((sIx n 0 lo : Nat) : Int), (1 : Int), Builtin.Slice.slicePlaces ((sIx n 0 lo : Nat) : Int) ((sIx n n hi : Nat) : Int) 1)) _ _ s
  rw [places_gen]
  exact wpAny_pure h
theorem pick_gen (xs : Array Value) (i k : Nat) : ((List.range k).filterMap fun (m : Nat) => xs[((i : Int) + (m : Int) * 1).toNat]?).toArray = ((xs.toList.drop i).take k).toArray := by
  have e : (fun (m : Nat) => xs[((i : Int) + (m : Int) * 1).toNat]?) = fun m => xs[i + m]? := by
    funext m
    have : ((i : Int) + (m : Int) * 1).toNat = i + m := by omega
    rw [this]
  rw [e]
  have := pick_run xs i k
  rw [List.filterMap_map] at this
  have e2 : ((fun x => xs[x]?) ∘ fun x => i + x) = fun m => xs[i + m]? := rfl
  rw [e2] at this
  rw [this]

theorem getItem_tuple_cut {t sl : Addr} {items : Array Value} {vl vu : Value} {lo hi : Option Int} {Q : Value → Shared → Prop} (ht : IsTup s.heap t items) (hs : s.heap.IsSliceOf sl vl vu .none) (pl : IsPart vl lo) (pu : IsPart vu hi)
    (hw : ¬ (sIx items.size 0 lo = 0 ∧ sIx items.size items.size hi = items.size))
    (h : Q (.ref s.heap.objs.size) { s with heap := s.heap.push { cls := .type "tuple", data := .seq ((items.toList.drop (sIx items.size 0 lo)).take (sIx items.size items.size hi - sIx items.size 0 lo)).toArray } })
    (hsz : items.size ≤ sizeLine) : wpAny (model prog w) A (getItem (.ref t) (.ref sl)) Q E s := by
  have htake : sizeOk (.seq ((items.toList.drop (sIx items.size 0 lo)).take (sIx items.size items.size hi - sIx items.size 0 lo)).toArray) := by
    show ((items.toList.drop (sIx items.size 0 lo)).take (sIx items.size items.size hi - sIx items.size 0 lo)).toArray.size ≤ sizeLine
    rw [List.size_toArray, List.length_take, List.length_drop, Array.length_toList]
    omega
  have hj : sIx items.size items.size hi ≤ items.size := sIx_le _ _ (Nat.le_refl _) hi
  obtain ⟨os, hos, hcs, hds⟩ := id hs
  have hTs : s.TypeIs (.ref sl) "slice" := ⟨os, hos, hcs⟩
  unfold getItem
  try with_reducible refine wpAny_holding ?_
  first | refine wpAny_bind (wpAny_pure ?_) | skip
  refine wpAny_bind (wpAny_sequenceKey ht.typeIs (by decide) ?_)
  refine wpAny_bind (wpAny_callSpecial?_slot (name := Str.ofString "__getitem__") ht.typeIs PyProof.Rows.slot_tuple_getitem
    (wpAny_call_entry PyProof.Rows.slot_tuple_getitem ht.typeIs entry_tuple_getitem ?_ (args_tuple_getitem _ _)))
  show wpAny _ _ (Builtin.Tuple.tupleItemsOf (.ref t) >>= _) _ _ s
  refine wpAny_bind (tupleItemsOf_ ht ?_)
  refine wpAny_bind (wpAny_typeOf hTs ?_)
  rw [if_pos (by decide)]
  refine wpAny_bind (sliceApplied_gen hs pl pu ?_)
  have hno : ¬ ((((sIx items.size 0 lo : Nat) : Int) == 0 && (1 : Int) == 1 && (sIx items.size items.size hi - sIx items.size 0 lo) == items.size) = true) := by
    intro q
    rw [Bool.and_eq_true, Bool.and_eq_true] at q
    have q1 : ((sIx items.size 0 lo : Nat) : Int) = 0 := eq_of_beq q.1.1
    have q2 : sIx items.size items.size hi - sIx items.size 0 lo = items.size := eq_of_beq q.2
    exact hw ⟨by omega, by omega⟩
  show wpAny _ _ (if (((sIx items.size 0 lo : Nat) : Int) == 0 && (1 : Int) == 1 && (sIx items.size items.size hi - sIx items.size 0 lo) == items.size) = true then _ else _) _ _ s
  rw [if_neg hno, pick_gen]
  first
    | exact wpAny_bind (m := Builtin.Tuple.tupleExact _) (wpAny_newObj_type (wpAny_pure ⟨_, rfl, wpAny_pure h⟩) htake)
    | exact wpAny_bind (m := Builtin.Tuple.tupleExact _) (wpAny_newObj_type (wpAny_bind (wpAny_pure (wpAny_pure ⟨_, rfl, wpAny_pure h⟩))) htake)
    | exact wpAny_bind (wpAny_bind (m := Builtin.Tuple.tupleExact _) (wpAny_newObj_type (wpAny_pure (wpAny_pure ⟨_, rfl, wpAny_pure h⟩)) htake))
    | exact wpAny_bind (wpAny_bind (m := Builtin.Tuple.tupleExact _) (wpAny_newObj_type (wpAny_pure ⟨_, rfl, wpAny_pure h⟩) htake))
end
end HT

namespace L2
open PySem PySem.Spec PyProof.Rows

/-! ### the parts of a slice -/
abbrev TO := St → Hp → (Option Int → Hp → Prop) → Prop
/-- a slice's part (left out, or an int) -/
def PO (X : Cx) (e : Option Expr) (t : TO) : Prop :=
  ∀ (pins : List (Addr × Obj)) (s : Shared) (σ : St) (H : Hp) (Q : Option Int → Hp → Prop), Inv X pins σ H s → t σ H Q →
    wpAny (model X.prog X.w) X.A (evalPart e X.env) (fun u s' => ∃ o H', Inv X pins σ H' s' ∧ IsPart u o ∧ Q o H') X.xe s
def tNoPart : TO := fun _ H Q => Q none H
def tPart (t : TE) : TO := fun σ H Q => t σ H fun x H1 => ∃ i, x = .int i ∧ Q (some i) H1

theorem intsAre_of {ns : List Int} : ∀ {us : List Value}, Vals (ns.map V.int) us → IntsAre us ns := by
  induction ns with
  | nil => intro us r; rw [List.map_nil] at r; cases r; exact .nil
  | cons n ns ih =>
    intro us r
    rw [List.map_cons] at r
    cases r with
    | cons r1 r2 =>
      obtain ⟨t, e⟩ := r1
      subst e
      exact .cons n t (ih r2)

section
variable {X : Cx} {e : Expr} {te : TE} {lo hi : Option Expr} {tl th : TO} {pos p2 : Pos}

theorem po_none : PO X none tNoPart := by
  intro pins s σ H Q I h
  rw [evalPart_none]
  exact wpAny_pure ⟨none, H, I, .none, h⟩
theorem po_some (h : PE X e te) : PO X (some e) (tPart te) := by
  intro pins s σ H Q I hw
  rw [evalPart_some]
  refine thn (h pins s σ H _ I hw) fun u s1 ⟨x, H1, I1, r1, q1⟩ => ?_
  obtain ⟨i, rfl, q⟩ := q1
  obtain ⟨t, rfl⟩ := r1
  exact ⟨some i, H1, I1, .int i t, q⟩

/-- what a slice of a value is, by values: the slice object stands at sl -/
def SlR (X : Cx) (r : V → Option Int → Option Int → Hp → VK → Prop) : Prop :=
  ∀ (pins : List (Addr × Obj)) (s : Shared) (σ : St) (H : Hp) (x : V) (v vl vu : Value) (lo hi : Option Int) (sl : Addr) (Q : VK), Inv X pins σ H s → RelV x v → s.heap.IsSliceOf sl vl vu .none → IsPart vl lo → IsPart vu hi → r x lo hi H Q →
    ∃ T id, typeLookup (.type T) "__getitem__" = pure (some (.builtin id)) ∧ s.TypeIs v T ∧ wpAny (model X.prog X.w) X.A (getItem v (.ref sl)) (EP X pins σ Q) X.xe s
theorem SlR.or {r r' : V → Option Int → Option Int → Hp → VK → Prop} (h : SlR X r) (h' : SlR X r') : SlR X (fun x lo hi H Q => r x lo hi H Q ∨ r' x lo hi H Q) := by
  intro pins s σ H x v vl vu lo hi sl Q I rx hs pl pu q
  rcases q with q | q
  · exact h pins s σ H x v vl vu lo hi sl Q I rx hs pl pu q
  · exact h' pins s σ H x v vl vu lo hi sl Q I rx hs pl pu q
def tSl (r : V → Option Int → Option Int → Hp → VK → Prop) (te : TE) (tl th : TO) : TE := fun σ H Q => te σ H fun x H1 => tl σ H1 fun l H2 => th σ H2 fun u H3 => r x l u H3 Q
/-- a[lo:hi], any a -/
theorem pe_slice {r : V → Option Int → Option Int → Hp → VK → Prop} (hr : SlR X r) (he : PE X e te) (hl : PO X lo tl) (hu : PO X hi th) : PE X (.Subscript e (.Slice lo hi none p2) pos) (tSl r te tl th) := by
  intro pins s σ H Q I h
  refine Subscript_ (thn (he pins s σ H _ I h) fun v s1 ⟨x, H1, I1, r1, q1⟩ => ?_)
  refine wpAny_Slice (thn (hl pins s1 σ H1 _ I1 q1) fun vl s2 ⟨l, H2, I2, pl, q2⟩ => thn (hu pins s2 σ H2 _ I2 q2) fun vu s3 ⟨u, H3, I3, pu, q3⟩ => ?_)
  rw [evalPart_none]
  refine wpAny_pure ?_
  have I4 : Inv X pins σ H3 { s3 with heap := s3.heap.push { cls := .type "slice", data := .fields #[vl, vu, .none] } } := I3.kept (t' := s3.toks) fun b ob q => Heap.get?_push_of_some _ q
  obtain ⟨T, id, hT, ht, hg⟩ := hr pins { s3 with heap := s3.heap.push { cls := .type "slice", data := .fields #[vl, vu, .none] } } σ H3 x v vl vu l u s3.heap.objs.size Q I4 r1 (Heap.IsSliceOf.new ..) pl pu q3
  show wpAny (model X.prog X.w) X.A (subscriptTail e (.Slice lo hi none p2) v (.ref s3.heap.objs.size)) (EP X pins σ Q) X.xe { s3 with heap := s3.heap.push { cls := .type "slice", data := .fields #[vl, vu, .none] } }
  exact tail_any (ops := [.ref s3.heap.objs.size, v]) ht hT hg (by with_unfolding_all rfl)

/-- the items of xs[lo:hi] -/
def cutV (xs : List V) (lo hi : Option Int) : List V := (xs.drop (HT.sIx xs.length 0 lo)).take (HT.sIx xs.length xs.length hi - HT.sIx xs.length 0 lo)
theorem cutV_length (xs : List V) (lo hi : Option Int) : (cutV xs lo hi).length ≤ xs.length := by
  unfold cutV
  rw [List.length_take, List.length_drop]
  omega
/-- t[lo:hi], not the whole of it (the whole would be t itself) -/
def rSlT (K : PySem.W.Frag) : V → Option Int → Option Int → Hp → VK → Prop := fun x lo hi H Q => ∃ a xs, x = .ref a ∧ SqT K H a xs ∧
  ¬ (HT.sIx xs.length 0 lo = 0 ∧ HT.sIx xs.length xs.length hi = xs.length) ∧ ∀ p, H p = none → Q (.ref p) (upd H p (.tup (cutV xs lo hi)))
theorem sl_tup : SlR X (rSlT X.K) := by
  intro pins s σ H x v vl vu lo hi sl Q I rx hs pl pu h
  obtain ⟨a, xs, rfl, hx, hw, q⟩ := h
  cases rx
  obtain ⟨its, r, ht, hz⟩ := I.tuple hx
  have hlen : its.toArray.size = xs.length := by rw [List.size_toArray]; exact r.length.symm
  refine ⟨"tuple", _, PyProof.Rows.slot_tuple_getitem.lookup, ht.typeIs, ?_⟩
  refine HT.getItem_tuple_cut ht hs pl pu (by rw [hlen]; exact hw) ?_ (by rw [hlen]; exact hz)
  rw [hlen]
  refine ⟨.ref s.heap.objs.size, _, I.laid (t' := s.toks) (o := .tup (cutV xs lo hi)) (fun b ob q => Heap.get?_push_of_some _ q) (Nat.le_refl _) ?_, rfl, q _ (I.hok.fresh (Nat.le_refl _))⟩
  exact ⟨Nat.le_trans (cutV_length xs lo hi) hz, _, (r.drop (HT.sIx xs.length 0 lo)).take (HT.sIx xs.length xs.length hi - HT.sIx xs.length 0 lo), IsTup.new _ _⟩

/-! ### t < u, t + u -/
def rLtT (K : PySem.W.Frag) : R2 := fun x y H Q => ∃ a b ns ms, x = .ref a ∧ y = .ref b ∧ SqT K H a (ns.map V.int) ∧ SqT K H b (ms.map V.int) ∧ Q (.bl (HT.lexLt ns ms)) H
theorem op_ltT (hu : X.A.units < cLine) : OpR X (compareOp .Lt) (rLtT X.K) := by
  intro pins s σ H x y v u Q I rx ry h
  obtain ⟨a, b, ns, ms, rfl, rfl, ha, hb, q⟩ := h
  cases rx
  cases ry
  obtain ⟨its, r1, p1, _⟩ := I.tuple ha
  obtain ⟨its2, r2, p2, _⟩ := I.tuple hb
  have i1 : IntsAre its.toArray.toList ns := intsAre_of r1
  have i2 : IntsAre its2.toArray.toList ms := intsAre_of r2
  exact HT.lt_tupInts p1 p2 i1 i2 hu ⟨.bl (HT.lexLt ns ms), H, I, rfl, q⟩
/-- t + u, t not empty: u empty gives t itself -/
def rCatT (K : PySem.W.Frag) : R2 := fun x y H Q => ∃ a b xs ys, x = .ref a ∧ y = .ref b ∧ SqT K H a xs ∧ SqT K H b ys ∧ xs ≠ [] ∧ xs.length + ys.length ≤ sizeLine ∧
  (ys = [] → Q (.ref a) H) ∧ (ys ≠ [] → ∀ p, H p = none → Q (.ref p) (upd H p (.tup (xs ++ ys))))
theorem Vals.nil_iff {xs : List V} {us : List Value} (r : Vals xs us) : us = [] ↔ xs = [] := by
  cases r with
  | nil => simp
  | cons _ _ => simp
theorem op_catT : OpR X (binaryOp .Add) (rCatT X.K) := by
  intro pins s σ H x y v u Q I rx ry h
  obtain ⟨a, b, xs, ys, rfl, rfl, ha, hb, hx, hz, q1, q2⟩ := h
  cases rx
  cases ry
  obtain ⟨its, r1, p1, _⟩ := I.tuple ha
  obtain ⟨its2, r2, p2, _⟩ := I.tuple hb
  refine HT.cat_tup p1 p2 (fun z => hx (r1.nil_iff.mp z)) (fun z => ⟨.ref a, H, I, rfl, q1 (r2.nil_iff.mp z)⟩) (fun z => ?_) (by rw [← r1.length, ← r2.length]; exact hz)
  refine ⟨.ref s.heap.objs.size, _, I.laid (t' := s.toks) (o := .tup (xs ++ ys)) (fun b ob q => Heap.get?_push_of_some _ q) (Nat.le_refl _) ?_, rfl, q2 (fun w => z (r2.nil_iff.mpr w)) _ (I.hok.fresh (Nat.le_refl _))⟩
  exact ⟨by rw [List.length_append]; exact hz, _, r1.append r2, IsTup.new _ _⟩
/-- tuple(t) -/
theorem call_tupleT : CallR X (.type "tuple") (fun xs H Q => ∃ a ys, xs = [.ref a] ∧ SqT X.K H a ys ∧ Q (.ref a) H) := by
  intro pins s σ H xs us Q I r h
  obtain ⟨a, ys, rfl, ha, q⟩ := h
  obtain ⟨u, rfl, ru⟩ := vals1 r
  cases ru
  obtain ⟨its, _, p1, _⟩ := I.tuple ha
  exact call_tuple_same (items := its.toArray) p1 ⟨.ref a, H, I, rfl, q⟩
end
end L2

namespace L2
open PySem PySem.Spec PyProof.Rows

/-! ### places -/
/-- the place that an index of any sign means -/
def ixN (n : Nat) (i : Int) : Option Nat := if 0 ≤ i then (if i < n then some i.toNat else none) else if -(n : Int) ≤ i then some (i + n).toNat else none
def atI {α : Type} (xs : List α) (i : Int) : Option α := (ixN xs.length i).bind fun j => xs[j]?
theorem ixN_seq {n : Nat} {i : Int} {j : Nat} (h : ixN n i = some j) : seqIndex? i n = some j ∧ j < n ∧ -(n : Int) ≤ i ∧ i < n := by
  unfold ixN at h
  by_cases h0 : 0 ≤ i
  · rw [if_pos h0] at h
    by_cases h1 : i < n
    · rw [if_pos h1] at h
      have e : i.toNat = j := Option.some.inj h
      exact ⟨by rw [seqIndex_of h0 h1, e], by omega, by omega, h1⟩
    · rw [if_neg h1] at h; cases h
  · rw [if_neg h0] at h
    by_cases h1 : -(n : Int) ≤ i
    · rw [if_pos h1] at h
      have e : (i + n).toNat = j := Option.some.inj h
      exact ⟨by rw [seqIndex_neg (by omega) h1, e], by omega, h1, by omega⟩
    · rw [if_neg h1] at h; cases h
theorem atI_get {α : Type} {xs : List α} {i : Int} {v : α} (h : atI xs i = some v) : ∃ j, seqIndex? i xs.length = some j ∧ xs[j]? = some v ∧ j < xs.length ∧ -(xs.length : Int) ≤ i ∧ i < xs.length := by
  unfold atI at h
  cases e : ixN xs.length i with
  | none => rw [e] at h; cases h
  | some j =>
    rw [e] at h
    obtain ⟨h1, h2, h3, h4⟩ := ixN_seq e
    exact ⟨j, h1, h, h2, h3, h4⟩
theorem atI_nat {α : Type} {xs : List α} {j : Nat} {v : α} (h : xs[j]? = some v) : atI xs (j : Int) = some v := by
  have hj : j < xs.length := (List.getElem?_eq_some_iff.mp h).1
  have e : ixN xs.length (j : Int) = some j := by
    unfold ixN
    rw [if_pos (by omega), if_pos (by omega)]; simp
  unfold atI; rw [e]; exact h
theorem atI_last {α : Type} (xs : List α) (v : α) : atI (xs ++ [v]) (-1) = some v := by
  have hl : (xs ++ [v]).length = xs.length + 1 := by simp
  have e : ixN (xs ++ [v]).length (-1) = some xs.length := by
    unfold ixN
    rw [hl, if_neg (by decide), if_pos (by omega)]
    congr 1
    omega
  unfold atI
  rw [e]
  show (xs ++ [v])[xs.length]? = some v
  simp

/-! ### what may be subscripted -/
/-- what stands as an index of a plain subscript -/
def PlainIx (b : Expr) : Prop := ∀ o i, subscripted b false o i = operate [o, i] (getItem o i)
/-- a subscript by values -/
def IxR (X : Cx) (r : R2) : Prop :=
  ∀ (value slice : Expr) (pins : List (Addr × Obj)) (s : Shared) (σ : St) (H : Hp) (x y : V) (v u : Value) (Q : VK), Inv X pins σ H s → RelV x v → RelV y u → r x y H Q →
    subscripted slice false v u = operate [v, u] (getItem v u) → wpAny (model X.prog X.w) X.A (subscriptTail value slice v u) (EP X pins σ Q) X.xe s
/-- a call of a builtin's method by values: the receiver, the arguments -/
def MtR (X : Cx) (id : String) (r : V → List V → Hp → VK → Prop) : Prop :=
  ∀ (pins : List (Addr × Obj)) (s : Shared) (σ : St) (H : Hp) (x : V) (xs : List V) (v : Value) (us : List Value) (Q : VK), Inv X pins σ H s → RelV x v → Vals xs us → r x xs H Q →
    wpAny (model X.prog X.w) X.A (call (.builtin id) (v :: us)) (EP X pins σ Q) X.xe s
section
variable {X : Cx} {a b : Expr} {ta tb : TE} {pos : Pos}
theorem IxR.or {r r' : R2} (h : IxR X r) (h' : IxR X r') : IxR X (fun x y H Q => r x y H Q ∨ r' x y H Q) := by
  intro value slice pins s σ H x y v u Q I rx ry q hs
  rcases q with q | q
  · exact h value slice pins s σ H x y v u Q I rx ry q hs
  · exact h' value slice pins s σ H x y v u Q I rx ry q hs
theorem MtR.or {id : String} {r r' : V → List V → Hp → VK → Prop} (h : MtR X id r) (h' : MtR X id r') : MtR X id (fun x xs H Q => r x xs H Q ∨ r' x xs H Q) := by
  intro pins s σ H x xs v us Q I rx rs q
  rcases q with q | q
  · exact h pins s σ H x xs v us Q I rx rs q
  · exact h' pins s σ H x xs v us Q I rx rs q
/-- a[b] -/
theorem pe_ix {r : R2} (hr : IxR X r) (ha : PE X a ta) (hb : PE X b tb) (hs : PlainIx b) : PE X (.Subscript a b pos) (tOp r ta tb) := by
  intro pins s σ H Q I h
  exact Subscript_ (binT ha hb I h fun v u s2 x y H2 I2 rx ry q => hr a b pins s2 σ H2 x y v u Q I2 rx ry q (hs _ _))

def rIxL (K : PySem.W.Frag) : R2 := fun x y H Q => ∃ p xs i v, x = .ref p ∧ y = .int i ∧ SqL K H p xs ∧ atI xs i = some v ∧ Q v H
def rIxT (K : PySem.W.Frag) : R2 := fun x y H Q => ∃ p xs i v, x = .ref p ∧ y = .int i ∧ SqT K H p xs ∧ atI xs i = some v ∧ Q v H
def rIxS : R2 := fun x y H Q => ∃ z i c, x = .str z ∧ y = .int i ∧ z.length ≤ sizeLine ∧ atI z.cps.toList i = some c ∧ Q (.str ⟨#[c]⟩) H
theorem ix_list : IxR X (rIxL X.K) := by
  intro value slice pins s σ H x y v u Q I rx ry h hs
  obtain ⟨p, xs, i, z, rfl, rfl, hq, he, q⟩ := h
  cases rx
  obtain ⟨t, rfl⟩ := ry
  obtain ⟨its, r, pl, hz⟩ := I.list hq
  obtain ⟨j, h1, h2, h3, h4, h5⟩ := atI_get he
  obtain ⟨w, ew, rw'⟩ := r.get h2
  have hl := r.length
  have hn := line63
  have fin : EP X pins σ Q w s := ⟨z, H, I, rw', q⟩
  by_cases h0 : 0 ≤ i
  · have hj : i.toNat = j := by
      rw [seqIndex_of h0 h5] at h1
      exact Option.some.inj h1
    exact item_listR pl.isList h0 (by omega) (by rw [hj]; simpa using ew) fin hs
  · have hj : (i + (its.toArray.size : Int)).toNat = j := by
      rw [seqIndex_neg (by omega) h4] at h1
      rw [List.size_toArray, ← hl]
      exact Option.some.inj h1
    exact subscriptTail_builtinR (x := w) pl.isList.typeIs slot_list_getitem.lookup
      (wpAny_getItem_list_neg (Q := fun r s' => r = w ∧ EP X pins σ Q r s') pl.isList (by omega) (by rw [List.size_toArray] <;> omega) (by omega) (by rw [hj]; simpa using ew) ⟨rfl, fin⟩) hs
theorem ix_tup : IxR X (rIxT X.K) := by
  intro value slice pins s σ H x y v u Q I rx ry h hs
  obtain ⟨p, xs, i, z, rfl, rfl, hq, he, q⟩ := h
  cases rx
  obtain ⟨t, rfl⟩ := ry
  obtain ⟨its, r, pl, hz⟩ := I.tuple hq
  obtain ⟨j, h1, h2, h3, h4, h5⟩ := atI_get he
  obtain ⟨w, ew, rw'⟩ := r.get h2
  have hl := r.length
  have hn := line63
  have fin : EP X pins σ Q w s := ⟨z, H, I, rw', q⟩
  exact subscriptTail_builtinR (x := w) pl.typeIs slot_tuple_getitem.lookup
    (getItem_tuple (j := j) (Q := fun r s' => r = w ∧ EP X pins σ Q r s') pl (by omega) (by omega) (by rw [List.size_toArray, ← hl]; exact h1) (by simpa using ew) ⟨rfl, fin⟩) hs
theorem ix_str : IxR X rIxS := by
  intro value slice pins s σ H x y v u Q I rx ry h hs
  obtain ⟨z, i, c, rfl, rfl, hz, he, q⟩ := h
  obtain ⟨t, rfl⟩ := rx
  obtain ⟨t', rfl⟩ := ry
  obtain ⟨j, h1, h2, h3, h4, h5⟩ := atI_get he
  have hl : z.cps.toList.length = z.length := by simp [Str.length]
  rw [hl] at h1 h4 h5
  have hn := line63
  exact tail_any (typeIs_str s z t) slot_str_getitem.lookup (getItem_str (c := c) (by
    have e1 : decide (i < -(2 ^ 63 : Int)) = false := decide_eq_false (by omega)
    have e2 : decide (i ≥ 2 ^ 63) = false := decide_eq_false (by omega)
    rw [e1, e2, Bool.or_false]) (by rw [h1]; simpa using h2) ⟨.str ⟨#[c]⟩, H, I.tok _, ⟨_, rfl⟩, q⟩) hs
/-- list, tuple or str -/
def rIx (K : PySem.W.Frag) : R2 := fun x y H Q => rIxL K x y H Q ∨ rIxT K x y H Q ∨ rIxS x y H Q
theorem ix_seq : IxR X (rIx X.K) := ix_list.or (ix_tup.or ix_str)

/-! ### xs[i] = v, any sign -/
/-- the list's object behind a store -/
theorem mapSeq_set (its : List Value) (n j : Nat) (u : Value) : Obj.mapSeq (·.setIfInBounds j u) { cls := .type "list", data := .seq its.toArray n } = { cls := .type "list", data := .seq (its.set j u).toArray n } := by
  simp [Obj.mapSeq]
theorem Inv.lst {pins : List (Addr × Obj)} {σ : St} {H : Hp} {s : Shared} {p : Addr} {xs : List V} (I : Inv X pins σ H s) (h : H p = some (.lst xs)) :
    ∃ (its : List Value) (n : Nat), Vals xs its ∧ s.heap.get? p = some { cls := .type "list", data := .seq its.toArray n } ∧ xs.length ≤ sizeLine := by
  obtain ⟨z, its, n, r, e⟩ := I.hok p _ h
  exact ⟨its, n, r, e, z⟩
/-- the list at p is written by an update of its object -/
theorem Inv.lstUpd {pins : List (Addr × Obj)} {σ : St} {H : Hp} {s : Shared} {p : Addr} {xs ys : List V} {its its' : List Value} {n n' : Nat} {f : Obj → Obj} (I : Inv X pins σ H s) (h : H p = some (.lst xs))
    (ho : s.heap.get? p = some { cls := .type "list", data := .seq its.toArray n }) (hf : f { cls := .type "list", data := .seq its.toArray n } = { cls := .type "list", data := .seq its'.toArray n' }) (r : Vals ys its') (hz : ys.length ≤ sizeLine) (t : Nat) :
    Inv X pins σ (upd H p (.lst ys)) { s with heap := s.heap.update p f, toks := t } := by
  have e : (s.heap.update p f).get? p = some { cls := .type "list", data := .seq its'.toArray n' } := by
    rw [Heap.get?_update_self f ho (by rw [hf] <;> rfl), hf]
  refine I.write (x := p) (e := p) (by rw [h]; trivial) (.inl rfl) (fun b u hb q => (Heap.get?_update_other _ _ (Ne.symm hb)).trans q) ⟨_, e⟩ ?_
  exact ⟨hz, its', n', r, e⟩
def rSetL : V → V → V → Hp → (Hp → Prop) → Prop := fun o i v H Q => ∃ p xs k j, o = .ref p ∧ i = .int k ∧ H p = some (.lst xs) ∧ ixN xs.length k = some j ∧ Q (upd H p (.lst (xs.set j v)))
theorem set_list : PSet X rSetL := by
  intro pins s σ H o i v ov iv u Q I ro ri rv h
  obtain ⟨p, xs, k, j, rfl, rfl, hp, hj, q⟩ := h
  cases ro
  obtain ⟨t, rfl⟩ := ri
  obtain ⟨its, n, r, ho, hz⟩ := I.lst hp
  obtain ⟨h1, h2, h3, h4⟩ := ixN_seq hj
  have hl := r.length
  have hn := line63
  have I' : Inv X pins σ (upd H p (.lst (xs.set j v))) { s with heap := s.heap.update p (Obj.mapSeq (·.setIfInBounds j u)) } :=
    I.lstUpd hp ho (mapSeq_set its n j u) (r.set rv j) (by rw [List.length_set]; exact hz) s.toks
  by_cases h0 : 0 ≤ k
  · have hk : k.toNat = j := by
      rw [seqIndex_of h0 h4] at h1
      exact Option.some.inj h1
    exact PySem.W.ki_setAt ho h0 (by omega) (by rw [List.size_toArray, ← hl]; exact h4) (by rw [hk]; exact ⟨_, I', q⟩)
  · have hk : (k + (its.toArray.size : Int)).toNat = j := by
      rw [seqIndex_neg (by omega) h3] at h1
      rw [List.size_toArray, ← hl]
      exact Option.some.inj h1
    exact PySem.W.ki_setBack ho (by omega) (by rw [List.size_toArray, ← hl]; exact h3) (by omega) (by rw [hk]; exact ⟨_, I', q⟩)

/-! ### slices -/
theorem slice_bounds (lo hi : Option Int) (n : Nat) : (sliceBounds lo hi none n).1 = ((HT.sIx n 0 lo : Nat) : Int) ∧ (sliceBounds lo hi none n).2.1 = ((HT.sIx n n hi : Nat) : Int) ∧ (sliceBounds lo hi none n).2.2 = 1 := by
  refine ⟨?_, ?_, rfl⟩
  · cases lo with
    | none => simp [sliceBounds, HT.sIx]
    | some i =>
      simp only [sliceBounds, HT.sIx, Option.getD_none, show (1 : Int) > 0 by decide, if_true]
      by_cases h : i < 0
      · simp only [h, if_true] <;> omega
      · simp only [h, if_false] <;> omega
  · cases hi with
    | none => simp [sliceBounds, HT.sIx]
    | some i =>
      simp only [sliceBounds, HT.sIx, Option.getD_none, show (1 : Int) > 0 by decide, if_true]
      by_cases h : i < 0
      · simp only [h, if_true] <;> omega
      · simp only [h, if_false] <;> omega
theorem slicePick_cut (its : List Value) (lo hi : Option Int) : slicePick its.toArray lo hi none = ((its.drop (HT.sIx its.length 0 lo)).take (HT.sIx its.length its.length hi - HT.sIx its.length 0 lo)).toArray := by
  obtain ⟨h1, h2, h3⟩ := slice_bounds lo hi its.toArray.size
  unfold slicePick
  rw [h1, h2, h3]
  simp only [sliceRange_one, pick_run, List.size_toArray] <;> rfl
/-- xs[lo:hi] of a list: a new list -/
def rSlL (K : PySem.W.Frag) : V → Option Int → Option Int → Hp → VK → Prop := fun x lo hi H Q => ∃ a xs, x = .ref a ∧ SqL K H a xs ∧ ∀ p, H p = none → Q (.ref p) (upd H p (.lst (cutV xs lo hi)))
theorem sl_list : SlR X (rSlL X.K) := by
  intro pins s σ H x v vl vu lo hi sl Q I rx hs pl pu h
  obtain ⟨a, xs, rfl, hx, q⟩ := h
  cases rx
  obtain ⟨its, r, ht, hz⟩ := I.list hx
  have hlen := r.length
  refine ⟨"list", _, slot_list_getitem.lookup, ht.isList.typeIs, ?_⟩
  refine wpAny_getItem_list_slice ht.isList hs pl pu .none (by simp) ?_ (by rw [List.size_toArray] <;> omega)
  rw [slicePick_cut, ← hlen]
  refine ⟨.ref s.heap.objs.size, _, I.laid (t' := s.toks) (o := .lst (cutV xs lo hi)) (fun b ob q => Heap.get?_push_of_some _ q) (Nat.le_refl _) ?_, rfl, q _ (I.hok.fresh (Nat.le_refl _))⟩
  exact ⟨Nat.le_trans (cutV_length xs lo hi) hz, _, 0, (r.drop (HT.sIx xs.length 0 lo)).take (HT.sIx xs.length xs.length hi - HT.sIx xs.length 0 lo), Heap.get?_push_size _ rfl⟩

/-! ### in, not in: flat items -/
def flatV : V → Bool
  | .non => true
  | .bl _ => true
  | .int _ => true
  | .str _ => true
  | _ => false
/-- == of flat values -/
def eqV : V → V → Bool
  | .non, .non => true
  | .bl a, .bl b => a == b
  | .bl a, .int b => (if a then 1 else 0) == b
  | .int a, .bl b => a == (if b then 1 else 0)
  | .int a, .int b => a == b
  | .str a, .str b => a == b
  | _, _ => false
theorem eqAt_V {A : Around} {s : Shared} {y x : V} {u v : Value} (ry : RelV y u) (rx : RelV x v) (fy : flatV y = true) (fx : flatV x = true) : SeqAt.EqAt A s u v (eqV y x) := by
  cases y with
  | non =>
    cases ry
    cases x with
    | non => cases rx; exact SeqAt.EqAt.same _
    | bl b => cases rx; exact SeqAt.EqAt.none_bool b
    | int b => obtain ⟨t, rfl⟩ := rx; exact SeqAt.EqAt.none_int b t
    | str b => obtain ⟨t, rfl⟩ := rx; exact SeqAt.EqAt.none_str b t
    | _ => exact absurd (show false = true from fx) Bool.false_ne_true
  | bl a =>
    cases ry
    cases x with
    | non => cases rx; exact SeqAt.EqAt.bool_none a
    | bl b => cases rx; exact SeqAt.EqAt.bool_bool a b
    | int b => obtain ⟨t, rfl⟩ := rx; exact SeqAt.EqAt.bool_int a b t
    | str b => obtain ⟨t, rfl⟩ := rx; exact SeqAt.EqAt.bool_str a b t
    | _ => exact absurd (show false = true from fx) Bool.false_ne_true
  | int a =>
    obtain ⟨t', rfl⟩ := ry
    cases x with
    | non => cases rx; exact SeqAt.EqAt.int_none a t'
    | bl b => cases rx; exact SeqAt.EqAt.int_bool a t' b
    | int b => obtain ⟨t, rfl⟩ := rx; exact SeqAt.EqAt.int_int a t' b t
    | str b => obtain ⟨t, rfl⟩ := rx; exact SeqAt.EqAt.int_str a t' b t
    | _ => exact absurd (show false = true from fx) Bool.false_ne_true
  | str a =>
    obtain ⟨t', rfl⟩ := ry
    cases x with
    | non => cases rx; exact SeqAt.EqAt.str_none a t'
    | bl b => cases rx; exact SeqAt.EqAt.str_bool a t' b
    | int b => obtain ⟨t, rfl⟩ := rx; exact SeqAt.EqAt.str_int a t' b t
    | str b => obtain ⟨t, rfl⟩ := rx; exact SeqAt.EqAt.str_str a t' b t
    | _ => exact absurd (show false = true from fx) Bool.false_ne_true
  | _ => exact absurd (show false = true from fy) Bool.false_ne_true
/-- the items' answers, read off the values (a value's own answer does not lean on its token) -/
def eqU (x : V) (u : Value) : Bool := match u with
  | .none => eqV .non x
  | .bool b => eqV (.bl b) x
  | .int i _ => eqV (.int i) x
  | .str z _ => eqV (.str z) x
  | _ => false
theorem eqU_of {x y : V} {u : Value} (r : RelV y u) (f : flatV y = true) : eqU x u = eqV y x := by
  cases y with
  | non => cases r; rfl
  | bl b => cases r; rfl
  | int i => obtain ⟨t, rfl⟩ := r; rfl
  | str z => obtain ⟨t, rfl⟩ := r; rfl
  | _ => exact absurd (show false = true from f) Bool.false_ne_true
theorem any_eqU {x : V} : ∀ {xs : List V} {us : List Value}, Vals xs us → xs.all flatV = true → us.any (eqU x) = xs.any fun y => eqV y x
  | _, _, .nil, _ => rfl
  | y :: xs, u :: us, .cons r t, f => by
    rw [List.all_cons, Bool.and_eq_true] at f
    rw [List.any_cons, List.any_cons, eqU_of r f.1, any_eqU t f.2]
theorem mem_eqAt {A : Around} {s : Shared} {x : V} {v : Value} (rx : RelV x v) (fx : flatV x = true) : ∀ {xs : List V} {us : List Value}, Vals xs us → xs.all flatV = true → ∀ u ∈ us, SeqAt.EqAt A s u v (eqU x u)
  | _, _, .nil, _ => fun u hu => by cases hu
  | y :: xs, u :: us, .cons r t, f => fun u' hu => by
    rw [List.all_cons, Bool.and_eq_true] at f
    rcases List.mem_cons.mp hu with rfl | hu
    · rw [eqU_of r f.1]; exact eqAt_V r rx f.1 fx
    · exact mem_eqAt rx fx t f.2 u' hu
def inV (x : V) (xs : List V) : Bool := xs.any fun y => eqV y x
/-- x in a list or tuple of flat items -/
def rIn (K : PySem.W.Frag) (neg : Bool) : R2 := fun x y H Q => ∃ p xs, y = .ref p ∧ (SqL K H p xs ∨ SqT K H p xs) ∧ flatV x = true ∧ xs.all flatV = true ∧ Q (.bl (if neg then !inV x xs else inV x xs)) H
theorem op_in_seq : OpR X (compareOp .In) (rIn X.K false) := by
  intro pins s σ H x y v u Q I rx ry h
  obtain ⟨p, xs, rfl, hq, fx, fs, q⟩ := h
  cases ry
  rcases hq with hq | hq
  · obtain ⟨its, r, pl, hz⟩ := I.list hq
    refine SeqAt.in_listAt (eqU x) pl.isList (fun w hw => mem_eqAt rx fx r fs w (by simpa using hw)) ⟨.bl _, H, I, rfl, ?_⟩
    rw [show its.toArray.any (eqU x) = its.any (eqU x) by simp, any_eqU r fs]
    exact q
  · obtain ⟨its, r, pl, hz⟩ := I.tuple hq
    refine SeqAt.in_tupleAt (eqU x) pl (fun w hw => mem_eqAt rx fx r fs w (by simpa using hw)) ⟨.bl _, H, I, rfl, ?_⟩
    rw [show its.toArray.any (eqU x) = its.any (eqU x) by simp, any_eqU r fs]
    exact q
theorem op_notIn_seq : OpR X (compareOp .NotIn) (rIn X.K true) := by
  intro pins s σ H x y v u Q I rx ry h
  obtain ⟨p, xs, rfl, hq, fx, fs, q⟩ := h
  cases ry
  rcases hq with hq | hq
  · obtain ⟨its, r, pl, hz⟩ := I.list hq
    refine SeqAt.notIn_listAt (eqU x) pl.isList (fun w hw => mem_eqAt rx fx r fs w (by simpa using hw)) ⟨.bl _, H, I, rfl, ?_⟩
    rw [show its.toArray.any (eqU x) = its.any (eqU x) by simp, any_eqU r fs]
    exact q
  · obtain ⟨its, r, pl, hz⟩ := I.tuple hq
    refine SeqAt.notIn_tupleAt (eqU x) pl (fun w hw => mem_eqAt rx fx r fs w (by simpa using hw)) ⟨.bl _, H, I, rfl, ?_⟩
    rw [show its.toArray.any (eqU x) = its.any (eqU x) by simp, any_eqU r fs]
    exact q
theorem op_notIn_str : OpR X (compareOp .NotIn) (fun x y H Q => ∃ i j, x = .str i ∧ y = .str j ∧ Q (.bl (!(!(Builtin.Str.occurrences j i 0 j.length 1).isEmpty))) H) := by
  intro pins s σ H x y v u Q I rx ry h
  obtain ⟨i, j, rfl, rfl, q⟩ := h
  obtain ⟨t, rfl⟩ := rx
  obtain ⟨t', rfl⟩ := ry
  exact notIn_str ⟨.bl _, H, I, rfl, q⟩

/-! ### len, list(x), tuple(x) of any list or tuple that is read -/
theorem call_len_seq : CallR X (.builtin "len") (fun xs H Q => ∃ p ys, xs = [.ref p] ∧ (SqL X.K H p ys ∨ SqT X.K H p ys) ∧ Q (.int ys.length) H) := by
  intro pins s σ H xs us Q I r h
  obtain ⟨p, ys, rfl, hq, q⟩ := h
  obtain ⟨u, rfl, rx⟩ := vals1 r
  cases rx
  have hn := line63
  rcases hq with hq | hq
  · obtain ⟨its, r', pl, hz⟩ := I.list hq
    have hlen := r'.length
    exact Calls.call_len_list pl.isList (by simp only [List.size_toArray] <;> omega) ⟨.int ys.length, H, I.tok _, ⟨s.toks + 1, by rw [List.size_toArray, hlen]⟩, q⟩
  · obtain ⟨its, r', pl, hz⟩ := I.tuple hq
    have hlen := r'.length
    exact len_tuple pl (by simp only [List.size_toArray] <;> omega) ⟨.int ys.length, H, I.tok _, ⟨s.toks + 1, by rw [List.size_toArray, hlen]⟩, q⟩
theorem call_len_str : CallR X (.builtin "len") (fun xs H Q => ∃ z, xs = [.str z] ∧ z.length ≤ sizeLine ∧ Q (.int z.length) H) := by
  intro pins s σ H xs us Q I r h
  obtain ⟨z, rfl, hz, q⟩ := h
  obtain ⟨u, rfl, t, rfl⟩ := vals1 r
  have hn := line63
  exact len_str (by omega) ⟨.int z.length, H, I.tok _, ⟨_, rfl⟩, q⟩
theorem CallR.or {f : Value} {r r' : List V → Hp → VK → Prop} (h : CallR X f r) (h' : CallR X f r') : CallR X f (fun xs H Q => r xs H Q ∨ r' xs H Q) := by
  intro pins s σ H xs us Q I rs q
  rcases q with q | q
  · exact h pins s σ H xs us Q I rs q
  · exact h' pins s σ H xs us Q I rs q
theorem call_list_of : CallR X (.type "list") (fun xs H Q => ∃ p ys, xs = [.ref p] ∧ (SqL X.K H p ys ∨ SqT X.K H p ys) ∧ ∀ l, H l = none → Q (.ref l) (upd H l (.lst ys))) := by
  intro pins s σ H xs us Q I r h
  obtain ⟨p, ys, rfl, hq, q⟩ := h
  obtain ⟨u, rfl, rx⟩ := vals1 r
  cases rx
  have fin : ∀ (its : List Value), Vals ys its → ys.length ≤ sizeLine → ∀ (h' : Heap) (c' : Nat), (∀ b o', s.heap.get? b = some o' → h'.get? b = some o') →
      h'.get? s.heap.objs.size = some { cls := .type "list", dict := none, data := .seq its.toArray c', slots := #[] } → EP X pins σ Q (.ref s.heap.objs.size) { s with heap := h' } := fun its r' hz h' c' kp e =>
    ⟨.ref s.heap.objs.size, _, I.laid (t' := s.toks) kp (Nat.le_refl _) (show ObjOk X.prog X.w _ h' _ (.lst ys) from ⟨hz, its, c', r', e⟩), rfl, q _ (I.hok.fresh (Nat.le_refl _))⟩
  rcases hq with hq | hq
  · obtain ⟨its, r', pl, hz⟩ := I.list hq
    have hlen := r'.length
    obtain ⟨o, ho, hc, n, hd⟩ := pl.isList
    exact call_list_seq p (.inl rfl) ho hc hd (fun h' c' kp e => fin its r' hz h' c' kp e) (by simp only [List.size_toArray] <;> omega)
  · obtain ⟨its, r', pl, hz⟩ := I.tuple hq
    have hlen := r'.length
    obtain ⟨o, ho, hc, n, hd⟩ := pl
    exact call_list_seq p (.inr rfl) ho hc hd (fun h' c' kp e => fin its r' hz h' c' kp e) (by simp only [List.size_toArray] <;> omega)
theorem call_tuple_of : CallR X (.type "tuple") (fun xs H Q => ∃ p ys, xs = [.ref p] ∧ ((SqL X.K H p ys ∧ ∀ l, H l = none → Q (.ref l) (upd H l (.tup ys))) ∨ (SqT X.K H p ys ∧ Q (.ref p) H))) := by
  intro pins s σ H xs us Q I r h
  obtain ⟨p, ys, rfl, h⟩ := h
  obtain ⟨u, rfl, rx⟩ := vals1 r
  cases rx
  rcases h with ⟨hq, q⟩ | ⟨hq, q⟩
  · obtain ⟨its, r', pl, hz⟩ := I.list hq
    have hlen := r'.length
    refine call_tuple_list pl.isList (fun h' kp => ?_) (by simp only [List.size_toArray] <;> omega)
    have I1 : Inv X pins σ H { s with heap := h' } := I.kept (t' := s.toks) kp
    have I2 : Inv X pins σ (upd H h'.objs.size (.tup ys)) { s with heap := h'.push { cls := .type "tuple", data := .seq its.toArray } } :=
      I1.laid (t' := s.toks) (fun b o e => Heap.get?_push_of_some _ e) (Nat.le_refl _) (show ObjOk X.prog X.w _ _ _ (.tup ys) from ⟨hz, its, r', IsTup.new _ _⟩)
    exact ⟨.ref h'.objs.size, _, I2, rfl, q _ (I1.hok.fresh (Nat.le_refl _))⟩
  · obtain ⟨its, r', pl, hz⟩ := I.tuple hq
    exact call_tuple_same pl ⟨.ref p, H, I, rfl, q⟩

/-! ### the call of a builtin's method: o.m(..) -/
/-- the value is of that builtin type -/
def tyV (K : PySem.W.Frag) (T : String) (x : V) (H : Hp) : Prop := match x with
  | .str _ => T = "str"
  | .int _ => T = "int"
  | .ref p => (T = "list" ∧ ∃ xs, SqL K H p xs) ∨ (T = "tuple" ∧ ∃ o, K.lookup p = some o ∧ o.cls = .type "tuple" ∧ o.dict = none) ∨
      (T = "dict" ∧ ((∃ kvs, H p = some (.dK kvs)) ∨ ∃ kvs, H p = some (.dT kvs))) ∨ (T = "set" ∧ ∃ S n, H p = some (.set S n))
  | _ => False
theorem tyV_is {pins : List (Addr × Obj)} {σ : St} {H : Hp} {s : Shared} {T : String} {x : V} {v : Value} (I : Inv X pins σ H s) (r : RelV x v) (ty : tyV X.K T x H) :
    s.TypeIs v T ∧ ∀ a, v = .ref a → ∃ ob, s.heap.get? a = some ob ∧ ob.dict = none := by
  cases x with
  | str z =>
    obtain ⟨t, rfl⟩ := r
    cases (show T = "str" from ty)
    exact ⟨typeIs_str s z t, fun _ e => nomatch e⟩
  | int i =>
    obtain ⟨t, rfl⟩ := r
    cases (show T = "int" from ty)
    exact ⟨typeIs_int s i t, fun _ e => nomatch e⟩
  | ref p =>
    cases r
    rcases ty with ⟨rfl, xs, hq⟩ | ⟨rfl, o, hk, hc, hd⟩ | ⟨rfl, hk⟩ | ⟨rfl, S, n, hk⟩
    · obtain ⟨its, _, pl, _⟩ := I.list hq
      refine ⟨pl.isList.typeIs, fun a e => ?_⟩
      cases e
      obtain ⟨o, n, e, c, hd, _⟩ := pl
      exact ⟨o, e, hd⟩
    · refine ⟨⟨o, I.kIn p o hk, hc⟩, fun a e => ?_⟩
      cases e
      exact ⟨o, I.kIn _ o hk, hd⟩
    · have z : ∃ o, s.heap.get? p = some o ∧ o.ExactDict := by
        rcases hk with ⟨kvs, hk⟩ | ⟨kvs, hk⟩
        · obtain ⟨_, _, _, _, o, _, _, e, ex, _⟩ := I.hok p _ hk
          exact ⟨o, e, ex⟩
        · obtain ⟨_, _, _, _, o, _, _, e, ex, _⟩ := I.hok p _ hk
          exact ⟨o, e, ex⟩
      obtain ⟨o, e, ex⟩ := z
      refine ⟨⟨o, e, ex.1⟩, fun a e2 => ?_⟩
      cases e2
      exact ⟨o, e, ex.2.1⟩
    · obtain ⟨o, _, _, _, e, ex, _⟩ := I.hok p _ hk
      refine ⟨⟨o, e, ex.1⟩, fun a e2 => ?_⟩
      cases e2
      exact ⟨o, e, ex.2.1⟩
  | _ => exact False.elim ty
def tBM0 (K : PySem.W.Frag) (T : String) (r : V → List V → Hp → VK → Prop) (to : TE) : TE := fun σ H Q => to σ H fun x H1 => tyV K T x H1 ∧ r x [] H1 Q
def tBM (K : PySem.W.Frag) (T : String) (r : V → List V → Hp → VK → Prop) (to : TE) (t : TA) : TE := fun σ H Q => to σ H fun x H1 => tyV K T x H1 ∧ t σ H1 fun xs H2 => r x xs H2 Q
variable {o e : Expr} {es : List Expr} {to : TE} {t : TA} {name : Str} {apos cpos : Pos} {T id : String} {r : V → List V → Hp → VK → Prop}
theorem pe_bm0 (pa : PlainAttrs T) (slot : Slot T name id) (hty : typeOf (.builtin id) = pure (.type "method_descriptor")) (hm : MtR X id r) (ho : PE X o to)
    (hbase : attributeBase o name X.env (eval o X.env) = eval o X.env := by rfl) (hline : (apos.endLine == cpos.line) = true := by rfl) : PE X (.Call (.Attribute o name apos) [] [] cpos) (tBM0 X.K T r to) := by
  intro pins s σ H Q I h
  refine wpAny_Call_method0_late hbase hline (thn (ho pins s σ H _ I h) fun v s1 ⟨x, H1, I1, r1, ty, q1⟩ => ?_)
  obtain ⟨h1, h2⟩ := tyV_is I1 r1 ty
  exact ⟨T, id, pa, slot, hty, h1, h2, Calls.callWith_builtin rfl (PySem.evalArgs_none (hm pins s1 σ H1 x [] v [] Q I1 r1 .nil q1))⟩
theorem pe_bm (pa : PlainAttrs T) (slot : Slot T name id) (hty : typeOf (.builtin id) = pure (.type "method_descriptor")) (hm : MtR X id r) (ho : PE X o to) (ha : PA X (e :: es) t)
    (hbase : attributeBase o name X.env (eval o X.env) = eval o X.env := by rfl)
    (hfew : ((backTo cpos (starEach (e :: es) X.env)).all (fun x => !x.1) && (backToKw cpos (keywordEach [] X.env)).all (fun x => x.1.isSome)
      && decide ((e :: es).length + ([] : List Keyword).length + (if ([] : List Keyword).isEmpty then 0 else 1) < 30)) = true := by rfl)
    (hline : (apos.endLine == cpos.line) = true := by rfl) (hs : starEach (e :: es) X.env = (false, eval e X.env) :: starEach es X.env := by rfl) (hplain : (backTo cpos (starEach es X.env)).any (·.1) = false := by rfl) :
    PE X (.Call (.Attribute o name apos) (e :: es) [] cpos) (tBM X.K T r to t) := by
  intro pins s σ H Q I h
  refine wpAny_Call_method_late hbase hfew hline rfl (thn (ho pins s σ H _ I h) fun v s1 ⟨x, H1, I1, r1, ty, q1⟩ => ?_)
  obtain ⟨h1, h2⟩ := tyV_is I1 r1 ty
  refine ⟨T, id, pa, slot, hty, h1, h2, ?_⟩
  have hA := ha cpos pins s1 σ H1 _ I1 q1
  rw [hs] at hA ⊢
  refine Calls.callWith_builtin (by show (false || (backTo cpos (starEach es X.env)).any (·.1)) = false; rw [hplain] <;> rfl) (Calls.evalArgs_plain ?_)
  exact thn hA fun us s2 ⟨vs, H2, I2, r2, q2⟩ => hm pins s2 σ H2 x vs v us Q I2 r1 r2 q2
/- xs.append(e), list.index on a module's tuple .. are MtR facts of 06m -/
end
end L2

namespace L2
open PySem PySem.Spec PyProof.Rows

def MtM (X : Cx) (id : String) (r : V → List V → Hp → VK → Prop) : Prop :=
  ∀ (pins : List (Addr × Obj)) (s : Shared) (σ : St) (H : Hp) (x : V) (xs : List V) (v : Value) (us : List Value) (Q : VK), Inv X pins σ H s → RelV x v → Vals xs us → r x xs H Q →
    wpAny (model X.prog X.w) X.A (call (.builtin id) (v :: us)) (EP X pins σ Q) X.xe s

/-! ### lists of values -/
theorem Vals.one : ∀ {x : V} {us : List Value}, Vals [x] us → ∃ u, us = [u] ∧ RelV x u
  | _, _, .cons r .nil => ⟨_, rfl, r⟩
theorem Vals.two : ∀ {x y : V} {us : List Value}, Vals [x, y] us → ∃ u v, us = [u, v] ∧ RelV x u ∧ RelV y v
  | _, _, _, .cons r (.cons q .nil) => ⟨_, _, rfl, r, q⟩
theorem Vals.zero : ∀ {us : List Value}, Vals [] us → us = []
  | _, .nil => rfl
theorem Vals.dropLast {xs : List V} {us : List Value} (h : Vals xs us) : Vals xs.dropLast us.dropLast := by
  induction h with
  | nil => exact .nil
  | cons r t ih =>
    cases t with
    | nil => exact .nil
    | cons q t' => exact .cons r ih
theorem Vals.eraseIdx : ∀ {xs : List V} {us : List Value} (i : Nat), Vals xs us → Vals (xs.eraseIdx i) (us.eraseIdx i)
  | _, _, _, .nil => .nil
  | _, _, 0, .cons _ t => t
  | _, _, i + 1, .cons r t => .cons r (Vals.eraseIdx i t)
theorem Vals.reverse {xs : List V} {us : List Value} (h : Vals xs us) : Vals xs.reverse us.reverse := by
  induction h with
  | nil => exact .nil
  | cons r t ih => rw [List.reverse_cons, List.reverse_cons]; exact Vals.append ih (.cons r .nil)
theorem Vals.rep {xs : List V} {us : List Value} (h : Vals xs us) : ∀ k : Nat, Vals (List.replicate k xs).flatten (List.replicate k us).flatten
  | 0 => .nil
  | k + 1 => by
    rw [List.replicate_succ, List.replicate_succ, List.flatten_cons, List.flatten_cons]
    exact Vals.append h (Vals.rep h k)
theorem erase_last {α : Type} (l : List α) : l.eraseIdx (l.length - 1) = l.dropLast := by
  induction l with
  | nil => rfl
  | cons a r ih =>
    cases r with
    | nil => rfl
    | cons b r =>
      have e : (a :: b :: r).length - 1 = ((b :: r).length - 1) + 1 := by
        have h1 : (a :: b :: r).length = r.length + 2 := rfl
        have h2 : (b :: r).length = r.length + 1 := rfl
        omega
      rw [e, List.eraseIdx_cons_succ, ih]
      all_goals rfl
theorem len_erase {α : Type} : ∀ (l : List α) (i : Nat), (l.eraseIdx i).length ≤ l.length
  | [], _ => Nat.le_refl _
  | _ :: _, 0 => Nat.le_succ _
  | _ :: r, i + 1 => Nat.succ_le_succ (len_erase r i)
theorem foldl_rep (its : List Value) : ∀ (k : Nat) (acc : List Value),
    List.foldl (fun x1 x2 => x1 ++ x2) acc.toArray (List.replicate k its.toArray) = (acc ++ (List.replicate k its).flatten).toArray
  | 0, acc => by simp
  | k + 1, acc => by
    have e : acc.toArray ++ its.toArray = (acc ++ its).toArray := by simp
    have e2 : (acc ++ its) ++ (List.replicate k its).flatten = acc ++ (List.replicate (k + 1) its).flatten := by
      rw [List.replicate_succ, List.flatten_cons, List.append_assoc]
    rw [← e2, ← foldl_rep its k (acc ++ its), ← e, List.replicate_succ, List.foldl_cons]

section
variable {X : Cx} {pins : List (Addr × Obj)} {σ : St} {H : Hp} {s : Shared} {l b : Addr} {xs ys zs : List V}

/-! ### the two steps: a tracked list is rewritten, a new list is laid -/
theorem Inv.lset {its its' : List Value} {n : Nat} {f : Array Value → Array Value} {t' : Nat} (I : Inv X pins σ H s) (hH : H l = some (.lst xs))
    (e : s.heap.get? l = some { cls := .type "list", data := .seq its.toArray n }) (hf : f its.toArray = its'.toArray) (hv : Vals ys its') (hz : ys.length ≤ sizeLine) :
    Inv X pins σ (upd H l (.lst ys)) { s with heap := s.heap.update l (Obj.mapSeq f), toks := t' } := by
  have q := PySem.IsL.update e f
  rw [hf] at q
  refine I.write (x := l) (e := l) (by rw [hH]; exact trivial) (.inl rfl) (fun b' u hb hu => (Heap.get?_update_other s.heap (Obj.mapSeq f) (Ne.symm hb)).trans hu) ⟨_, q⟩ ?_
  exact ⟨hz, its', _, hv, q⟩
theorem Inv.lnew {its : List Value} {t' : Nat} (I : Inv X pins σ H s) (hv : Vals ys its) (hz : ys.length ≤ sizeLine) :
    Inv X pins σ (upd H s.heap.objs.size (.lst ys)) { s with heap := s.heap.push { cls := .type "list", data := .seq its.toArray }, toks := t' } :=
  I.laid (fun _ _ q => Heap.get?_push_of_some _ q) (Nat.le_refl _) ⟨hz, its, 0, hv, Heap.get?_push_size _ rfl⟩
theorem Inv.fresh (I : Inv X pins σ H s) : H s.heap.objs.size = none := I.hok.fresh (Nat.le_refl _)
theorem Inv.lstM (I : Inv X pins σ H s) (hH : H l = some (.lst xs)) : xs.length ≤ sizeLine ∧ ∃ (its : List Value) (n : Nat), Vals xs its ∧ xs.length = its.length ∧ s.heap.get? l = some { cls := .type "list", data := .seq its.toArray n } := by
  obtain ⟨z, its, n, r, e⟩ := I.hok l _ hH
  exact ⟨z, its, n, r, r.length, e⟩

theorem notLongL {n : Nat} (h : n ≤ sizeLine) : Builtin.List.listTooLong n = false := by
  unfold Builtin.List.listTooLong
  exact decide_eq_false (by omega)
end

section
variable {X : Cx}

/-! ### methods -/
def rAppend : V → List V → Hp → VK → Prop := fun x vs H Q => ∃ l xs y, x = .ref l ∧ vs = [y] ∧ H l = some (.lst xs) ∧ xs.length < sizeLine ∧ Q .non (upd H l (.lst (xs ++ [y])))
theorem mt_append : MtM X "list.append" rAppend := by
  intro pins s σ H x vs v us Q I rx rv h
  obtain ⟨l, xs, y, rfl, rfl, hH, hz, q⟩ := h
  cases rx
  obtain ⟨u, rfl, ru⟩ := rv.one
  obtain ⟨z, its, n, r, hl, e⟩ := I.lstM hH
  refine call_meets F.slot_list_append ⟨_, e, rfl⟩ F.entry_list_append (F.args_list_append_2 _ _) (PySem.list_append l its.toArray n u (by rw [List.size_toArray]; omega)) ⟨e, ?_⟩
  refine ⟨.non, _, I.lset (its' := its ++ [u]) hH e (by simp) (r.append (.cons ru .nil)) ?_, rfl, q⟩
  rw [List.length_append, List.length_singleton]
  omega

def rExtend : V → List V → Hp → VK → Prop := fun x vs H Q => ∃ l b xs zs, x = .ref l ∧ vs = [.ref b] ∧ H l = some (.lst xs) ∧ H b = some (.lst zs) ∧ xs.length + zs.length ≤ sizeLine ∧ Q .non (upd H l (.lst (xs ++ zs)))
theorem mt_extend : MtM X "list.extend" rExtend := by
  intro pins s σ H x vs v us Q I rx rv h
  obtain ⟨l, b, xs, zs, rfl, rfl, hH, hB, hz, q⟩ := h
  cases rx
  obtain ⟨u, rfl, ru⟩ := rv.one
  cases ru
  obtain ⟨z, its, n, r, hl, e⟩ := I.lstM hH
  obtain ⟨z2, its2, n2, r2, hl2, e2⟩ := I.lstM hB
  have hsz : its.toArray.size + its2.toArray.size ≤ sizeLine := by rw [List.size_toArray, List.size_toArray]; omega
  have hlong : ¬ (!its.toArray.isEmpty && Builtin.List.listTooLong (its.toArray.size + its2.toArray.size)) = true := by
    rw [notLongL hsz, Bool.and_false]
    exact Bool.false_ne_true
  refine call_meets F.slot_list_extend ⟨_, e, rfl⟩ F.entry_list_extend (F.args_list_extend_2 _ _)
    (AutoSeq1.list_extend_list_list_0 l its.toArray n b its2.toArray n2 hlong (by rw [List.size_toArray]; omega) (by omega)) ⟨e, e2, ?_⟩
  refine ⟨.non, _, I.lset (its' := its ++ its2) hH e (by simp) (r.append r2) ?_, rfl, q⟩
  rw [List.length_append]
  omega

def rPop : V → List V → Hp → VK → Prop := fun x vs H Q => ∃ l xs y, x = .ref l ∧ vs = [] ∧ H l = some (.lst xs) ∧ xs[xs.length - 1]? = some y ∧ Q y (upd H l (.lst xs.dropLast))
theorem mt_pop : MtM X "list.pop" rPop := by
  intro pins s σ H x vs v us Q I rx rv h
  obtain ⟨l, xs, y, rfl, rfl, hH, hy, q⟩ := h
  cases rx
  have hus := rv.zero
  subst hus
  obtain ⟨z, its, n, r, hl, e⟩ := I.lstM hH
  obtain ⟨u, hu, ru⟩ := r.get hy
  have hy' : its.toArray[its.toArray.size - 1]? = some u := by
    show its.toArray[its.length - 1]? = some u
    rw [← Array.getElem?_toList, ← hl]
    exact hu
  refine call_meets F.slot_list_pop ⟨_, e, rfl⟩ F.entry_list_pop (F.args_list_pop_1 _) (MeetsSeq.list_pop_last l its.toArray n u hy' (by rw [List.size_toArray]; omega)) ⟨e, ?_⟩
  refine ⟨y, _, I.lset (its' := its.dropLast) hH e ?_ r.dropLast ?_, ru, q⟩
  · show its.toArray.eraseIdxIfInBounds (its.toArray.size - 1) = its.dropLast.toArray
    rw [List.size_toArray, List.eraseIdxIfInBounds_toArray, erase_last]
  · rw [List.length_dropLast]
    omega

def rPopAt : V → List V → Hp → VK → Prop := fun x vs H Q => ∃ l xs i k y, x = .ref l ∧ vs = [.int i] ∧ H l = some (.lst xs) ∧ -(2 ^ 63) ≤ i ∧ i < 2 ^ 63 ∧ seqIndex? i xs.length = some k ∧ xs[k]? = some y ∧ Q y (upd H l (.lst (xs.eraseIdx k)))
theorem mt_popAt : MtM X "list.pop" rPopAt := by
  intro pins s σ H x vs v us Q I rx rv h
  obtain ⟨l, xs, i, k, y, rfl, rfl, hH, h1, h2, hk, hy, q⟩ := h
  cases rx
  obtain ⟨u, rfl, ru⟩ := rv.one
  obtain ⟨t, rfl⟩ := ru
  obtain ⟨z, its, n, r, hl, e⟩ := I.lstM hH
  obtain ⟨w, hw, rw'⟩ := r.get hy
  refine call_meets F.slot_list_pop ⟨_, e, rfl⟩ F.entry_list_pop (F.args_list_pop_2 _ _)
    (MeetsSeq.list_pop_at l its.toArray n i t k w (fitsIndex_both h1 h2) (by rw [List.size_toArray, ← hl]; exact hk) (by rw [← Array.getElem?_toList]; exact hw) (by rw [List.size_toArray]; omega)) ⟨e, ?_⟩
  refine ⟨y, _, I.lset (its' := its.eraseIdx k) hH e ?_ (r.eraseIdx k) ?_, rw', q⟩
  · show its.toArray.eraseIdxIfInBounds k = (its.eraseIdx k).toArray
    rw [List.eraseIdxIfInBounds_toArray]
  · have := len_erase xs k
    omega

def rReverse : V → List V → Hp → VK → Prop := fun x vs H Q => ∃ l xs, x = .ref l ∧ vs = [] ∧ H l = some (.lst xs) ∧ Q .non (upd H l (.lst xs.reverse))
theorem mt_reverse : MtM X "list.reverse" rReverse := by
  intro pins s σ H x vs v us Q I rx rv h
  obtain ⟨l, xs, rfl, rfl, hH, q⟩ := h
  cases rx
  have hus := rv.zero
  subst hus
  obtain ⟨z, its, n, r, hl, e⟩ := I.lstM hH
  refine call_meets F.slot_list_reverse ⟨_, e, rfl⟩ F.entry_list_reverse (F.args_list_reverse_1 _) (AutoSeq1.list_reverse_list_0 l its.toArray n (by rw [List.size_toArray]; omega)) ⟨e, ?_⟩
  refine ⟨.non, _, I.lset (its' := its.reverse) hH e (by simp) r.reverse ?_, rfl, q⟩
  rw [List.length_reverse]
  omega

def rClear : V → List V → Hp → VK → Prop := fun x vs H Q => ∃ l xs, x = .ref l ∧ vs = [] ∧ H l = some (.lst xs) ∧ Q .non (upd H l (.lst []))
theorem mt_clear : MtM X "list.clear" rClear := by
  intro pins s σ H x vs v us Q I rx rv h
  obtain ⟨l, xs, rfl, rfl, hH, q⟩ := h
  cases rx
  have hus := rv.zero
  subst hus
  obtain ⟨z, its, n, r, hl, e⟩ := I.lstM hH
  refine call_meets F.slot_list_clear ⟨_, e, rfl⟩ F.entry_list_clear (F.args_list_clear_1 _) (AutoSeq1.list_clear_list_0 l its.toArray n (by rw [List.size_toArray]; omega)) ⟨e, ?_⟩
  exact ⟨.non, _, I.lset (its' := []) (ys := []) hH e rfl .nil (Nat.zero_le _), rfl, q⟩

/-! ### list + list, list += list, list * int -/
def rCat : R2 := fun x y H Q => ∃ l b xs zs, x = .ref l ∧ y = .ref b ∧ H l = some (.lst xs) ∧ H b = some (.lst zs) ∧ xs.length + zs.length ≤ sizeLine ∧ ∀ p, H p = none → Q (.ref p) (upd H p (.lst (xs ++ zs)))
theorem op_cat : OpR X (binaryOp .Add) rCat := by
  intro pins s σ H x y v u Q I rx ry h
  obtain ⟨l, b, xs, zs, rfl, rfl, hH, hB, hz, q⟩ := h
  cases rx
  cases ry
  obtain ⟨z, its, n, r, hl, e⟩ := I.lstM hH
  obtain ⟨z2, its2, n2, r2, hl2, e2⟩ := I.lstM hB
  refine PySem.P.add_list e e2 ?_ (by rw [List.size_toArray, List.size_toArray]; omega)
  have ea : its.toArray ++ its2.toArray = (its ++ its2).toArray := by simp
  rw [ea]
  exact ⟨.ref _, _, I.lnew (t' := s.toks) (r.append r2) (by rw [List.length_append]; omega), rfl, q _ I.fresh⟩
/-- a list times an int (a negative one is nothing) -/
def rRep : R2 := fun x y H Q => ∃ l k xs, x = .ref l ∧ y = .int k ∧ H l = some (.lst xs) ∧ -(2 ^ 63) ≤ k ∧ k < 2 ^ 63 ∧ xs.length * k.toNat ≤ sizeLine ∧
  ∀ p, H p = none → Q (.ref p) (upd H p (.lst (List.replicate k.toNat xs).flatten))
theorem len_rep {α : Type} (xs : List α) (k : Nat) : (List.replicate k xs).flatten.length = k * xs.length := by
  induction k with
  | zero => simp
  | succ k ih => rw [List.replicate_succ, List.flatten_cons, List.length_append, ih, Nat.succ_mul, Nat.add_comm]
theorem op_rep : OpR X (binaryOp .Mult) rRep := by
  intro pins s σ H x y v u Q I rx ry h
  obtain ⟨l, k, xs, rfl, rfl, hH, h1, h2, hz, q⟩ := h
  cases rx
  obtain ⟨t, rfl⟩ := ry
  obtain ⟨z, its, n, r, hl, e⟩ := I.lstM hH
  have hlen : its.toArray.size * k.toNat ≤ sizeLine := by rw [List.size_toArray, ← hl]; exact hz
  have hcap : ¬ its.toArray.size * k.toNat > (2 ^ 63 - 1) / 8 := by
    have : (sizeLine : Nat) ≤ (2 ^ 63 - 1) / 8 := by decide
    omega
  have hfit : ¬ (!Builtin.List.listFitsIndex k) = true := by
    rw [fitsIndex_both h1 h2]
    exact Bool.false_ne_true
  have hlong : ¬ Builtin.List.listTooLong (its.toArray.size * k.toNat) = true := by
    rw [notLongL hlen]
    exact Bool.false_ne_true
  have hnew : List.foldl (fun x1 x2 => x1 ++ x2) #[] (List.replicate (if its.toArray.isEmpty = true then 0 else k.toNat) its.toArray) = (List.replicate k.toNat its).flatten.toArray := by
    have f0 : ∀ m : Nat, List.foldl (fun x1 x2 => x1 ++ x2) #[] (List.replicate m its.toArray) = (List.replicate m its).flatten.toArray := fun m => by
      have := foldl_rep its m []
      rw [List.nil_append] at this
      exact this
    rw [f0]
    cases its with
    | nil => simp
    | cons a r' => rw [if_neg (by simp)]
  refine wpAny_binaryOp_repeat_ref (T := "list") (U := "int") (by decide) ⟨_, e, rfl⟩ (fun s' => typeIs_int s' k t) noFill_list_mul F.fills_int_mul F.slot_int_rmul repeat_list F.slot_int_index.lookup
    (call_meets F.slot_int_rmul (typeIs_int s k t) F.entry_int_rmul (F.args_int_rmul_2 _ _) (int___rmul___int_list k t l its.toArray n)
      ⟨e, rfl, ⟨_, e, rfl⟩, call_meets F.slot_list_mul ⟨_, e, rfl⟩ F.entry_list_mul (F.args_list_mul_2 _ _) (AutoListH.list___mul___list_int_3 l its.toArray n k t hfit hcap hlong) ⟨e, ?_⟩⟩)
  rw [hnew]
  exact ⟨.ref _, _, I.lnew (t' := s.toks) (r.rep k.toNat) (by rw [len_rep, Nat.mul_comm]; exact hz), rfl, q _ I.fresh⟩

/-! ### del xs[i] -/
theorem del_list {pins : List (Addr × Obj)} {s : Shared} {σ : St} {H : Hp} {l : Addr} {xs : List V} {i : Int} {t : Tok} {k : Nat} {Q : Unit → Shared → Prop} (I : Inv X pins σ H s) (hH : H l = some (.lst xs))
    (h1 : -(2 ^ 63) ≤ i) (h2 : i < 2 ^ 63) (hk : seqIndex? i xs.length = some k) (h : ∀ s', Inv X pins σ (upd H l (.lst (xs.eraseIdx k))) s' → Q () s') :
    wpAny (model X.prog X.w) X.A (delItem (.ref l) (.int i t)) Q X.xe s := by
  obtain ⟨z, its, n, r, hl, e⟩ := I.lstM hH
  refine PySem.P.delItem_list (k := k) e (fitsIndex_both h1 h2) (by rw [List.size_toArray, ← hl]; exact hk) (h _ ?_) (by rw [List.size_toArray]; omega)
  refine I.lset (its' := its.eraseIdx k) (t' := s.toks) hH e ?_ (r.eraseIdx k) ?_
  · show its.toArray.eraseIdxIfInBounds k = (its.eraseIdx k).toArray
    rw [List.eraseIdxIfInBounds_toArray]
  · have := len_erase xs k
    omega
end

/-! ### xs[a:b] = ys -/
section
variable {prog : Program} {w : World} {A : Around} {E : Value → Shared → Prop} {s : Shared}
theorem splice_eq (its its2 : List Value) (a c : Nat) : its.toArray.extract 0 a ++ its2.toArray ++ its.toArray.extract c its.toArray.size = (its.take a ++ its2 ++ its.drop c).toArray := by
  apply Array.toList_inj.mp
  first
    | (simp
       exact List.take_of_length_le (by simp))
    | simp [List.take_of_length_le]
    | simp
theorem bounds_run {a c n : Nat} (hac : a ≤ c) (hc : c ≤ n) : sliceBounds (some (a : Int)) (some (c : Int)) none n = ((a : Int), (c : Int), 1) := by
  simp only [sliceBounds, Option.getD_none]
  have h1 : ¬ ((a : Int) < 0) := by omega
  have h2 : ¬ ((c : Int) < 0) := by omega
  simp only [h1, h2, if_false, show (1 : Int) > 0 by decide, if_true]
  congr 1
  · omega
  · congr 1; omega
set_option maxRecDepth 100000 in
/-- list.__setitem__ with a slice of step one and another list -/
theorem setItem_slice {l b sl : Addr} {items new : Array Value} {n n2 : Nat} {vl vu : Value} {a c : Nat} {Q : Unit → Shared → Prop}
    (e : s.heap.get? l = some { cls := .type "list", data := .seq items n }) (e2 : s.heap.get? b = some { cls := .type "list", data := .seq new n2 }) (hne : l ≠ b)
    (hs : s.heap.IsSliceOf sl vl vu .none) (pl : IsPart vl (some (a : Int))) (pu : IsPart vu (some (c : Int))) (hac : a ≤ c) (hc : c ≤ items.size)
    (hsz : items.size + new.size ≤ sizeLine) (h : Q () { s with heap := s.heap.update l (Obj.mapSeq fun xs => xs.extract 0 a ++ new ++ xs.extract c xs.size) }) :
    wpAny (model prog w) A (setItem (.ref l) (.ref sl) (.ref b)) Q E s := by
  have hl : s.heap.IsList l items := PySem.IsL.isList e
  have hb : s.heap.IsList b new := PySem.IsL.isList e2
  obtain ⟨os, hos, hcs, hds⟩ := id hs
  have hTs : s.TypeIs (.ref sl) "slice" := ⟨os, hos, hcs⟩
  have hstep : ¬ ((rawPart none == rawInt 0) = true) := Bool.false_ne_true
  have hsame : Builtin.List.listSameRef (.ref l) (.ref b) = false := by
    unfold Builtin.List.listSameRef
    exact beq_eq_false_iff_ne.mpr hne
  have hmax : (max (a : Int) (c : Int)).toNat = c := by omega
  have hz' : ((fun xs : Array Value => xs.extract 0 a ++ new ++ xs.extract c xs.size) items).size ≤ sizeLine + 1 := by
    simp only [Array.size_append, Array.size_extract]
    omega
  unfold setItem
  try with_reducible refine wpAny_holding ?_
  first | refine wpAny_bind (wpAny_pure ?_) | skip
  refine wpAny_bind (wpAny_sequenceKey hl.typeIs (by decide) ?_)
  refine wpAny_bind (wpAny_callSpecial?_slot (name := Str.ofString "__setitem__") hl.typeIs slot_list_setitem
    (wpAny_call_entry slot_list_setitem hl.typeIs entry_list_setitem ?_ (args_list_setitem _ _ _)))
  show wpAny _ _ (Builtin.List.listSubscript? (.ref sl) >>= _) _ _ s
  refine wpAny_bind ?_
  unfold Builtin.List.listSubscript?
  refine wpAny_bind (wpAny_specialOf hTs slice_no_index ?_)
  simp only [Option.isNone_none, if_true]
  refine wpAny_pure ?_
  show wpAny _ _ (typeOf (.ref sl) >>= _) _ _ s
  refine wpAny_bind (wpAny_typeOf hTs ?_)
  first
    | rw [if_neg (by decide)]
    | refine PySem.W.KFB.if_not (by decide) ?_
  rw [listSliceParts_eq]
  refine wpAny_bind (wpAny_bind (wpAny_field hos hds (x := .none) rfl (wpAny_bind (wpAny_listPart .none ?_))))
  rw [if_neg hstep]
  refine wpAny_bind (wpAny_field hos hds (x := vl) rfl (wpAny_bind (wpAny_listPart pl ?_)))
  refine wpAny_bind (wpAny_field hos hds (x := vu) rfl (wpAny_bind (wpAny_listPart pu (wpAny_pure ?_))))
  first
    | simp only [hsame, Bool.false_eq_true, if_false]
    | refine PySem.W.KFB.if_not hsame ?_
    | (dsimp only
       rw [if_neg (by rw [hsame]; exact Bool.false_ne_true)])
  refine wpAny_bind (m := Builtin.List.listAllItems (.ref b) "must assign iterable to extended slice") ?_
  unfold Builtin.List.listAllItems
  refine wpAny_bind (wpAny_typeOf hb.typeIs ?_)
  first
    | refine PySem.W.KFB.if_so (by decide) ?_
    | rw [if_pos (by decide)]
    | simp only [beq_self_eq_true, Bool.true_or, if_true]
  unfold Builtin.List.listItems
  refine wpAny_bind (wpAny_seqItems e2 rfl (wpAny_pure ?_))
  refine wpAny_bind (wpAny_bind (wpAny_seqItems e rfl (wpAny_pure ?_)))
  refine wpAny_bind (wpAny_of_eq ((sliceIndices_raw (some (a : Int)) (some (c : Int)) none items.size (by simp)).trans (congrArg (pure : Int × Int × Int → Sem (Int × Int × Int)) (bounds_run hac hc))) ?_)
  show wpAny _ _ (if ((1 : Int) == 1) = true then _ else _) _ _ s
  rw [if_pos (by decide)]
  refine wpAny_bind (wpAny_rule ?_)
  first
    | simp only [notLongL hsz, Bool.false_eq_true, if_false]
    | refine PySem.W.KFB.if_not (notLongL hsz) ?_
  first | refine wpAny_bind (wpAny_pure ?_) | skip
  show wpAny _ _ (updateSeq l (fun xs => xs.extract 0 ((a : Int)).toNat ++ new ++ xs.extract (max (a : Int) (c : Int)).toNat xs.size) >>= _) _ _ s
  rw [hmax, Int.toNat_natCast]
  refine wpAny_bind (wpAny_updateSeq (hz := Nat.le_trans (Nat.le_add_right _ _) hsz) (_hz' := hz') e rfl ?_)
  refine wpAny_bind (wpAny_letGo ?_)
  first
    | exact wpAny_bind (wpAny_pure (wpAny_pure ⟨.none, rfl, wpAny_pure h⟩))
    | exact wpAny_pure ⟨.none, rfl, wpAny_pure h⟩
end

section
variable {X : Cx}
/-- xs[a:c] = ys of another list, at the value level: sl is the slice object that was just made -/
theorem set_slice {pins : List (Addr × Obj)} {s : Shared} {σ : St} {H : Hp} {l b sl : Addr} {xs ys : List V} {a c : Int} {vl vu : Value} {Q : Unit → Shared → Prop} (I : Inv X pins σ H s)
    (hH : H l = some (.lst xs)) (hB : H b = some (.lst ys)) (hne : l ≠ b) (hs : s.heap.IsSliceOf sl vl vu .none) (ra : RelV (.int a) vl) (rc : RelV (.int c) vu) (h0 : 0 ≤ a) (hac : a ≤ c) (hc : c ≤ xs.length)
    (hz : xs.length + ys.length ≤ sizeLine) (h : ∀ s', Inv X pins σ (upd H l (.lst (xs.take a.toNat ++ ys ++ xs.drop c.toNat))) s' → Q () s') :
    wpAny (model X.prog X.w) X.A (setItem (.ref l) (.ref sl) (.ref b)) Q X.xe s := by
  obtain ⟨ta, rfl⟩ := ra
  obtain ⟨tc, rfl⟩ := rc
  obtain ⟨z, its, n, r, hl, e⟩ := I.lstM hH
  obtain ⟨z2, its2, n2, r2, hl2, e2⟩ := I.lstM hB
  obtain ⟨a', rfl⟩ := Int.eq_ofNat_of_zero_le h0
  obtain ⟨c', rfl⟩ := Int.eq_ofNat_of_zero_le (Int.le_trans h0 hac)
  simp only [Int.toNat_natCast] at h
  refine setItem_slice (a := a') (c := c') e e2 hne hs (.int _ _) (.int _ _) (by omega) (by rw [List.size_toArray]; omega) (by rw [List.size_toArray, List.size_toArray]; omega) (h _ ?_)
  refine I.lset (its' := its.take a' ++ its2 ++ its.drop c') (t' := s.toks) hH e ?_ (Vals.append (Vals.append (r.take _) r2) (r.drop _)) ?_
  · exact splice_eq its its2 a' c'
  · rw [List.length_append, List.length_append, List.length_take, List.length_drop]
    omega
end
end L2

namespace Att
open PySem PySem.W PySem.Calls PyProof.Rows

/-! ### the script -/
theorem ints_of_wellAll {P : Params} {h : Heap} : ∀ (ns : List Int) (vs : List Value), WellAll P h vs (ns.map WData.int) → IntsAre vs ns := by
  intro ns
  induction ns with
  | nil =>
    intro vs w
    rw [List.map_nil] at w
    cases w
    exact .nil
  | cons n ns ih =>
    intro vs w
    rw [List.map_cons] at w
    cases w with
    | cons a b =>
      cases a
      exact .cons _ _ (ih _ b)

theorem script_of {l : OpenLaw} {n : Nat} (hn : l.most = some n) {P : Params} {h : Heap} {args : List WData} {vals : List Value}
    (hpre : l.row.toRowW.claim.pre args = true) (hwl : WellAll P h vals args) :
    ∃ a vs ns, vals = [Value.ref a] ∧ args = [WData.list (ns.map WData.int)] ∧ h.get? a = some { cls := .type "list", data := .seq vs.toArray } ∧ IntsAre vs ns ∧ ns.length ≤ n := by
  have hsh : WShape.hasAll [] args [.list .int] = true := (pre_splitW hpre).1
  have hc : l.pre.holds [] { args := args } = true := (pre_splitW hpre).2
  obtain ⟨d, r, rfl, h1, h2⟩ := hasAllW_cons hsh
  obtain rfl := hasAllW_nil h2
  obtain ⟨xs, rfl, h3⟩ := hasW_list h1
  obtain ⟨ns, rfl⟩ := items_int h3
  have hlen : ns.length ≤ n := by
    unfold OpenLaw.pre at hc
    have h4 : (WTm.not (.lt (.lit (.int (n : Int))) (.len (.arg 0)))).holds [] { args := [.list (ns.map .int)] } = true := by
      have h4 := (holds_andW hc).1
      rw [hn] at h4
      exact h4
    have h5 := condW_of h4 (w_not (w_lt w_lit (w_len_list (w_arg rfl))))
    rw [List.length_map] at h5
    refine Nat.le_of_not_lt fun q => ?_
    have q' : (n : Int) < ((ns.length : Nat) : Int) := by omega
    first
      | (rw [decide_eq_true q'] at h5; exact absurd h5 (by decide))
      | (simp at h5; omega)
  cases hwl with
  | cons w1 w2 =>
    cases w2
    cases w1 with
    | list ho hall => exact ⟨_, _, ns, rfl, rfl, ho, ints_of_wellAll ns _ hall, hlen⟩

theorem post_true (l : OpenLaw) (args : List WData) : l.row.toRowW.claim.post args (.bool true) args = true :=
  postW_of (r := l.row.toRowW) (X := (true == true))
    (show WShape.has [] (.bool true) .bool = true by first | rfl | decide | simp [WShape.has, WShape.arms, WShape.armsAll])
    (show (WTm.eq .res (.lit (.bool true))).value [] { args := args, res := some (.bool true), after := args } = some (.bool (true == true)) from w_eq_bool (w_res rfl) w_lit) rfl

/-! ### the attachment: holds_open's last premise (the goal 'hc' behind k_head) from a wpAny of the law's body -/
theorem attach {l : OpenLaw} {n : Nat} {q : Program} {loose : List Str} {XP : (Str → Option Value) → Heap → Prop} {YP : World → Heap → Prop} {d : DefRec} {x : Str}
    (hn : l.most = some n) (hdf : d.params.defaults = [])
    (hbind : ∀ pm cd doc v : Value, bindArgs (docDef d.name d.params d.body d.scope pm cd doc) ⟨[v], []⟩ = pure [(x, v)])
    (hx : d.scope.names.lookup x = some .local ∨ d.scope.names.lookup x = some .cell)
    (hk : d.scope.kind = .function) (hco : d.scope.isCoroutine = false) (hgen : d.scope.isGenerator = false)
    (body : ∀ (w : World) (s₀ s₁ s : Shared) (mg mb : Str → Option Value) (fa : Addr) (o : Obj) (pm cd doc : Value) (a : Addr) (vs : List Value) (ns : List Int),
      Ground q loose [] XP w s₀ mg mb s₁.heap → YP w s₁.heap →
      s₁.heap.get? fa = some o → o.data = .func (docDef d.name d.params d.body d.scope pm cd doc) → s₁.heap.CodeRec cd d.name → mg d.name = some (.ref fa) →
      s₁.heap.get? a = some { cls := .type "list", data := .seq vs.toArray } → IntsAre vs ns → ns.length ≤ n →
      s.gens = #[] → s.os = s₁.os →
      Fr s₁.heap s₁.heap.objs.size s.heap (bindL (envOfC d.name d.scope s₁.heap.objs.size fa cd).kindOf [(x, .ref a)] fun _ => none) →
      Cl s₁.heap.objs.size (cellsFrom (s₁.heap.objs.size + 1) d.scope.names []) s.heap (bindC (envOfC d.name d.scope s₁.heap.objs.size fa cd).kindOf [(x, .ref a)] fun _ => none) →
      wpAny (model l.prog w) (callerA.deeper (envOfC d.name d.scope s₁.heap.objs.size fa cd)) (execs d.body (envOfC d.name d.scope s₁.heap.objs.size fa cd))
        (fun f s' => f = .ret (.bool true) ∧ OldK s₁.heap s'.heap ∧ s'.os = s₁.os ∧ AllBare s'.gens) (fun _ _ => False) s) :
    WalkO q loose XP YP l.row.toRowW d [] (fun f vs => PySem.call f vs) := by
  intro w s₀ s₁ mg mb G Y fa o pm cd doc dV kV ho hd hcd hD hmg hg args vals as hpre hlay hrd hwl hlo
  obtain rfl : dV = .none := Dflts.none hD hdf
  obtain rfl : kV = .none := Dflts.noKw hD
  obtain ⟨a, vs, ns, rfl, rfl, hobj, hints, hlen⟩ := script_of hn hpre hwl
  refine enter_call ?_
  refine call_cells_ret (o := o) (by rw [depth_caller]; decide) ho (fd_plain hd) G.T.nolimit hcd (hbind pm cd doc (.ref a)) (fun y hy => ?_) (fun h₁ tk F X => ?_) hco hgen hk
  · obtain rfl : y = (x, Value.ref a) := List.mem_singleton.mp hy
    rcases hx with e | e
    · exact .inl e
    · exact .inr ⟨e, cellsFrom_some _ _ _ (.inl e)⟩
  · refine wpAny_mono (body w s₀ s₁ { s₁ with heap := h₁, toks := tk } mg mb fa o pm cd doc a vs ns G Y ho (fd_plain hd) hcd hmg hobj hints hlen hg rfl F X) (fun f s' hq => ?_) (fun _ _ hq => hq)
    obtain ⟨rfl, h2, h3, h4⟩ := hq
    exact ⟨.inl ⟨.bool true, .bool true, [], rfl, fun _ => rfl, .bool true, post_true l _, fun _ => ⟨List.Pairwise.nil, fun _ hm => (nomatch hm)⟩⟩, h2, h3, h4⟩

/-- the same from a codeAny of the CALL (for a layer whose function contracts speak of calls) -/
theorem attach_call {l : OpenLaw} {n : Nat} {q : Program} {loose : List Str} {XP : (Str → Option Value) → Heap → Prop} {YP : World → Heap → Prop} {d : DefRec}
    (hn : l.most = some n) (hdf : d.params.defaults = [])
    (call : ∀ (w : World) (s₀ s₁ : Shared) (mg mb : Str → Option Value) (fa : Addr) (o : Obj) (pm cd doc : Value) (a : Addr) (vs : List Value) (ns : List Int),
      Ground q loose [] XP w s₀ mg mb s₁.heap → YP w s₁.heap →
      s₁.heap.get? fa = some o → o.data = .func (docDef d.name d.params d.body d.scope pm cd doc) → s₁.heap.CodeRec cd d.name → mg d.name = some (.ref fa) →
      s₁.heap.get? a = some { cls := .type "list", data := .seq vs.toArray } → IntsAre vs ns → ns.length ≤ n → s₁.gens = #[] →
      codeAny (model l.prog w) callerA (.call (.ref fa) ⟨[.ref a], []⟩) (fun r s' => r = .ok (.ret (.bool true)) ∧ OldK s₁.heap s'.heap ∧ s'.os = s₁.os ∧ AllBare s'.gens) s₁) :
    WalkO q loose XP YP l.row.toRowW d [] (fun f vs => PySem.call f vs) := by
  intro w s₀ s₁ mg mb G Y fa o pm cd doc dV kV ho hd hcd hD hmg hg args vals as hpre hlay hrd hwl hlo
  obtain rfl : dV = .none := Dflts.none hD hdf
  obtain rfl : kV = .none := Dflts.noKw hD
  obtain ⟨a, vs, ns, rfl, rfl, hobj, hints, hlen⟩ := script_of hn hpre hwl
  refine enter_call (codeAny_mono (call w s₀ s₁ mg mb fa o pm cd doc a vs ns G Y ho (fd_plain hd) hcd hmg hobj hints hlen hg) fun r s' hq => ?_)
  obtain ⟨rfl, h2, h3, h4⟩ := hq
  exact ⟨.inl ⟨.bool true, .bool true, [], rfl, fun _ => rfl, .bool true, post_true l _, fun _ => ⟨List.Pairwise.nil, fun _ hm => (nomatch hm)⟩⟩, h2, h3, h4⟩

/-- the same where the top left finished generators (o_head chose holds_openN): nothing may have changed at all and no generator may be left -/
theorem attachN {l : OpenLaw} {n : Nat} {q : Program} {loose : List Str} {XP : (Str → Option Value) → Heap → Prop} {YP : World → Heap → Prop} {d : DefRec} {x : Str}
    (hn : l.most = some n) (hdf : d.params.defaults = [])
    (hbind : ∀ pm cd doc v : Value, bindArgs (docDef d.name d.params d.body d.scope pm cd doc) ⟨[v], []⟩ = pure [(x, v)])
    (hx : d.scope.names.lookup x = some .local ∨ d.scope.names.lookup x = some .cell)
    (hk : d.scope.kind = .function) (hco : d.scope.isCoroutine = false) (hgen : d.scope.isGenerator = false)
    (body : ∀ (w : World) (s₀ s₁ s : Shared) (mg mb : Str → Option Value) (fa : Addr) (o : Obj) (pm cd doc : Value) (a : Addr) (vs : List Value) (ns : List Int),
      Ground q loose [] XP w s₀ mg mb s₁.heap → YP w s₁.heap →
      s₁.heap.get? fa = some o → o.data = .func (docDef d.name d.params d.body d.scope pm cd doc) → s₁.heap.CodeRec cd d.name → mg d.name = some (.ref fa) →
      s₁.heap.get? a = some { cls := .type "list", data := .seq vs.toArray } → IntsAre vs ns → ns.length ≤ n →
      s.gens = #[] → s.os = s₁.os →
      Fr s₁.heap s₁.heap.objs.size s.heap (bindL (envOfC d.name d.scope s₁.heap.objs.size fa cd).kindOf [(x, .ref a)] fun _ => none) →
      Cl s₁.heap.objs.size (cellsFrom (s₁.heap.objs.size + 1) d.scope.names []) s.heap (bindC (envOfC d.name d.scope s₁.heap.objs.size fa cd).kindOf [(x, .ref a)] fun _ => none) →
      wpAny (model l.prog w) (callerA.deeper (envOfC d.name d.scope s₁.heap.objs.size fa cd)) (execs d.body (envOfC d.name d.scope s₁.heap.objs.size fa cd))
        (fun f s' => f = .ret (.bool true) ∧ (∀ b o, s₁.heap.get? b = some o → s'.heap.get? b = some o) ∧ s'.os = s₁.os ∧ s'.gens = #[]) (fun _ _ => False) s) :
    WalkN q loose XP YP l.row.toRowW d [] (fun f vs => PySem.call f vs) := by
  intro w s₀ s₁ mg mb G Y fa o pm cd doc dV kV ho hd hcd hD hmg hg args vals as hpre hlay hrd hwl hlo
  obtain rfl : dV = .none := Dflts.none hD hdf
  obtain rfl : kV = .none := Dflts.noKw hD
  obtain ⟨a, vs, ns, rfl, rfl, hobj, hints, hlen⟩ := script_of hn hpre hwl
  refine enter_callW ?_
  refine call_cells_ret (o := o) (by rw [depth_caller]; decide) ho (fd_plain hd) G.T.nolimit hcd (hbind pm cd doc (.ref a)) (fun y hy => ?_) (fun h₁ tk F X => ?_) hco hgen hk
  · obtain rfl : y = (x, Value.ref a) := List.mem_singleton.mp hy
    rcases hx with e | e
    · exact .inl e
    · exact .inr ⟨e, cellsFrom_some _ _ _ (.inl e)⟩
  · refine wpAny_mono (body w s₀ s₁ { s₁ with heap := h₁, toks := tk } mg mb fa o pm cd doc a vs ns G Y ho (fd_plain hd) hcd hmg hobj hints hlen hg rfl F X) (fun f s' hq => ?_) (fun _ _ hq => hq)
    obtain ⟨rfl, h2, h3, h4⟩ := hq
    exact ⟨.inl ⟨.bool true, .bool true, [], rfl, fun _ => rfl, .bool true, post_true l _, fun _ => ⟨List.Pairwise.nil, fun _ hm => (nomatch hm)⟩⟩, h2, h3, h4⟩

/-! ### rules over ANY heap (no ledger) from facts about the written part K: the library's own take a ledger (News) for what they write -/
section
variable {prog : Program} {w : World} {A : Around} {E : Value → Shared → Prop} {s : Shared} {K : Frag}

/-- a def of the module, or a method (qual 'C.m'), entered: the frame is the next address; cells behind it -/
theorem call_fn {R : Result → Shared → Prop} {name qual : Str} {params : Arguments} {body : List Stmt} {scope : Scope} {dV kV doc pm cdv ct oc : Value} {an od : Option Addr} {osl : Array (Option Value)} {f : Addr} {args : Args} {binds : List (Str × Value)}
    (X : K.In s.heap) (hlim : s.heap.NoLimit) (ho : K.lookup f = some ⟨oc, od, .func (fnOf name qual params body scope dV kV doc pm an cdv ct), osl⟩) (hcd : codeIn K cdv qual = true) (hroom : A.depth < recursionLimit)
    (hbind : BindsTo s (fnOf name qual params body scope dV kV doc pm an cdv ct) args binds)
    (hkind : (binds.all fun y => scope.names.lookup y.1 == some .local || scope.names.lookup y.1 == some .cell) = true)
    (h : ∀ s₁, InCallC s s.heap.objs.size (bindL (envOfC qual scope s.heap.objs.size f cdv).kindOf binds fun _ => none) (cellsFrom (s.heap.objs.size + 1) scope.names [])
        (bindC (envOfC qual scope s.heap.objs.size f cdv).kindOf binds fun _ => none) s₁ →
      wpAny (model prog w) (A.deeper (envOfC qual scope s.heap.objs.size f cdv)) (execs body (envOfC qual scope s.heap.objs.size f cdv))
        (fun fl s' => R (.ok (.ret (match fl with | .ret v => v | _ => .none))) s')
        (fun e s' => wpAny (model prog w) (A.deeper (envOfC qual scope s.heap.objs.size f cdv)) (leaving (envOfC qual scope s.heap.objs.size f cdv) e) (fun _ s'' => R (.error e) s'') (fun e' s'' => R (.error e') s'') s') s₁)
    (hco : scope.isCoroutine = false) (hgen : scope.isGenerator = false) (hk : scope.kind = .function) : codeAny (model prog w) A (.call (.ref f) args) R s := by
  refine codeAny_call_function hroom (X _ _ ho) rfl hco hgen rfl (codeRec_of X hcd) (hbind _ _ _ _ ?_)
  refine wpAny_newFunctionEnv_cells hk (kindsX hkind _) fun env he s₁ x => ?_
  subst he
  exact ⟨hlim.keeps x.toInCall.keep, codeAny_func (h s₁ x)⟩

/-- C(..): dict at size, instance at size + 1, then __init__ -/
theorem make_obj {R : Result → Shared → Prop} {C fI : Addr} {rest : List Value} {kw : List (Str × Value)}
    (X : K.In s.heap) (hm : makesIn K C = true) (hi : findIn K (.ref C) "__init__" = some (some (.ref fI))) (hf : isFn K (.ref fI) = true)
    (h : codeAny (model prog w) (A.under (.builtin "type.__call__" ⟨.ref C :: rest, kw⟩)) (.call (.ref fI) ⟨.ref (s.heap.objs.size + 1) :: rest, kw⟩) (InitBack (s.heap.objs.size + 1) R)
      { s with heap := (s.heap.push emptyDict).push (instObj C s.heap.objs.size) }) : codeAny (model prog w) A (.call (.ref C) ⟨rest, kw⟩) R s := by
  obtain ⟨hh, g, d, t, os⟩ := s
  exact make_core (makes_of X hm) (looks_findIn X hi) (fun self => bind_fn X self (beq_iff_eq.mp hf)) (.inl rfl) h

/-- x.name where the instance's dict holds the name and the class does not -/
theorem get_field {x C : Addr} {ox : Obj} {es : List DictEntry} {n : Nat} {name : Str} {expr : Bool} {v : Value} {Q : Value → Shared → Prop}
    (X : K.In s.heap) (I : PySem.W.InstAt s.heap x ox C (some (dictOf es n))) (hg : plainGet K C name = true) (hh : hasDictIn K C = true) (ha : findIn K (.ref C) name = some none)
    (hl : getL name es = some (some v)) (hv : handedIn v = true) (h : Q v { s with toks := s.toks + 1 }) : wpAny (model prog w) A (getAttr (.ref x) name expr) Q E s :=
  get_value X I (plainGet_of hg).1 (findObj_own hh ha rfl hl) hv h

/-- x.m(..): the method found in the class -/
theorem get_method {x C f : Addr} {ox : Obj} {es : List DictEntry} {n : Nat} {name : Str} {pl : Sem Bool} {Q : Value × List Value → Shared → Prop}
    (X : K.In s.heap) (I : PySem.W.InstAt s.heap x ox C (some (dictOf es n))) (hg : plainGet K C name = true) (hf : findIn K (.ref C) name = some (some (.ref f))) (ht : isFn K (.ref f) = true)
    (hl : getL name es = some none) (h : Q (.ref f, [.ref x]) s) : wpAny (model prog w) A (getMethod (.ref x) name pl) Q E s :=
  method_fn X I (plainGet_of hg).1 (plainGet_of hg).2 hf (beq_iff_eq.mp ht) (by show (lookIn name (dictOf es n)).map _ = _; rw [lookIn_dict, hl]; rfl) h

/-! the whole heap as the ledger: makes every rule that writes through a ledger a rule over any heap -/
def noObjs (h : Heap) : Heap := { h with objs := #[] }
theorem noObjs_get (h : Heap) (b : Addr) : (noObjs h).get? b = none := by
  cases e : (noObjs h).get? b with
  | none => rfl
  | some o => exact absurd (Heap.lt_size e) (Nat.not_lt_zero _)
def ledger (h : Heap) (L d : Addr) : List (Addr × Obj) := (List.range h.objs.size).filterMap fun a => if a = L ∨ a = d then none else (h.get? a).map fun o => (a, o)
theorem mem_ledger {h : Heap} {L d a : Addr} {o : Obj} : (a, o) ∈ ledger h L d ↔ a ≠ L ∧ a ≠ d ∧ h.get? a = some o := by
  unfold ledger
  rw [List.mem_filterMap]
  constructor
  · rintro ⟨b, _, e⟩
    split at e
    · cases e
    · rename_i hb
      obtain ⟨o', ho, e'⟩ := Option.map_eq_some_iff.mp e
      cases e'
      exact ⟨fun q => hb (.inl q), fun q => hb (.inr q), ho⟩
  · rintro ⟨n1, n2, ho⟩
    refine ⟨a, List.mem_range.mpr (Heap.lt_size ho), ?_⟩
    rw [if_neg (show ¬ (a = L ∨ a = d) from fun q => q.elim n1 n2), ho] <;> rfl
theorem news_ledger {h : Heap} {L d : Addr} {od : Obj} (hne : d ≠ L) (ho : h.get? d = some od) : News (noObjs h) L h ([] ++ (d, od) :: ledger h L d) := by
  rintro ⟨a, o⟩ hp
  rcases List.mem_cons.mp hp with e | hp
  · cases e
    exact ⟨ho, hne, noObjs_get _ _⟩
  · obtain ⟨n1, n2, e⟩ := mem_ledger.mp hp
    exact ⟨e, n1, noObjs_get _ _⟩
theorem fr_all {h : Heap} {L : Addr} {m : Str → Option Value} (n : h.Ns L m) : Fr (noObjs h) L h m :=
  ⟨n, fun b o e => (by rw [noObjs_get] at e; cases e), Nat.zero_le _⟩
/-- Upd of the head entry (for append_K, setItem_K ..) -/
theorem upd_ledger {h : Heap} {L d : Addr} {o o' : Obj} : Upd d o o' ((d, o) :: ledger h L d) ((d, o') :: ledger h L d) :=
  .head fun ⟨_, _⟩ hp => (mem_ledger.mp hp).2.1

/-- x.name = v over any heap: L is any namespace of the heap (the frame's, say): its map stays, its object is not told; all else but the dict stays -/
theorem set_field {x C dx L : Addr} {ox : Obj} {m : Str → Option Value} {es es' : List DictEntry} {n n' : Nat} {name : Str} {v : Value} {Q : Unit → Shared → Prop}
    (X : K.In s.heap) (I : PySem.W.InstAt s.heap x ox C (some (dictOf es n))) (hd : ox.dict = some dx) (hL : s.heap.Ns L m) (hne : dx ≠ L)
    (hs : findIn K (.ref C) "__setattr__" = some (some (.builtin "object.__setattr__"))) (hp : plainOver K C = true) (ht : takerIn K C name = some none) (hh : hasDictIn K C = true) (hl : (getL name es).isSome = true)
    (e : (putL name (PyData.keyHash w.params name) (.str name (s.toks + 1)) v es, putN name es n) = (es', n')) (hz : es'.length ≤ 1000)
    (h : ∀ h' : Heap, h'.Ns L m → h'.get? dx = some (dictOf es' n') → (∀ b o, b ≠ dx → b ≠ L → s.heap.get? b = some o → h'.get? b = some o) → Q () { s with heap := h', toks := s.toks + 2 }) :
    wpAny (model prog w) A (setAttr (.ref x) name v) Q E s := by
  obtain ⟨e1, e2⟩ := Prod.mk.inj e
  have hdx : s.heap.get? dx = some (dictOf es n) := by
    have := I.dict
    rw [hd] at this
    exact this
  refine set_plain X I hs (osa_dict (s := { s with toks := s.toks + 1 }) (h₀ := noObjs s.heap) (L := L) (m := m) (od := dictOf es n) (od' := dictOf es' n') (es := es') (n := n') (pre := []) (post := ledger s.heap L dx)
    (fr_all hL) (news_ledger hne hdx) X I hd hp ht hh hl (fun _ q => nomatch q) (fun ⟨_, _⟩ q => (mem_ledger.mp q).2.1) (by rw [putName_dict, e1, e2]) rfl hz fun h' F' N' => ?_)
  exact h h' F'.ns (N'.get (List.Mem.head _)) fun b o n1 n2 ho => N'.get (List.Mem.tail _ (mem_ledger.mpr ⟨n2, n1, ho⟩))
end
end Att

namespace L2
open PySem PySem.Spec PyProof.Rows

theorem vals_ints : ∀ {vs : List Value} {ns : List Int}, IntsAre vs ns → Vals (ns.map V.int) vs
  | _, _, .nil => .nil
  | _, _, .cons n t h => .cons ⟨t, rfl⟩ (vals_ints h)

/-- nothing is tracked but the script, known to the object (or it is an object of the module) -/
def Only (H : Hp) : Prop := ∀ b, H b = none ∨ ∃ o xs, H b = some (.frz o (.lst xs))

/-- THE HEAD: the law's promise, at the heap behind the top. F, the promise of the law's def, may use that base is part of the heap (so K.In base, base.Ns mainGlobals mg stand in Mod) -/
theorem law_call {P : Program} {w : World} {K : PySem.W.Frag} {mg mb : Str → Option Value} {CX : CXT} {k : Nat} {fa a : Addr} {fd : FuncData} {x : Str} {sp : Sp} {s₁ : Shared} {vs : List Value} {ns : List Int}
    (KX : K.In s₁.heap) (hns : s₁.heap.Ns mainGlobals mg) (hb : s₁.heap.Ns builtinsNs mb) (hbb : ∀ x : Str, x ≠ "__name__" → mb x = bootBuiltins x) (hlim : s₁.heap.NoLimit) (hg : s₁.gens = #[])
    (ha : s₁.heap.get? a = some { cls := .type "list", data := .seq vs.toArray }) (hi : IntsAre vs ns) (hl : ns.length ≤ sizeLine) (hr : Room k callerA)
    (F : ∀ base : Heap, K.In base → base.Ns mainGlobals mg → FnOk P w K mg base CX k fa fd [x] sp) (hbind : ∀ (s : Shared) (u : Value), BindsTo s fd ⟨[u], []⟩ [(x, u)])
    (hsp : ∀ H : Hp, Only H → SqL K H a (ns.map V.int) → sp [.ref a] H (fun v _ => v = .bl true) fun _ _ _ => False)
    (hCX : ∀ H e s', CX [] H s₁ (fun _ _ _ => False) e s' → False) :
    codeAny (model P w) callerA (.call (.ref fa) ⟨[.ref a], []⟩) (fun r s' => r = .ok (.ret (.bool true)) ∧ OldK s₁.heap s'.heap ∧ s'.os = s₁.os ∧ AllBare s'.gens) s₁ := by
  have rv := vals_ints hi
  have lenV := hi.length
  -- from an abstract heap in which nothing but the script may be tracked
  have core : ∀ H : Hp, Only H → SqL K H a (ns.map V.int) → HOk P w H s₁.heap → (∀ b, H b ≠ none → b = a) → (H a ≠ none → K.lookup a = none) →
      codeAny (model P w) callerA (.call (.ref fa) ⟨[.ref a], []⟩) (fun r s' => r = .ok (.ret (.bool true)) ∧ OldK s₁.heap s'.heap ∧ s'.os = s₁.os ∧ AllBare s'.gens) s₁ := by
    intro H hO hS hok hA hK
    have base_of : ∀ {b : Addr} {o : Obj}, s₁.heap.get? b = some o → H b = none → (hidT s₁.heap H).get? b = some o := fun e n => hidT_get e n
    have noA : ∀ {b : Addr} {o : Obj} {es : Array DictEntry} {ep : Nat}, s₁.heap.get? b = some o → o.data = .dict es ep → H b = none := fun {b o es ep} e d => by
      cases q : H b with
      | none => rfl
      | some u =>
        have e' : b = a := hA b (by rw [q]; simp)
        subst e'
        rw [ha] at e; cases e
        have d' : Data.seq vs.toArray _ = Data.dict es ep := d
        cases d'
    have nsK : ∀ {b : Addr} {m : Str → Option Value}, s₁.heap.Ns b m → (hidT s₁.heap H).Ns b m := fun {b m} ⟨o, es, ep, e, d, r⟩ => ⟨o, es, ep, base_of e (noA e d), d, r⟩
    have hKb : K.In (hidT s₁.heap H) := fun b o e => base_of (KX b o e) (by
      cases q : H b with
      | none => rfl
      | some u =>
        have e' : b = a := hA b (by rw [q]; simp)
        subst e'
        rw [hK (by rw [q]; simp)] at e; cases e)
    have hM : Mod K mg (hidT s₁.heap H) := ⟨hKb, nsK hns, ⟨mb, nsK hb, hbb⟩, let ⟨mc, h1, h2⟩ := hlim; ⟨mc, nsK h1, h2⟩⟩
    have e0 : Env0 P w K mg (hidT s₁.heap H) callerA [] s₁ H := ⟨rfl, hM, fun b o e => of_hidT e, Nat.le_of_eq (hidT_size _ _), trivial, fun b hb => absurd (show b ∈ ([] : List Addr) from hb) (by simp), hok, .of_eq hg⟩
    refine codeAny_mono ((F _ hKb (nsK hns)).run callerA [] s₁ H ⟨[.ref a], []⟩ [.ref a] [.ref a] _ _ hr e0 (hbind s₁ (.ref a)) (.cons rfl .nil) (hsp H hO hS)) fun r s' h => ?_
    cases r with
    | error e => exact (hCX H e s' h).elim
    | ok fl =>
      cases fl with
      | next => exact False.elim h
      | brk => exact False.elim h
      | cont => exact False.elim h
      | ret u =>
        obtain ⟨v, H', os, bare, un, hok', r', q⟩ := h
        have q' : v = .bl true := q
        subst q'
        obtain rfl : u = Value.bool true := r'
        refine ⟨rfl, OldK.of_keep fun b o e => ?_, os, bare⟩
        cases q : H b with
        | none => exact un.keep b o e q (by intro z; exact absurd (show b ∈ ([] : List Addr) from z) (by simp)) (by simp)
        | some u =>
          rcases hO b with z | ⟨ob, xs, z⟩
          · rw [q] at z; cases z
          · have z2 := un.frzs b ob _ z
            obtain ⟨e1, _⟩ := hok b _ z
            obtain ⟨e2, _⟩ := hok' b _ z2
            rw [e] at e1; cases e1
            exact e2
  cases hk : K.lookup a with
  | some o =>
    -- the script is one of the module's own objects
    have e := KX a o hk
    rw [ha] at e
    cases e
    refine core (fun _ => none) (fun _ => .inl rfl) (.inr ⟨_, vs.toArray, _, hk, rfl, rfl, rfl, by rw [List.size_toArray, lenV]; exact hl, by simpa using rv⟩) (fun b u z => by have z' : (none : Option HO) = some u := z; cases z') (fun b z => absurd rfl z) fun z => absurd rfl z
  | none =>
    refine core (fun b => if b = a then some (.frz { cls := .type "list", data := .seq vs.toArray } (.lst (ns.map V.int))) else none) (fun b => ?_) (.inl (.inr ⟨{ cls := .type "list", data := .seq vs.toArray }, if_pos rfl⟩)) (fun b u z => ?_) (fun b z => ?_) fun _ => hk
    · by_cases hb : b = a
      · exact .inr ⟨_, _, if_pos hb⟩
      · exact .inl (if_neg hb)
    · by_cases hb : b = a
      · have z' := (if_pos hb).symm.trans z
        cases z'
        subst hb
        exact ⟨ha, by rw [List.length_map]; exact hl, vs, _, rv, ha⟩
      · have z' := (if_neg hb).symm.trans z
        cases z'
    · by_cases hb : b = a
      · exact hb
      · exact absurd (if_neg hb) z
end L2

namespace L2
open PySem PySem.Spec PyProof.Rows

abbrev KOf {K : PySem.W.Frag} {h : Heap} (_ : K.In h) : PySem.W.Frag := K

/-- the goal that k_head leaves (case hc), from the law's promise. F gives the function object fd (K's own) once, then the promise over every base -/
theorem walk_of {l : PySem.W.OpenLaw} {n k : Nat} {q : Program} {loose : List Str} {XP : (Str → Option Value) → Heap → Prop} {YP : World → Heap → Prop} {d : DefRec} {K : Params → PySem.W.Frag} {CX : World → CXT} {sp : World → Sp} {x : Str}
    (hn : l.most = some n) (hn2 : n ≤ sizeLine) (hdf : d.params.defaults = []) (hr : Room k callerA)
    (hY : ∀ (w : World) (h : Heap), YP w h → (K w.params).In h)
    (F : ∀ (w : World) (mg : Str → Option Value) (fa : Addr) (h : Heap), (K w.params).In h → h.Ns mainGlobals mg → mg d.name = some (.ref fa) →
      ∃ fd : FuncData, (∀ (s : Shared) (u : Value), BindsTo s fd ⟨[u], []⟩ [(x, u)]) ∧
        ∀ base : Heap, (K w.params).In base → base.Ns mainGlobals mg → FnOk l.prog w (K w.params) mg base (CX w) k fa fd [x] (sp w))
    (hsp : ∀ (w : World) (H : Hp) (a : Addr) (ns : List Int), ns.length ≤ n → Only H → SqL (K w.params) H a (ns.map V.int) → sp w [.ref a] H (fun v _ => v = .bl true) fun _ _ _ => False)
    (hCX : ∀ (w : World) (H : Hp) (s : Shared) (e : Value) (s' : Shared), CX w [] H s (fun _ _ _ => False) e s' → False) :
    PySem.W.WalkO q loose XP YP l.row.toRowW d [] (fun f vs => PySem.call f vs) := by
  refine Att.attach_call hn hdf fun w s₀ s₁ mg mb fa o pm cd doc a vs ns G Y ho hd hcd hmg hobj hints hlen hg => ?_
  have KX := hY w _ Y
  obtain ⟨fd, hb, hF⟩ := F w mg fa _ KX G.T.g hmg
  exact law_call KX G.T.g G.T.b G.T.builtins G.T.nolimit hg hobj hints (Nat.le_trans hlen hn2) hr hF hb (fun H hO hS => hsp w H a ns hlen hO hS) fun H e s' => hCX w H s₁ e s'
/-- the same where the promise hangs on the written part alone: (sp := My.sp_law), no hole under a binder -/
theorem walk_ofK {l : PySem.W.OpenLaw} {n k : Nat} {q : Program} {loose : List Str} {XP : (Str → Option Value) → Heap → Prop} {YP : World → Heap → Prop} {d : DefRec} {K : Params → PySem.W.Frag} {CX : CXT} {sp : PySem.W.Frag → Sp} {x : Str}
    (hn : l.most = some n) (hn2 : n ≤ sizeLine) (hdf : d.params.defaults = []) (hr : Room k callerA)
    (hY : ∀ (w : World) (h : Heap), YP w h → (K w.params).In h)
    (F : ∀ (w : World) (mg : Str → Option Value) (fa : Addr) (h : Heap), (K w.params).In h → h.Ns mainGlobals mg → mg d.name = some (.ref fa) →
      ∃ fd : FuncData, (∀ (s : Shared) (u : Value), BindsTo s fd ⟨[u], []⟩ [(x, u)]) ∧
        ∀ base : Heap, (K w.params).In base → base.Ns mainGlobals mg → FnOk l.prog w (K w.params) mg base CX k fa fd [x] (sp (K w.params)))
    (hsp : ∀ (K : PySem.W.Frag) (H : Hp) (a : Addr) (ns : List Int), ns.length ≤ n → Only H → SqL K H a (ns.map V.int) → sp K [.ref a] H (fun v _ => v = .bl true) fun _ _ _ => False)
    (hCX : ∀ (H : Hp) (s : Shared) (e : Value) (s' : Shared), CX [] H s (fun _ _ _ => False) e s' → False) :
    PySem.W.WalkO q loose XP YP l.row.toRowW d [] (fun f vs => PySem.call f vs) :=
  walk_of (K := K) (CX := fun _ => CX) (sp := fun w => sp (K w.params)) hn hn2 hdf hr hY F (fun w H a ns h1 h2 h3 => hsp (K w.params) H a ns h1 h2 h3) fun _ H s e s' => hCX H s e s'
end L2



/-! SHORT WORDS over the layer: a def of the text, its body, what a loop and a test want. -/
namespace L2
open PySem PySem.Spec PyProof.Rows

/-! ### the text by places -/
/-- the j-th statement of a class's body -/
def inClass (s : Stmt) (j : Nat) : Stmt := match s with
  | .ClassDef _ _ _ body _ _ _ _ _ _ _ => body.getD j (.Pass ⟨0, 0, 0, 0⟩)
  | _ => .Pass ⟨0, 0, 0, 0⟩
def defArgs (s : Stmt) : Arguments := match s with
  | .FunctionDef _ a _ _ _ _ _ _ _ _ => a
  | _ => { posonlyargs := [], args := [], vararg := none, kwonlyargs := [], kw_defaults := [], kwarg := none, defaults := [] }
def defBody (s : Stmt) : List Stmt := match s with
  | .FunctionDef _ _ b _ _ _ _ _ _ _ => b
  | _ => []
def defScope (s : Stmt) : Scope := match s with
  | .FunctionDef _ _ _ _ _ _ sc _ _ _ => sc
  | _ => { kind := .function, names := [], isGenerator := false, isCoroutine := false }

/-! ### no exception leaves a def -/
abbrev CX0 : CXT := fun _ _ _ _ _ _ => False
abbrev E0 : XK := fun _ _ _ => False
theorem pass0 {X : Cx} : Passes CX0 X E0 := fun _ _ _ _ _ _ _ h => h.elim

/-! ### a def (or method) of the text as it stands behind the top -/
structure Fun (K : PySem.W.Frag) (x qual : Str) (st : Stmt) (f : Addr) (fd : FuncData) : Prop where
  ex : ∃ (oc : Value) (od : Option Addr) (kV doc pm : Value) (an : Option Addr) (cdv ct : Value) (osl : Array (Option Value)),
    fd = PySem.W.fnOf x qual (defArgs st) (defBody st) (defScope st) .none kV doc pm an cdv ct ∧ K.lookup f = some ⟨oc, od, .func fd, osl⟩ ∧ PySem.W.codeIn K cdv qual = true
  kp : PySem.W.keepIn K (.ref f) = true
section
variable {P : Program} {w : World} {K : PySem.W.Frag} {mg : Str → Option Value} {base : Heap}
/-- THE RULE for a def: its body as a term of rules, and the reading of that term -/
theorem Fun.ok {x qual : Str} {st : Stmt} {f : Addr} {fd : FuncData} {N ps : List Str} {k : Nat} {sp : Sp} (F : Fun K x qual st f fd) (S : FnScope N ps (defScope st)) (len : ∀ vs H Q E, sp vs H Q E → vs.length = ps.length)
    (hbody : ∀ (cdv : Value) (A : Around) (outer : List Env) (s : Shared) (H : Hp) (vs : List V) (Q : VK) (E : XK), Room k (A.deeper (envOfC qual (defScope st) s.heap.objs.size f cdv)) → sp vs H Q E →
      ∃ t, PSs (cxOf CX0 P w K mg base N qual (defScope st) f cdv A outer s H E).nox (defBody st) t ∧ t { nx := fun _ H' => Q .non H', rt := Q } (start N vs) H) : FnOk P w K mg base CX0 (k + 1) f fd ps sp := by
  obtain ⟨oc, od, kV, doc, pm, an, cdv, ct, osl, rfl, lk, hcd⟩ := F.ex
  refine fn_of lk hcd S len fun A outer s H vs Q E hr hsp => ?_
  obtain ⟨t, h, q⟩ := hbody cdv A outer s H vs Q E hr hsp
  exact ⟨t, h.nox, q⟩
/-- how its arguments bind (no defaults): h is «fun _ _ _ _ _ _ us hl => match us, hl with | [_, _], _ => rfl», one _ a parameter -/
theorem Fun.binds {x qual : Str} {st : Stmt} {f : Addr} {fd : FuncData} {ps : List Str} (F : Fun K x qual st f fd)
    (h : ∀ (kV doc pm : Value) (an : Option Addr) (cdv ct : Value) (us : List Value), us.length = ps.length → bindArgs (PySem.W.fnOf x qual (defArgs st) (defBody st) (defScope st) .none kV doc pm an cdv ct) ⟨us, []⟩ = pure (ps.zip us)) : Binds K fd ps [] := by
  obtain ⟨oc, od, kV, doc, pm, an, cdv, ct, osl, rfl, lk, hcd⟩ := F.ex
  exact .all (h kV doc pm an cdv ct)
theorem fun_mk {x qual : Str} {st : Stmt} {f : Addr} {oc : Value} {od an : Option Addr} {osl : Array (Option Value)} {kV doc pm cdv ct : Value} (l : K.lookup f = some ⟨oc, od, .func (PySem.W.fnOf x qual (defArgs st) (defBody st) (defScope st) .none kV doc pm an cdv ct), osl⟩)
    (c : PySem.W.codeIn K cdv qual = true) (k : PySem.W.keepIn K (.ref f) = true) : Fun K x qual st f (PySem.W.fnOf x qual (defArgs st) (defBody st) (defScope st) .none kV doc pm an cdv ct) := ⟨⟨oc, od, kV, doc, pm, an, cdv, ct, osl, rfl, l, c⟩, k⟩
end
theorem hu_of {A : Around} {k : Nat} (hr : Room k A) : A.units + 1 < cLine := Nat.lt_of_le_of_lt (Nat.add_le_add_left (by decide : 1 ≤ 64) _) hr.units
theorem small1000 {n : Nat} (h : n ≤ 1000) : n < sizeLine := Nat.lt_of_le_of_lt h (by decide)

/-! ### expressions in short: the name that stands in the i-th slot -/
section
variable {X : Cx}
theorem pv (i : Nat) {x : Str} {pos : Pos} (hN : X.N[i]? = some x := by rfl) (hv : Vis X.env.scope x := by first | exact Or.inl rfl | exact Or.inr (Or.inl rfl) | exact Or.inr (Or.inr rfl)) (hd : (x == ("__debug__" : Str)) = false := by decide)
    (hcd : (x == ("__classdict__" : Str)) = false := by decide) : PE X (.Name x pos) (tVar i) := pe_var hN hv hd hcd
end

/-! ### tests -/
theorem iteF {A B : Prop} (h : B) : if false = true then A else B := by
  rw [if_neg Bool.false_ne_true]
  exact h
theorem iteT {A B : Prop} (h : A) : if true = true then A else B := by
  rw [if_pos rfl]
  exact h
theorem ite2 {c A B : Prop} [Decidable c] (h1 : c → A) (h2 : ¬ c → B) : if c then A else B := by
  by_cases h : c
  · rw [if_pos h]
    exact h1 h
  · rw [if_neg h]
    exact h2 h
theorem iteNS {c A B : Prop} [Decidable c] (hc : c) (h : B) : if (!decide c) = true then A else B := by
  rw [decide_eq_true hc]
  exact iteF h

/-! ### heaps -/
/-- all that was tracked is as it was -/
def Same (H H' : Hp) : Prop := ∀ b o, H b = some o → H' b = some o
theorem Same.refl (H : Hp) : Same H H := fun _ _ h => h
theorem Same.trans {H H1 H2 : Hp} (a : Same H H1) (b : Same H1 H2) : Same H H2 := fun c o h => b c o (a c o h)
theorem Same.free {H H' : Hp} (e : Same H H') {l : Addr} (h : H' l = Option.none) : H l = Option.none := by
  cases q : H l with
  | none => rfl
  | some o =>
    rw [e l o q] at h
    cases h
theorem Same.seq {K : PySem.W.Frag} {H H' : Hp} {a : Addr} {xs : List V} (e : Same H H') (h : SqL K H a xs) : SqL K H' a xs := by
  rcases h with (h | ⟨o, h⟩) | h
  · exact .inl (.inl (e _ _ h))
  · exact .inl (.inr ⟨o, e _ _ h⟩)
  · exact .inr h

end L2

set_option maxHeartbeats 4000000
/-! The figures of numbers in a base: lists of digits, carries, order powers. Plain Lean, no library. -/
set_option linter.all false
namespace CF

/-- the figures of n in the base p, the lowest first -/
def digs (p n : Nat) : List Nat :=
  if h : 2 ≤ p ∧ 0 < n then n % p :: digs p (n / p) else []
termination_by n
decreasing_by exact Nat.div_lt_self h.2 h.1

theorem digs_zero (p : Nat) : digs p 0 = [] := by
  rw [digs, dif_neg (by omega)]
theorem digs_pos {p n : Nat} (hp : 2 ≤ p) (hn : 0 < n) : digs p n = n % p :: digs p (n / p) := by
  rw [digs, dif_pos ⟨hp, hn⟩]

theorem digs_len {p : Nat} (hp : 2 ≤ p) : ∀ (k n : Nat), n < 2 ^ k → (digs p n).length ≤ k
  | 0, n, h => by
    have e : n = 0 := by omega
    rw [e, digs_zero]; exact Nat.le_refl _
  | k + 1, n, h => by
    by_cases hn : 0 < n
    · rw [digs_pos hp hn, List.length_cons]
      have h2 : n / p < 2 ^ k := by
        have h3 : n / p ≤ n / 2 := Nat.div_le_div_left hp (by decide)
        have h4 : n / 2 < 2 ^ k := by rw [Nat.pow_succ] at h; omega
        omega
      have := digs_len hp k (n / p) h2
      omega
    · have e : n = 0 := by omega
      rw [e, digs_zero]; exact Nat.zero_le _

theorem digs_lt {p : Nat} (hp : 2 ≤ p) : ∀ (n : Nat), ∀ d ∈ digs p n, d < p := by
  intro n
  induction n using Nat.strongRecOn with
  | _ n ih =>
    intro d hd
    by_cases hn : 0 < n
    · rw [digs_pos hp hn] at hd
      rcases List.mem_cons.mp hd with e | h
      · rw [e]; exact Nat.mod_lt _ (by omega)
      · exact ih (n / p) (Nat.div_lt_self hn hp) d h
    · have e : n = 0 := by omega
      rw [e, digs_zero] at hd; cases hd

/-- what figures come to -/
def val (p : Nat) : List Nat → Nat
  | [] => 0
  | d :: r => d + p * val p r

theorem val_digs {p : Nat} (hp : 2 ≤ p) : ∀ n : Nat, val p (digs p n) = n := by
  intro n
  induction n using Nat.strongRecOn with
  | _ n ih =>
    by_cases hn : 0 < n
    · rw [digs_pos hp hn, val, ih (n / p) (Nat.div_lt_self hn hp)]
      exact Nat.mod_add_div n p
    · have e : n = 0 := by omega
      rw [e, digs_zero, val]

/-- the last figure is above nought -/
theorem digs_last {p : Nat} (hp : 2 ≤ p) : ∀ (n : Nat) (pre : List Nat) (d : Nat), digs p n = pre ++ [d] → 0 < d := by
  intro n
  induction n using Nat.strongRecOn with
  | _ n ih =>
    intro pre d e
    by_cases hn : 0 < n
    · rw [digs_pos hp hn] at e
      cases pre with
      | nil =>
        rw [List.nil_append] at e
        have h1 : n % p = d := (List.cons.inj e).1
        have h2 : digs p (n / p) = [] := (List.cons.inj e).2
        by_cases hq : 0 < n / p
        · rw [digs_pos hp hq] at h2; cases h2
        · have hz : n / p = 0 := Nat.eq_zero_of_not_pos hq
          have h3 := Nat.mod_add_div n p
          rw [hz, Nat.mul_zero, Nat.add_zero] at h3
          omega
      | cons x r =>
        rw [List.cons_append] at e
        exact ih (n / p) (Nat.div_lt_self hn hp) r d (List.cons.inj e).2
    · have e0 : n = 0 := by omega
      rw [e0, digs_zero] at e
      cases pre <;> cases e

theorem digs_drop {p : Nat} (hp : 2 ≤ p) : ∀ (k n : Nat), (digs p n).drop k = digs p (n / p ^ k)
  | 0, n => by rw [Nat.pow_zero, Nat.div_one, List.drop_zero]
  | k + 1, n => by
    by_cases hn : 0 < n
    · rw [digs_pos hp hn, List.drop_succ_cons, digs_drop hp k (n / p), Nat.div_div_eq_div_mul, Nat.pow_succ, Nat.mul_comm p]
    · have e : n = 0 := by omega
      rw [e, digs_zero, Nat.zero_div, digs_zero, List.drop_nil]

theorem digs_nil {p n : Nat} (hp : 2 ≤ p) : digs p n = [] ↔ n = 0 := by
  constructor
  · intro h
    by_cases hn : 0 < n
    · rw [digs_pos hp hn] at h; cases h
    · omega
  · intro h; rw [h, digs_zero]

theorem lt_len {p : Nat} (hp : 2 ≤ p) (k n : Nat) : k < (digs p n).length ↔ 0 < n / p ^ k := by
  have h := digs_drop hp k n
  have hl : ((digs p n).drop k).length = (digs p n).length - k := List.length_drop
  constructor
  · intro hk
    by_cases hq : 0 < n / p ^ k
    · exact hq
    · have e : n / p ^ k = 0 := Nat.eq_zero_of_not_pos hq
      rw [e, digs_zero] at h
      rw [h, List.length_nil] at hl
      omega
  · intro hq
    rw [digs_pos hp hq] at h
    rw [h, List.length_cons] at hl
    omega

theorem digs_at {p : Nat} (hp : 2 ≤ p) {k n : Nat} (hk : k < (digs p n).length) : (digs p n)[k]? = some (n / p ^ k % p) := by
  have hq := (lt_len hp k n).mp hk
  have h := digs_drop hp k n
  rw [digs_pos hp hq] at h
  have e : (digs p n)[k]? = ((digs p n).drop k)[0]? := by rw [List.getElem?_drop, Nat.add_zero]
  rw [e, h]; rfl

theorem div_pow_succ (n p k : Nat) : n / p ^ (k + 1) = n / p ^ k / p := by
  rw [Nat.pow_succ, Nat.div_div_eq_div_mul]

/-! ### the figures together -/
def sumd (p n : Nat) : Nat := (digs p n).sum
theorem sumd_zero (p : Nat) : sumd p 0 = 0 := by rw [sumd, digs_zero]; rfl
theorem sumd_step {p : Nat} (hp : 2 ≤ p) (n : Nat) : sumd p n = n % p + sumd p (n / p) := by
  by_cases hn : 0 < n
  · rw [sumd, digs_pos hp hn, List.sum_cons]; rfl
  · have e : n = 0 := by omega
    rw [e, Nat.zero_mod, Nat.zero_div, Nat.zero_add]
theorem sumd_small {p n : Nat} (hp : 2 ≤ p) (h : n < p) : sumd p n = n := by
  rw [sumd_step hp, Nat.mod_eq_of_lt h, Nat.div_eq_of_lt h, sumd_zero, Nat.add_zero]

/-! ### carries -/
/-- how often something is carried, with c carried in -/
def carr (p a b c : Nat) : Nat :=
  if h : 2 ≤ p ∧ (0 < a ∨ 0 < b) then (a % p + b % p + c) / p + carr p (a / p) (b / p) ((a % p + b % p + c) / p) else 0
termination_by a + b
decreasing_by
  have h1 : 2 ≤ p := h.1
  have ha : a / p ≤ a := Nat.div_le_self a p
  have hb : b / p ≤ b := Nat.div_le_self b p
  rcases h.2 with q | q
  · have := Nat.div_lt_self q h1; omega
  · have := Nat.div_lt_self q h1; omega

theorem carr_zero (p c : Nat) : carr p 0 0 c = 0 := by
  rw [carr, dif_neg (by omega)]
theorem carr_step {p a b : Nat} (c : Nat) (hp : 2 ≤ p) (h : 0 < a ∨ 0 < b) :
    carr p a b c = (a % p + b % p + c) / p + carr p (a / p) (b / p) ((a % p + b % p + c) / p) := by
  rw [carr, dif_pos ⟨hp, h⟩]

theorem sum_lt {p a b : Nat} (hp : 2 ≤ p) (h : 0 < a ∨ 0 < b) : a / p + b / p < a + b := by
  have ha : a / p ≤ a := Nat.div_le_self a p
  have hb : b / p ≤ b := Nat.div_le_self b p
  rcases h with q | q
  · have := Nat.div_lt_self q hp; omega
  · have := Nat.div_lt_self q hp; omega

theorem carr_comm {p : Nat} (hp : 2 ≤ p) : ∀ (n a b c : Nat), a + b = n → carr p a b c = carr p b a c := by
  intro n
  induction n using Nat.strongRecOn with
  | _ n ih =>
    intro a b c e
    by_cases h : 0 < a ∨ 0 < b
    · rw [carr_step c hp h, carr_step c hp h.symm, Nat.add_comm (b % p)]
      rw [ih (a / p + b / p) (by rw [← e]; exact sum_lt hp h) (a / p) (b / p) _ rfl]
    · have ea : a = 0 := by omega
      have eb : b = 0 := by omega
      rw [ea, eb]

theorem carry_le {p a b c : Nat} (hp : 2 ≤ p) (hc : c ≤ 1) : (a % p + b % p + c) / p ≤ 1 := by
  have h1 := Nat.mod_lt a (show 0 < p by omega)
  have h2 := Nat.mod_lt b (show 0 < p by omega)
  have h3 : a % p + b % p + c < 2 * p := by omega
  have h4 : (a % p + b % p + c) / p < 2 := Nat.div_lt_of_lt_mul (by rw [Nat.mul_comm]; exact h3)
  omega

/-- Kummer: the figures of both together, less those of the sum -/
theorem kummer {p : Nat} (hp : 2 ≤ p) : ∀ (n a b c : Nat), a + b = n → c ≤ 1 →
    sumd p a + sumd p b + c = sumd p (a + b + c) + (p - 1) * carr p a b c := by
  intro n
  induction n using Nat.strongRecOn with
  | _ n ih =>
    intro a b c e hc
    by_cases h : 0 < a ∨ 0 < b
    · have hc' := carry_le (a := a) (b := b) hp hc
      have q := ih (a / p + b / p) (by rw [← e]; exact sum_lt hp h) (a / p) (b / p) ((a % p + b % p + c) / p) rfl hc'
      rw [carr_step c hp h, sumd_step hp a, sumd_step hp b]
      generalize hd : (a % p + b % p + c) / p = d at *
      have hr := Nat.div_add_mod (a % p + b % p + c) p
      rw [hd] at hr
      have ea := Nat.div_add_mod a p
      have eb := Nat.div_add_mod b p
      have es : a + b + c = p * (a / p + b / p + d) + (a % p + b % p + c) % p := by
        rw [Nat.mul_add, Nat.mul_add]; omega
      have hlt := Nat.mod_lt (a % p + b % p + c) (show 0 < p by omega)
      have e1 : (a + b + c) % p = (a % p + b % p + c) % p := by
        rw [es, Nat.mul_add_mod, Nat.mod_mod]
      have e2 : (a + b + c) / p = a / p + b / p + d := by
        rw [es, Nat.mul_add_div (by omega), Nat.div_eq_of_lt hlt, Nat.add_zero]
      rw [sumd_step hp (a + b + c), e1, e2, Nat.mul_add]
      have hpd : p * d = (p - 1) * d + d := by
        have : p = (p - 1) + 1 := by omega
        rw [this, Nat.add_mul, Nat.one_mul]
        rfl
      omega
    · have ea : a = 0 := by omega
      have eb : b = 0 := by omega
      rw [ea, eb, carr_zero, sumd_zero, Nat.mul_zero, Nat.add_zero, Nat.add_zero, Nat.zero_add, sumd_small hp (by omega)]

/-! ### order powers -/
def ordp (p n : Nat) : Nat :=
  if h : 2 ≤ p ∧ 0 < n then n / p + ordp p (n / p) else 0
termination_by n
decreasing_by exact Nat.div_lt_self h.2 h.1
theorem ordp_zero (p : Nat) : ordp p 0 = 0 := by rw [ordp, dif_neg (by omega)]
theorem ordp_step {p : Nat} (hp : 2 ≤ p) (n : Nat) : ordp p n = n / p + ordp p (n / p) := by
  by_cases hn : 0 < n
  · rw [ordp, dif_pos ⟨hp, hn⟩]
  · have e : n = 0 := by omega
    rw [e, Nat.zero_div, ordp_zero]

/-- how often p goes into m (m above nought) -/
def vp (p m : Nat) : Nat :=
  if h : (2 ≤ p ∧ 0 < m) ∧ m % p = 0 then 1 + vp p (m / p) else 0
termination_by m
decreasing_by exact Nat.div_lt_self h.1.2 h.1.1
theorem vp_yes {p m : Nat} (hp : 2 ≤ p) (hm : 0 < m) (h : m % p = 0) : vp p m = 1 + vp p (m / p) := by
  rw [vp, dif_pos ⟨⟨hp, hm⟩, h⟩]
theorem vp_no {p m : Nat} (h : m % p ≠ 0) : vp p m = 0 := by
  rw [vp, dif_neg (fun q => h q.2)]

theorem ordp_succ {p : Nat} (hp : 2 ≤ p) : ∀ n : Nat, ordp p (n + 1) = ordp p n + vp p (n + 1) := by
  intro n
  induction n using Nat.strongRecOn with
  | _ n ih =>
    rw [ordp_step hp (n + 1), ordp_step hp n]
    have hp0 : 0 < p := by omega
    by_cases h : (n + 1) % p = 0
    · rw [vp_yes hp (by omega) h]
      have e1 := Nat.div_add_mod (n + 1) p
      rw [h, Nat.add_zero] at e1
      have hq : 0 < (n + 1) / p := by
        rcases Nat.eq_zero_or_pos ((n + 1) / p) with z | z
        · rw [z, Nat.mul_zero] at e1; omega
        · exact z
      have e2 : n / p = (n + 1) / p - 1 := by
        have e3 : n = p * ((n + 1) / p - 1) + (p - 1) := by
          have : p * ((n + 1) / p) = p * ((n + 1) / p - 1) + p := by
            have w : (n + 1) / p = ((n + 1) / p - 1) + 1 := by omega
            rw [w, Nat.mul_add, Nat.mul_one]; rfl
          omega
        have e4 : (p * ((n + 1) / p - 1) + (p - 1)) / p = (n + 1) / p - 1 := by
          rw [Nat.mul_add_div hp0, Nat.div_eq_of_lt (show p - 1 < p by omega), Nat.add_zero]
        rw [← e3] at e4; exact e4
      have e5 : (n + 1) / p = n / p + 1 := by omega
      have hn : 0 < n := by
        rcases Nat.eq_zero_or_pos n with z | z
        · rw [z, Nat.mod_eq_of_lt (by omega)] at h; omega
        · exact z
      have q := ih (n / p) (Nat.div_lt_self hn hp)
      rw [e5, q]; omega
    · rw [vp_no h]
      have e1 := Nat.div_add_mod (n + 1) p
      have e2 : n = p * ((n + 1) / p) + ((n + 1) % p - 1) := by omega
      have hlt := Nat.mod_lt (n + 1) hp0
      have e4 : (p * ((n + 1) / p) + ((n + 1) % p - 1)) / p = (n + 1) / p := by
        rw [Nat.mul_add_div hp0, Nat.div_eq_of_lt (show (n + 1) % p - 1 < p by omega), Nat.add_zero]
      rw [← e2] at e4
      rw [e4]; rfl

/-- Legendre -/
theorem legendre {p : Nat} (hp : 2 ≤ p) : ∀ n : Nat, ordp p n * (p - 1) + sumd p n = n := by
  intro n
  induction n using Nat.strongRecOn with
  | _ n ih =>
    by_cases hn : 0 < n
    · have q := ih (n / p) (Nat.div_lt_self hn hp)
      rw [ordp_step hp, sumd_step hp, Nat.add_mul]
      have e := Nat.div_add_mod n p
      have e2 : n / p * (p - 1) + n / p = p * (n / p) := by
        have : p = (p - 1) + 1 := by omega
        have w : p * (n / p) = (p - 1 + 1) * (n / p) := by rw [← this]
        rw [w, Nat.add_mul, Nat.one_mul, Nat.mul_comm]
      omega
    · have e : n = 0 := by omega
      rw [e, ordp_zero, sumd_zero]; simp

end CF

set_option linter.all false
namespace CF

/-- Pascal's triangle -/
def C : Nat → Nat → Nat
  | _, 0 => 1
  | 0, _ + 1 => 0
  | n + 1, k + 1 => C n k + C n (k + 1)
theorem C_zero (n : Nat) : C n 0 = 1 := by cases n <;> rfl
theorem C_nil (k : Nat) : C 0 (k + 1) = 0 := rfl
theorem C_step (n k : Nat) : C (n + 1) (k + 1) = C n k + C n (k + 1) := rfl
theorem C_gt : ∀ (n k : Nat), n < k → C n k = 0
  | _, 0, h => by omega
  | 0, k + 1, _ => rfl
  | n + 1, k + 1, h => by rw [C_step, C_gt n k (by omega), C_gt n (k + 1) (by omega)]
theorem C_self : ∀ n : Nat, C n n = 1
  | 0 => rfl
  | n + 1 => by rw [C_step, C_self n, C_gt n (n + 1) (by omega)]
theorem C_one : ∀ n : Nat, C n 1 = n
  | 0 => rfl
  | n + 1 => by rw [C_step, C_zero, C_one n, Nat.add_comm]
/-- so many times as are chosen: so many times as there are things, of one fewer -/
theorem absorb : ∀ (n k : Nat), (k + 1) * C (n + 1) (k + 1) = (n + 1) * C n k
  | 0, 0 => rfl
  | 0, k + 1 => by rw [C_step, C_nil, C_nil, Nat.mul_zero, Nat.mul_zero]
  | n + 1, 0 => by rw [C_one, C_zero, Nat.zero_add, Nat.one_mul, Nat.mul_one]
  | n + 1, k + 1 => by
    have h1 := absorb n k
    have h2 := absorb n (k + 1)
    rw [C_step (n + 1) (k + 1), Nat.mul_add, h2]
    have e : (k + 1 + 1) * C (n + 1) (k + 1) = (k + 1) * C (n + 1) (k + 1) + C (n + 1) (k + 1) := by rw [Nat.add_mul, Nat.one_mul]
    rw [e, h1]
    have e2 : (n + 1 + 1) * C (n + 1) (k + 1) = (n + 1) * C (n + 1) (k + 1) + C (n + 1) (k + 1) := by rw [Nat.add_mul (n + 1) 1, Nat.one_mul]
    rw [e2]
    have e3 : (n + 1) * C (n + 1) (k + 1) = (n + 1) * C n k + (n + 1) * C n (k + 1) := by rw [C_step, Nat.mul_add]
    omega
/-- one more chosen -/
theorem next_choice (n k : Nat) (h : k ≤ n) : (k + 1) * C n (k + 1) = (n - k) * C n k := by
  cases n with
  | zero =>
    have e : k = 0 := by omega
    rw [e, C_nil, Nat.mul_zero, Nat.sub_self, Nat.zero_mul]
  | succ n =>
    have h1 := absorb n k
    rw [C_step, Nat.mul_add] at h1
    cases k with
    | zero => rw [C_one, C_zero]; omega
    | succ k =>
      have h2 := absorb n k
      have h3 : (n + 1 + 1) * C (n + 1) (k + 1) = (k + 1 + 1) * C (n + 1 + 1) (k + 1 + 1) := (absorb (n + 1) (k + 1)).symm
      rw [C_step (n + 1) (k + 1), Nat.mul_add] at h3
      have e : (n + 1 + 1) * C (n + 1) (k + 1) = (n + 1 - (k + 1)) * C (n + 1) (k + 1) + (k + 1 + 1) * C (n + 1) (k + 1) := by
        rw [← Nat.add_mul]
        congr 1
        omega
      omega

def fac : Nat → Nat
  | 0 => 1
  | n + 1 => (n + 1) * fac n
theorem fac_pos : ∀ n : Nat, 0 < fac n
  | 0 => by decide
  | n + 1 => Nat.mul_pos (by omega) (fac_pos n)
theorem C_fac : ∀ (n k : Nat), k ≤ n → C n k * (fac k * fac (n - k)) = fac n
  | n, 0, _ => by rw [C_zero, fac, Nat.one_mul, Nat.one_mul, Nat.sub_zero]
  | 0, k + 1, h => by omega
  | n + 1, k + 1, h => by
    have ih := C_fac n k (by omega)
    have ab := absorb n k
    rw [show n + 1 - (k + 1) = n - k by omega, fac, fac]
    calc C (n + 1) (k + 1) * ((k + 1) * fac k * fac (n - k))
        = ((k + 1) * C (n + 1) (k + 1)) * (fac k * fac (n - k)) := by
          rw [← Nat.mul_assoc, ← Nat.mul_assoc, ← Nat.mul_assoc, Nat.mul_comm (C (n + 1) (k + 1)) (k + 1)]
      _ = (n + 1) * (C n k * (fac k * fac (n - k))) := by rw [ab, Nat.mul_assoc]
      _ = (n + 1) * fac n := by rw [ih]
theorem C_pos {n k : Nat} (h : k ≤ n) : 0 < C n k := by
  rcases Nat.eq_zero_or_pos (C n k) with z | z
  · have := C_fac n k h
    rw [z, Nat.zero_mul] at this
    have := fac_pos n
    omega
  · exact z
theorem C_symm {n k : Nat} (h : k ≤ n) : C n (n - k) = C n k := by
  have h1 := C_fac n k h
  have h2 := C_fac n (n - k) (by omega)
  rw [show n - (n - k) = k by omega, Nat.mul_comm (fac (n - k))] at h2
  exact Nat.eq_of_mul_eq_mul_right (Nat.mul_pos (fac_pos k) (fac_pos (n - k))) (h2.trans h1.symm)

/-! ### a prime -/
/-- what is used of a prime -/
def Pr (p : Nat) : Prop := 2 ≤ p ∧ ∀ i : Nat, 0 < i → i < p → Nat.Coprime p i
theorem Pr.dvd_mul {p a b : Nat} (hp : Pr p) (h : p ∣ a * b) : p ∣ a ∨ p ∣ b := by
  by_cases ha : p ∣ a
  · exact .inl ha
  · right
    have hr : 0 < a % p := Nat.pos_of_ne_zero fun z => ha (Nat.dvd_of_mod_eq_zero z)
    have hc := hp.2 (a % p) hr (Nat.mod_lt _ (by have := hp.1; omega))
    have hc2 : Nat.Coprime p a := by
      unfold Nat.Coprime at *
      rw [Nat.gcd_comm, ← Nat.gcd_rec] at *
      first | exact hc | (rw [Nat.gcd_comm]; exact hc)
    exact hc2.dvd_of_dvd_mul_left h
theorem Pr.dvd_C {p k : Nat} (hp : Pr p) (h0 : 0 < k) (h1 : k < p) : p ∣ C p k := by
  obtain ⟨j, rfl⟩ : ∃ j, k = j + 1 := ⟨k - 1, by omega⟩
  obtain ⟨m, rfl⟩ : ∃ m, p = m + 1 := ⟨p - 1, by omega⟩
  have ab := absorb m j
  exact (hp.2 (j + 1) h0 h1).dvd_of_dvd_mul_left ⟨C m j, ab⟩

/-- Lucas -/
def L (p n k : Nat) : Nat := C (n % p) (k % p) * C (n / p) (k / p)
theorem succ_mod_lt {p n : Nat} (hp : 0 < p) (h : n % p + 1 < p) : (n + 1) % p = n % p + 1 ∧ (n + 1) / p = n / p := by
  have e := Nat.div_add_mod n p
  have e2 : n + 1 = p * (n / p) + (n % p + 1) := by omega
  have e3 : (p * (n / p) + (n % p + 1)) % p = n % p + 1 := by rw [Nat.mul_add_mod, Nat.mod_eq_of_lt h]
  have e4 : (p * (n / p) + (n % p + 1)) / p = n / p := by rw [Nat.mul_add_div hp, Nat.div_eq_of_lt h, Nat.add_zero]
  rw [← e2] at e3 e4
  exact ⟨e3, e4⟩
theorem succ_mod_eq {p n : Nat} (hp : 0 < p) (h : n % p + 1 = p) : (n + 1) % p = 0 ∧ (n + 1) / p = n / p + 1 := by
  have e := Nat.div_add_mod n p
  have e2 : n + 1 = p * (n / p + 1) := by rw [Nat.mul_add, Nat.mul_one]; omega
  constructor
  · rw [e2, Nat.mul_mod_right]
  · have e3 : (p * (n / p + 1)) / p = n / p + 1 := Nat.mul_div_cancel_left _ hp
    rw [← e2] at e3
    exact e3

theorem lucas_step {p : Nat} (hp : Pr p) (n k : Nat) : L p (n + 1) (k + 1) % p = (L p n k + L p n (k + 1)) % p := by
  have hp0 : 0 < p := by have := hp.1; omega
  have hn := Nat.mod_lt n hp0
  have hk := Nat.mod_lt k hp0
  unfold L
  by_cases a : n % p + 1 < p
  · obtain ⟨n1, n2⟩ := succ_mod_lt hp0 a
    by_cases b : k % p + 1 < p
    · obtain ⟨k1, k2⟩ := succ_mod_lt hp0 b
      rw [n1, n2, k1, k2, C_step, Nat.add_mul]
    · obtain ⟨k1, k2⟩ := succ_mod_eq hp0 (show k % p + 1 = p by omega)
      rw [n1, n2, k1, k2, C_zero, C_zero, C_gt (n % p) (k % p) (by omega), Nat.zero_mul, Nat.zero_add]
  · obtain ⟨n1, n2⟩ := succ_mod_eq hp0 (show n % p + 1 = p by omega)
    by_cases b : k % p + 1 < p
    · obtain ⟨k1, k2⟩ := succ_mod_lt hp0 b
      rw [n1, n2, k1, k2, C_nil, Nat.zero_mul, ← Nat.add_mul, ← C_step, show n % p + 1 = p by omega, Nat.zero_mod]
      obtain ⟨c, e⟩ := hp.dvd_C (show 0 < k % p + 1 by omega) b
      rw [e, Nat.mul_assoc, Nat.mul_mod_right]
    · obtain ⟨k1, k2⟩ := succ_mod_eq hp0 (show k % p + 1 = p by omega)
      have en : n % p = k % p := by omega
      rw [n1, n2, k1, k2, C_zero, Nat.one_mul, C_zero, Nat.one_mul, en, C_self, Nat.one_mul, C_step]
theorem lucas {p : Nat} (hp : Pr p) : ∀ n k : Nat, C n k % p = L p n k % p
  | n, 0 => by
    unfold L
    rw [Nat.zero_mod, Nat.zero_div, C_zero, C_zero, C_zero]
  | 0, k + 1 => by
    have hp0 : 0 < p := by have := hp.1; omega
    unfold L
    rw [Nat.zero_mod, Nat.zero_div, C_nil]
    rcases Nat.eq_zero_or_pos ((k + 1) % p) with z | z
    · have hd : 0 < (k + 1) / p := by
        rcases Nat.eq_zero_or_pos ((k + 1) / p) with y | y
        · have := Nat.div_add_mod (k + 1) p
          rw [y, z, Nat.mul_zero] at this
          omega
        · exact y
      rw [C_gt 0 _ hd, Nat.mul_zero]
    · rw [C_gt 0 _ z, Nat.zero_mul]
  | n + 1, k + 1 => by
    rw [lucas_step hp, C_step, Nat.add_mod, lucas hp n k, lucas hp n (k + 1), ← Nat.add_mod]
end CF

set_option linter.all false
namespace CF

/-! ### how often p goes in, and what is left -/
/-- what is left of m without p -/
def up (p m : Nat) : Nat :=
  if h : (2 ≤ p ∧ 0 < m) ∧ m % p = 0 then up p (m / p) else m
termination_by m
decreasing_by exact Nat.div_lt_self h.1.2 h.1.1
theorem up_yes {p m : Nat} (hp : 2 ≤ p) (hm : 0 < m) (h : m % p = 0) : up p m = up p (m / p) := by
  rw [up, dif_pos ⟨⟨hp, hm⟩, h⟩]
theorem up_no {p m : Nat} (h : m % p ≠ 0) : up p m = m := by
  rw [up, dif_neg (fun q => h q.2)]
theorem div_pos_of {p m : Nat} (hm : 0 < m) (h : m % p = 0) : 0 < m / p := by
  rcases Nat.eq_zero_or_pos (m / p) with z | z
  · have := Nat.div_add_mod m p
    rw [h, z, Nat.mul_zero] at this
    omega
  · exact z
theorem vp_up {p : Nat} (hp : 2 ≤ p) : ∀ m : Nat, 0 < m → m = p ^ vp p m * up p m ∧ up p m % p ≠ 0 := by
  intro m
  induction m using Nat.strongRecOn with
  | _ m ih =>
    intro hm
    by_cases h : m % p = 0
    · have hd := div_pos_of hm h
      obtain ⟨e, n⟩ := ih (m / p) (Nat.div_lt_self hm hp) hd
      rw [vp_yes hp hm h, up_yes hp hm h]
      refine ⟨?_, n⟩
      have e2 := Nat.div_add_mod m p
      rw [h, Nat.add_zero] at e2
      rw [Nat.pow_add, Nat.pow_one, Nat.mul_assoc, ← e, e2]
    · rw [vp_no h, up_no h, Nat.pow_zero, Nat.one_mul]
      exact ⟨rfl, h⟩
theorem vp_unique {p : Nat} (hp : 2 ≤ p) : ∀ (e u : Nat), 0 < u → u % p ≠ 0 → vp p (p ^ e * u) = e ∧ up p (p ^ e * u) = u
  | 0, u, _, h => by rw [Nat.pow_zero, Nat.one_mul]; exact ⟨vp_no h, up_no h⟩
  | e + 1, u, hu, h => by
    have hp0 : 0 < p := by omega
    have e1 : p ^ (e + 1) * u = p * (p ^ e * u) := by rw [Nat.pow_succ, Nat.mul_comm (p ^ e) p, Nat.mul_assoc]
    have hm : 0 < p ^ e * u := Nat.mul_pos (Nat.pow_pos hp0) hu
    have hz : p ^ (e + 1) * u % p = 0 := by rw [e1, Nat.mul_mod_right]
    have hd : p ^ (e + 1) * u / p = p ^ e * u := by rw [e1, Nat.mul_div_cancel_left _ hp0]
    obtain ⟨i1, i2⟩ := vp_unique hp e u hu h
    have hpos : 0 < p ^ (e + 1) * u := by rw [e1]; exact Nat.mul_pos hp0 hm
    rw [vp_yes hp hpos hz, up_yes hp hpos hz, hd, i1, i2]
    exact ⟨Nat.add_comm 1 e, rfl⟩
theorem up_pos {p m : Nat} (hp : 2 ≤ p) (hm : 0 < m) : 0 < up p m := by
  have := (vp_up hp m hm).2
  rcases Nat.eq_zero_or_pos (up p m) with z | z
  · rw [z, Nat.zero_mod] at this; exact absurd rfl this
  · exact z
theorem Pr.mul_mod {p a b : Nat} (hp : Pr p) (ha : a % p ≠ 0) (hb : b % p ≠ 0) : a * b % p ≠ 0 := fun z => by
  rcases hp.dvd_mul (Nat.dvd_of_mod_eq_zero z) with h | h
  · exact ha (Nat.mod_eq_zero_of_dvd h)
  · exact hb (Nat.mod_eq_zero_of_dvd h)
theorem vp_mul {p a b : Nat} (hp : Pr p) (ha : 0 < a) (hb : 0 < b) : vp p (a * b) = vp p a + vp p b ∧ up p (a * b) = up p a * up p b := by
  obtain ⟨ea, na⟩ := vp_up hp.1 a ha
  obtain ⟨eb, nb⟩ := vp_up hp.1 b hb
  have e : a * b = p ^ (vp p a + vp p b) * (up p a * up p b) := by
    calc a * b = (p ^ vp p a * up p a) * (p ^ vp p b * up p b) := by rw [← ea, ← eb]
      _ = _ := by rw [Nat.pow_add, Nat.mul_assoc, Nat.mul_assoc, Nat.mul_left_comm (up p a)]
  have q := vp_unique hp.1 (vp p a + vp p b) (up p a * up p b) (Nat.mul_pos (up_pos hp.1 ha) (up_pos hp.1 hb)) (hp.mul_mod na nb)
  rw [← e] at q
  exact q
theorem vp_pos {p m : Nat} (hp : 2 ≤ p) (hm : 0 < m) : 0 < vp p m ↔ m % p = 0 := by
  constructor
  · intro h
    by_cases z : m % p = 0
    · exact z
    · rw [vp_no z] at h; omega
  · intro h
    rw [vp_yes hp hm h]; omega
theorem vp_zero_up {p m : Nat} (hp : 2 ≤ p) (hm : 0 < m) (h : vp p m = 0) : up p m = m := by
  have e := (vp_up hp m hm).1
  rw [h, Nat.pow_zero, Nat.one_mul] at e
  exact e.symm

/-! ### orders -/
theorem vp_fac {p : Nat} (hp : Pr p) : ∀ n : Nat, vp p (fac n) = ordp p n
  | 0 => by
    rw [ordp_zero]
    refine vp_no ?_
    show 1 % p ≠ 0
    rw [Nat.mod_eq_of_lt (by have := hp.1; omega)]
    decide
  | n + 1 => by
    rw [ordp_succ hp.1, fac, (vp_mul hp (by omega) (fac_pos n)).1, vp_fac hp n, Nat.add_comm]
theorem vp_C {p n k : Nat} (hp : Pr p) (h : k ≤ n) : vp p (C n k) + (ordp p k + ordp p (n - k)) = ordp p n := by
  have e := C_fac n k h
  have hq := Nat.mul_pos (fac_pos k) (fac_pos (n - k))
  rw [← vp_fac hp n, ← e, (vp_mul hp (C_pos h) hq).1, (vp_mul hp (fac_pos k) (fac_pos (n - k))).1, vp_fac hp, vp_fac hp]
theorem up_C {p n k : Nat} (hp : Pr p) (h : k ≤ n) : up p (C n k) * (up p (fac k) * up p (fac (n - k))) = up p (fac n) := by
  have e := C_fac n k h
  have hq := Nat.mul_pos (fac_pos k) (fac_pos (n - k))
  rw [← e, (vp_mul hp (C_pos h) hq).2, (vp_mul hp (fac_pos k) (fac_pos (n - k))).2]
/-- Kummer's: the power is the carries -/
theorem power_carr {p n k : Nat} (hp : Pr p) (h : k ≤ n) : vp p (C n k) = carr p k (n - k) 0 := by
  have e := vp_C hp h
  have l1 := legendre hp.1 n
  have l2 := legendre hp.1 k
  have l3 := legendre hp.1 (n - k)
  have ku := kummer hp.1 n k (n - k) 0 (by omega) (Nat.zero_le _)
  rw [Nat.add_zero, Nat.add_zero, show k + (n - k) = n by omega] at ku
  have hp1 : 0 < p - 1 := by have := hp.1; omega
  rw [← e, Nat.add_mul, Nat.add_mul] at l1
  refine Nat.eq_of_mul_eq_mul_right hp1 ?_
  rw [Nat.mul_comm (carr p k (n - k) 0)]
  omega

/-! ### what all numbers to n, multiplied, leave without p -/
/-- Wilson, of the primes at hand -/
def Wil (p : Nat) : Prop := fac (p - 1) % p = p - 1
theorem up_lt {p m : Nat} (hp : 2 ≤ p) (h0 : 0 < m) (h : m < p) : up p m = m := up_no (by rw [Nat.mod_eq_of_lt h]; omega)
/-- all numbers that p does not go into, up to n, multiplied -/
def facn (p : Nat) : Nat → Nat
  | 0 => 1
  | n + 1 => (if (n + 1) % p = 0 then 1 else n + 1) * facn p n
theorem up_fac {p : Nat} (hp : Pr p) : ∀ n : Nat, up p (fac n) = facn p n * up p (fac (n / p))
  | 0 => by
    rw [Nat.zero_div]
    show up p 1 = 1 * up p 1
    rw [Nat.one_mul]
  | n + 1 => by
    have hp0 : 0 < p := by have := hp.1; omega
    rw [fac, (vp_mul hp (by omega) (fac_pos n)).2, up_fac hp n, facn]
    by_cases h : (n + 1) % p = 0
    · have hm : n % p + 1 = p := by
        rcases Nat.lt_or_ge (n % p + 1) p with q | q
        · rw [(succ_mod_lt hp0 q).1] at h; omega
        · have := Nat.mod_lt n hp0; omega
      rw [if_pos h, Nat.one_mul, (succ_mod_eq hp0 hm).2, fac, (vp_mul hp (Nat.succ_pos (n / p)) (fac_pos (n / p))).2, up_yes hp.1 (by omega) h, (succ_mod_eq hp0 hm).2, Nat.mul_left_comm]
    · have hm : n % p + 1 < p := by
        rcases Nat.lt_or_ge (n % p + 1) p with q | q
        · exact q
        · have hq : n % p + 1 = p := by have := Nat.mod_lt n hp0; omega
          exact absurd (succ_mod_eq hp0 hq).1 h
      rw [if_neg h, up_no h, (succ_mod_lt hp0 hm).2, Nat.mul_assoc]
theorem facn_mod {p : Nat} (hp : Pr p) (hw : Wil p) : ∀ n : Nat, facn p n % p = (p - 1) ^ (n / p) * fac (n % p) % p
  | 0 => by
    rw [Nat.zero_div, Nat.zero_mod]
    rfl
  | n + 1 => by
    have hp0 : 0 < p := by have := hp.1; omega
    have ih := facn_mod hp hw n
    rw [facn]
    by_cases h : (n + 1) % p = 0
    · have hm : n % p + 1 = p := by
        rcases Nat.lt_or_ge (n % p + 1) p with q | q
        · rw [(succ_mod_lt hp0 q).1] at h; omega
        · have := Nat.mod_lt n hp0; omega
      have e : n % p = p - 1 := by omega
      rw [if_pos h, Nat.one_mul, ih, h, (succ_mod_eq hp0 hm).2, e, Nat.mul_mod, show fac (p - 1) % p = p - 1 from hw, Nat.pow_succ]
      show _ = (p - 1) ^ (n / p) * (p - 1) * 1 % p
      rw [Nat.mul_one, Nat.mul_mod ((p - 1) ^ (n / p)) (p - 1), Nat.mod_eq_of_lt (show p - 1 < p by omega)]
    · have hm : n % p + 1 < p := by
        rcases Nat.lt_or_ge (n % p + 1) p with q | q
        · exact q
        · have hq : n % p + 1 = p := by have := Nat.mod_lt n hp0; omega
          exact absurd (succ_mod_eq hp0 hq).1 h
      have e1 := (succ_mod_lt hp0 hm).1
      rw [if_neg h, Nat.mul_mod, ih, e1, (succ_mod_lt hp0 hm).2, ← e1, fac.eq_def ((n + 1) % p)]
      rw [e1]
      show (n % p + 1) * ((p - 1) ^ (n / p) * fac (n % p) % p) % p = (p - 1) ^ (n / p) * ((n % p + 1) * fac (n % p)) % p
      rw [Nat.mul_mod_mod, Nat.mul_left_comm]
end CF

set_option linter.all false
namespace CF

/-! ### free places -/
theorem fac_free {p : Nat} (hp : Pr p) : ∀ a : Nat, a < p → fac a % p ≠ 0
  | 0, _ => by
    show 1 % p ≠ 0
    rw [Nat.mod_eq_of_lt (by have := hp.1; omega)]
    decide
  | a + 1, h => by
    rw [fac]
    exact hp.mul_mod (by rw [Nat.mod_eq_of_lt h]; omega) (fac_free hp a (by omega))
theorem C_free {p a b : Nat} (hp : Pr p) (hb : b ≤ a) (ha : a < p) : C a b % p ≠ 0 := fun z => by
  have e := C_fac a b hb
  obtain ⟨c, hc⟩ := Nat.dvd_of_mod_eq_zero z
  have := fac_free hp a ha
  rw [← e, hc, Nat.mul_assoc, Nat.mul_mod_right] at this
  exact this rfl
/-- the place k of the row n is free -/
def Fr (p n k : Nat) : Prop := C n k % p ≠ 0
instance (p n k : Nat) : Decidable (Fr p n k) := inferInstanceAs (Decidable (_ ≠ _))
theorem fr_step {p : Nat} (hp : Pr p) (n k : Nat) : Fr p n k ↔ k % p ≤ n % p ∧ Fr p (n / p) (k / p) := by
  have hp0 : 0 < p := by have := hp.1; omega
  unfold Fr
  rw [lucas hp n k, L]
  constructor
  · intro h
    have hb : k % p ≤ n % p := by
      rcases Nat.lt_or_ge (n % p) (k % p) with q | q
      · rw [C_gt _ _ q, Nat.zero_mul, Nat.zero_mod] at h; exact absurd rfl h
      · exact q
    refine ⟨hb, fun z => h ?_⟩
    rw [Nat.mul_mod, z, Nat.mul_zero, Nat.zero_mod]
  · rintro ⟨h1, h2⟩
    exact hp.mul_mod (C_free hp h1 (Nat.mod_lt _ hp0)) h2
theorem fr_zero {p : Nat} (hp : Pr p) (n : Nat) : Fr p n 0 := by
  unfold Fr
  rw [C_zero, Nat.mod_eq_of_lt (by have := hp.1; omega)]
  decide
theorem fr_self {p : Nat} (hp : Pr p) (n : Nat) : Fr p n n := by
  unfold Fr
  rw [C_self, Nat.mod_eq_of_lt (by have := hp.1; omega)]
  decide
theorem fr_le {p n k : Nat} (h : Fr p n k) : k ≤ n := by
  rcases Nat.lt_or_ge n k with q | q
  · unfold Fr at h
    rw [C_gt _ _ q, Nat.zero_mod] at h
    exact absurd rfl h
  · exact q
/-- how many free places are less than k -/
def cnt (p n : Nat) : Nat → Nat
  | 0 => 0
  | k + 1 => cnt p n k + if Fr p n k then 1 else 0
theorem cnt_step {p : Nat} (hp : Pr p) (n : Nat) : ∀ k : Nat, cnt p n k = (n % p + 1) * cnt p (n / p) (k / p) + if Fr p (n / p) (k / p) then min (k % p) (n % p + 1) else 0
  | 0 => by
    rw [Nat.zero_div, Nat.zero_mod, Nat.zero_min]
    simp [cnt]
  | k + 1 => by
    have hp0 : 0 < p := by have := hp.1; omega
    have hn := Nat.mod_lt n hp0
    have ih := cnt_step hp n k
    rw [cnt, ih]
    have fs := fr_step hp n k
    rcases Nat.lt_or_ge (k % p + 1) p with q | q
    · obtain ⟨k1, k2⟩ := succ_mod_lt hp0 q
      rw [k1, k2]
      by_cases f : Fr p (n / p) (k / p)
      · rw [if_pos f, if_pos f]
        by_cases g : k % p ≤ n % p
        · rw [if_pos (fs.mpr ⟨g, f⟩), Nat.min_eq_left (by omega), Nat.min_eq_left (by omega), Nat.add_assoc]
        · rw [if_neg (fun z => g (fs.mp z).1), Nat.min_eq_right (by omega), Nat.min_eq_right (by omega)]
          rfl
      · rw [if_neg f, if_neg f, if_neg (fun z => f (fs.mp z).2)]
    · have hm : k % p + 1 = p := by have := Nat.mod_lt k hp0; omega
      obtain ⟨k1, k2⟩ := succ_mod_eq hp0 hm
      rw [k1, k2, cnt, Nat.zero_min]
      have ite0 : (if Fr p (n / p) (k / p + 1) then 0 else 0) = 0 := by split <;> rfl
      rw [ite0, Nat.add_zero, Nat.mul_add]
      by_cases f : Fr p (n / p) (k / p)
      · rw [if_pos f, if_pos f, Nat.mul_one]
        by_cases g : k % p ≤ n % p
        · rw [if_pos (fs.mpr ⟨g, f⟩), Nat.min_eq_left (by omega)]
          omega
        · rw [if_neg (fun z => g (fs.mp z).1), Nat.min_eq_right (by omega), Nat.add_zero]
      · rw [if_neg f, if_neg f, if_neg (fun z => f (fs.mp z).2), Nat.mul_zero]
theorem cnt_mono {p n : Nat} : ∀ {j k : Nat}, j ≤ k → cnt p n j ≤ cnt p n k
  | j, 0, h => by
    have e : j = 0 := by omega
    rw [e]; exact Nat.le_refl _
  | j, k + 1, h => by
    rcases Nat.lt_or_ge j (k + 1) with q | q
    · have := cnt_mono (p := p) (n := n) (show j ≤ k by omega)
      rw [cnt]; omega
    · have e : j = k + 1 := by omega
      rw [e]; exact Nat.le_refl _
theorem cnt_beyond {p n : Nat} : ∀ {k : Nat}, n < k → cnt p n k = cnt p n (n + 1)
  | 0, h => by omega
  | k + 1, h => by
    rcases Nat.lt_or_ge n k with q | q
    · rw [cnt, cnt_beyond q, if_neg (fun z => absurd (fr_le z) (by omega)), Nat.add_zero]
    · have e : k = n := by omega
      rw [e]
/-- how many places of the row n are free -/
def tot (p n : Nat) : Nat := cnt p n (n + 1)
theorem tot_zero {p : Nat} (hp : Pr p) : tot p 0 = 1 := by
  show 0 + (if Fr p 0 0 then 1 else 0) = 1
  rw [if_pos (fr_zero hp 0)]
theorem tot_step {p : Nat} (hp : Pr p) (n : Nat) : tot p n = (n % p + 1) * tot p (n / p) := by
  have hp0 : 0 < p := by have := hp.1; omega
  have hn := Nat.mod_lt n hp0
  unfold tot
  rw [cnt_step hp n (n + 1)]
  rcases Nat.lt_or_ge (n % p + 1) p with q | q
  · obtain ⟨k1, k2⟩ := succ_mod_lt hp0 q
    rw [k1, k2, if_pos (fr_self hp _), Nat.min_self, cnt, if_pos (fr_self hp _), Nat.mul_add, Nat.mul_one]
  · have hm : n % p + 1 = p := by omega
    obtain ⟨k1, k2⟩ := succ_mod_eq hp0 hm
    rw [k1, k2, Nat.zero_min]
    have ite0 : (if Fr p (n / p) (n / p + 1) then 0 else 0) = 0 := by split <;> rfl
    rw [ite0, Nat.add_zero]
theorem tot_pos {p : Nat} (hp : Pr p) (n : Nat) : 0 < tot p n := by
  unfold tot
  rw [cnt, if_pos (fr_self hp n)]
  omega
theorem cnt_lt_of_fr {p n k : Nat} (h : Fr p n k) {j : Nat} (hj : k < j) : cnt p n k < cnt p n j := by
  have := cnt_mono (p := p) (n := n) (show k + 1 ≤ j by omega)
  rw [cnt, if_pos h] at this
  omega
/-- free places with the same number ahead are one -/
theorem fr_inj {p n j k : Nat} (hj : Fr p n j) (hk : Fr p n k) (e : cnt p n j = cnt p n k) : j = k := by
  rcases Nat.lt_trichotomy j k with q | q | q
  · have := cnt_lt_of_fr hj q; omega
  · exact q
  · have := cnt_lt_of_fr hk q; omega

/-! ### bare rows, full rows -/
theorem tot_le {p : Nat} (hp : Pr p) (n : Nat) : tot p n ≤ n + 1 := by
  unfold tot
  have : ∀ k : Nat, cnt p n k ≤ k := by
    intro k
    induction k with
    | zero => exact Nat.le_refl _
    | succ k ih => rw [cnt]; split <;> omega
  exact this (n + 1)
theorem tot_two {p n : Nat} (hp : Pr p) (h : 0 < n) : 2 ≤ tot p n := by
  have h1 := cnt_lt_of_fr (fr_zero hp n) h
  unfold tot
  rw [cnt, if_pos (fr_self hp n)]
  omega
theorem tot_small {p n : Nat} (hp : Pr p) (h : n < p) : tot p n = n + 1 := by
  rw [tot_step hp, Nat.mod_eq_of_lt h, Nat.div_eq_of_lt h, tot_zero hp, Nat.mul_one]
theorem bare_iff {p : Nat} (hp : Pr p) : ∀ n : Nat, tot p n = n + 1 ↔ up p (n + 1) < p := by
  intro n
  induction n using Nat.strongRecOn with
  | _ n ih =>
    have hp2 := hp.1
    have hp0 : 0 < p := by omega
    rcases Nat.lt_or_ge n p with q | q
    · constructor
      · intro _
        rcases Nat.lt_or_ge (n + 1) p with r | r
        · rw [up_lt hp2 (by omega) r]; exact r
        · have e : n + 1 = p := by omega
          rw [e, up_yes hp2 hp0 (Nat.mod_self p), Nat.div_self hp0, up_lt hp2 (by omega) (by omega)]
          omega
      · intro _
        exact tot_small hp q
    · have hN : 0 < n / p := Nat.div_pos q hp0
      have hlt : n / p < n := Nat.div_lt_self (by omega) hp2
      have e := Nat.div_add_mod n p
      have ha := Nat.mod_lt n hp0
      have i := ih (n / p) hlt
      have tl := tot_le hp (n / p)
      rw [tot_step hp]
      rcases Nat.lt_or_ge (n % p + 1) p with r | r
      · have hz : (n + 1) % p ≠ 0 := by rw [(succ_mod_lt hp0 r).1]; omega
        rw [up_no hz]
        constructor
        · intro h
          exfalso
          have h1 : (n % p + 1) * tot p (n / p) ≤ (n % p + 1) * (n / p + 1) := Nat.mul_le_mul_left _ tl
          have h2 : (n % p + 1) * (n / p + 1) = (n % p + 1) * (n / p) + (n % p + 1) := by rw [Nat.mul_add, Nat.mul_one]
          have h3 : (n % p + 1 + 1) * (n / p) ≤ p * (n / p) := Nat.mul_le_mul_right _ r
          have h4 : (n % p + 1 + 1) * (n / p) = (n % p + 1) * (n / p) + n / p := by rw [Nat.add_mul (n % p + 1) 1, Nat.one_mul]
          omega
        · intro h
          exfalso
          omega
      · have hm : n % p + 1 = p := by omega
        obtain ⟨k1, k2⟩ := succ_mod_eq hp0 hm
        rw [up_yes hp2 (by omega) k1, k2, ← i, hm]
        have e2 : n + 1 = p * (n / p + 1) := by rw [Nat.mul_add, Nat.mul_one]; omega
        constructor
        · intro h
          rw [e2] at h
          exact Nat.eq_of_mul_eq_mul_left hp0 h
        · intro h
          rw [h]
          exact e2.symm
theorem full_iff {p : Nat} (hp : Pr p) : ∀ n : Nat, 0 < n → (tot p n = 2 ↔ up p n = 1) := by
  intro n
  induction n using Nat.strongRecOn with
  | _ n ih =>
    intro hn
    have hp2 := hp.1
    have hp0 : 0 < p := by omega
    rcases Nat.lt_or_ge n p with q | q
    · rw [tot_small hp q, up_lt hp2 hn q]
      omega
    · have hN : 0 < n / p := Nat.div_pos q hp0
      have hlt : n / p < n := Nat.div_lt_self (by omega) hp2
      have i := ih (n / p) hlt hN
      have t2 := tot_two hp hN
      rw [tot_step hp]
      rcases Nat.eq_zero_or_pos (n % p) with z | z
      · rw [z, Nat.zero_add, Nat.one_mul, up_yes hp2 hn z]
        exact i
      · rw [up_no (by omega)]
        constructor
        · intro h
          exfalso
          have h1 : 2 * 2 ≤ (n % p + 1) * tot p (n / p) := Nat.mul_le_mul (by omega) t2
          omega
        · intro h
          omega
end CF

set_option linter.all false
namespace CF

/-! ### choices of any whole number of chosen ones -/
def Cz (n : Nat) (s : Int) : Nat := if 0 ≤ s then C n s.toNat else 0
theorem Cz_nat (n k : Nat) : Cz n (k : Int) = C n k := by
  unfold Cz
  rw [if_pos (by omega), Int.toNat_natCast]
theorem Cz_neg {n : Nat} {s : Int} (h : s < 0) : Cz n s = 0 := by
  unfold Cz
  rw [if_neg (by omega)]
theorem Cz_gt {n : Nat} {s : Int} (h : (n : Int) < s) : Cz n s = 0 := by
  obtain ⟨k, rfl⟩ := Int.eq_ofNat_of_zero_le (show 0 ≤ s by omega)
  rw [Cz_nat]
  exact C_gt _ _ (by omega)
theorem Cz_symm (n : Nat) (s : Int) : Cz n ((n : Int) - s) = Cz n s := by
  by_cases h : s < 0
  · rw [Cz_neg h, Cz_gt (by omega)]
  by_cases h2 : (n : Int) < s
  · rw [Cz_gt h2, Cz_neg (by omega)]
  obtain ⟨k, rfl⟩ := Int.eq_ofNat_of_zero_le (show 0 ≤ s by omega)
  have e : (n : Int) - (k : Int) = ((n - k : Nat) : Int) := by omega
  rw [e, Cz_nat, Cz_nat]
  exact C_symm (by omega)
theorem Cz_step (n : Nat) (s : Int) : Cz (n + 1) s = Cz n s + Cz n (s - 1) := by
  by_cases h : s < 0
  · rw [Cz_neg h, Cz_neg h, Cz_neg (by omega)]
  obtain ⟨k, rfl⟩ := Int.eq_ofNat_of_zero_le (show 0 ≤ s by omega)
  cases k with
  | zero =>
    rw [Cz_nat, Cz_nat, C_zero, C_zero, Cz_neg (by omega)]
  | succ k =>
    have e : ((k + 1 : Nat) : Int) - 1 = (k : Int) := by omega
    rw [e, Cz_nat, Cz_nat, Cz_nat, C_step, Nat.add_comm]
theorem Cz_absorb (n : Nat) (s : Int) : s * (Cz (n + 1) s : Int) = ((n + 1 : Nat) : Int) * (Cz n (s - 1) : Int) := by
  by_cases h : s < 0
  · rw [Cz_neg h, Cz_neg (by omega)]; simp
  obtain ⟨k, rfl⟩ := Int.eq_ofNat_of_zero_le (show 0 ≤ s by omega)
  cases k with
  | zero => rw [Cz_neg (n := n) (by omega)]; simp
  | succ k =>
    have e : ((k + 1 : Nat) : Int) - 1 = (k : Int) := by omega
    rw [e, Cz_nat, Cz_nat, ← Int.natCast_mul, ← Int.natCast_mul, absorb]
theorem Cz_pos {n : Nat} {s : Int} (h0 : 0 ≤ s) (h1 : s ≤ n) : 0 < Cz n s := by
  obtain ⟨k, rfl⟩ := Int.eq_ofNat_of_zero_le h0
  rw [Cz_nat]
  exact C_pos (by omega)
theorem C_min {n k : Nat} (h : k ≤ n) : C n (min k (n - k)) = C n k := by
  rcases Nat.le_total k (n - k) with q | q
  · rw [Nat.min_eq_left q]
  · rw [Nat.min_eq_right q, C_symm h]
theorem C_next_div {n i : Nat} (h : i ≤ n) : C n i * (n - i) / (i + 1) = C n (i + 1) := by
  rw [Nat.mul_comm, ← next_choice n i h, Nat.mul_div_cancel_left _ (by omega)]
/-- the rest, of any whole number of chosen ones, without the lowest figures -/
theorem Cz_lucas {p : Nat} (hp : Pr p) (n : Nat) (s : Int) : Cz n s % p = Cz (n % p) (s % (p : Int)) * (Cz (n / p) (s / (p : Int)) % p) % p := by
  have hp0 : 0 < p := by have := hp.1; omega
  by_cases h : s < 0
  · have h2 : s / (p : Int) < 0 := Int.ediv_neg_of_neg_of_pos h (by omega)
    rw [Cz_neg h, Cz_neg h2, Nat.zero_mod, Nat.mul_zero, Nat.zero_mod]
  obtain ⟨k, rfl⟩ := Int.eq_ofNat_of_zero_le (show 0 ≤ s by omega)
  rw [← Int.natCast_emod, ← Int.natCast_ediv, Cz_nat, Cz_nat, Cz_nat, lucas hp, L, Nat.mul_mod_mod]

/-! ### free places, figure by figure -/
theorem fr_digs {p : Nat} (hp : Pr p) : ∀ (m n k : Nat), Fr p n k ↔ (∀ i < m, k / p ^ i % p ≤ n / p ^ i % p) ∧ Fr p (n / p ^ m) (k / p ^ m)
  | 0, n, k => by
    rw [Nat.pow_zero, Nat.div_one, Nat.div_one]
    exact ⟨fun h => ⟨fun i hi => by omega, h⟩, fun h => h.2⟩
  | m + 1, n, k => by
    rw [fr_digs hp m n k, fr_step hp (n / p ^ m) (k / p ^ m), ← div_pow_succ, ← div_pow_succ]
    constructor
    · rintro ⟨h1, h2, h3⟩
      refine ⟨fun i hi => ?_, h3⟩
      rcases Nat.lt_or_ge i m with q | q
      · exact h1 i q
      · have e : i = m := by omega
        rw [e]; exact h2
    · rintro ⟨h1, h2⟩
      exact ⟨fun i hi => h1 i (by omega), h1 m (by omega), h2⟩
/-- no free place from f on below the next multiple, where a figure of f is too great -/
theorem gap {p : Nat} (hp : Pr p) {n f i : Nat} (hd : n / p ^ i % p < f % p ^ (i + 1) / p ^ i) {g : Nat} (h1 : f ≤ g) (h2 : g < f - f % p ^ (i + 1) + p ^ (i + 1)) : ¬ Fr p n g := by
  intro hF
  have hp0 : 0 < p := by have := hp.1; omega
  have hq : 0 < p ^ (i + 1) := Nat.pow_pos hp0
  have hqi : 0 < p ^ i := Nat.pow_pos hp0
  have hg := ((fr_digs hp (i + 1) n g).mp hF).1 i (by omega)
  have e1 := Nat.div_add_mod f (p ^ (i + 1))
  have e2 := Nat.div_add_mod g (p ^ (i + 1))
  have hb1 : f / p ^ (i + 1) ≤ g / p ^ (i + 1) := Nat.div_le_div_right h1
  have hb2 : g / p ^ (i + 1) < f / p ^ (i + 1) + 1 := by
    rw [Nat.div_lt_iff_lt_mul hq, Nat.add_mul, Nat.one_mul, Nat.mul_comm]
    omega
  have eq : g / p ^ (i + 1) = f / p ^ (i + 1) := by omega
  rw [eq] at e2
  have hle : f % p ^ (i + 1) ≤ g % p ^ (i + 1) := by omega
  have hle2 : f % p ^ (i + 1) / p ^ i ≤ g % p ^ (i + 1) / p ^ i := Nat.div_le_div_right hle
  have e3 : g % p ^ (i + 1) / p ^ i = g / p ^ i % p := by
    rw [Nat.pow_succ, Nat.mod_mul_right_div_self]
  omega
theorem dig_at {p f i : Nat} : f % p ^ (i + 1) / p ^ i = f / p ^ i % p := by
  rw [Nat.pow_succ, Nat.mod_mul_right_div_self]
theorem up_digs {p f i : Nat} (hp0 : 0 < p) {j : Nat} (hj : j < i + 1) : (f - f % p ^ (i + 1) + p ^ (i + 1)) / p ^ j % p = 0 := by
  have e1 := Nat.div_add_mod f (p ^ (i + 1))
  have e2 : f - f % p ^ (i + 1) + p ^ (i + 1) = p ^ (i + 1) * (f / p ^ (i + 1) + 1) := by
    rw [Nat.mul_add, Nat.mul_one]; omega
  obtain ⟨t, ht⟩ : ∃ t, i + 1 = j + (t + 1) := ⟨i - j, by omega⟩
  rw [e2, ht, Nat.pow_add, Nat.mul_assoc, Nat.mul_div_cancel_left _ (Nat.pow_pos hp0), Nat.pow_succ, Nat.mul_comm (p ^ t) p, Nat.mul_assoc, Nat.mul_mod_right]
theorem fr_nil {p : Nat} (hp : Pr p) (k : Nat) : Fr p 0 k ↔ k = 0 := by
  constructor
  · intro h
    have := fr_le h
    omega
  · rintro rfl
    exact fr_zero hp 0
/-- ahead: what is still to come -/
theorem ahead_step {p : Nat} (hp : Pr p) (w a N K : Nat) : w * cnt p N K + (if Fr p N K then a else 0)
    = w * (N % p + 1) * cnt p (N / p) (K / p) + (if Fr p (N / p) (K / p) then (if N % p < K % p then w * (N % p + 1) else w * (K % p) + a) else 0) := by
  rw [cnt_step hp N K, Nat.mul_add, Nat.mul_assoc]
  have fs := fr_step hp N K
  by_cases f : Fr p (N / p) (K / p)
  · rw [if_pos f, if_pos f]
    by_cases g : N % p < K % p
    · rw [if_pos g, if_neg (fun z => absurd (fs.mp z).1 (by omega)), Nat.min_eq_right (by omega), Nat.add_zero]
    · rw [if_neg g, if_pos (fs.mpr ⟨by omega, f⟩), Nat.min_eq_left (by omega), Nat.add_assoc]
  · rw [if_neg f, if_neg f, if_neg (fun z => f (fs.mp z).2), Nat.mul_zero]
/-- the free place with a number: one figure more -/
theorem at_step {p : Nat} (hp : Pr p) {N J l : Nat} (hF : Fr p (N / p) J) (hc : cnt p (N / p) J = l / (N % p + 1)) : Fr p N (l % (N % p + 1) + p * J) ∧ cnt p N (l % (N % p + 1) + p * J) = l := by
  have hp0 : 0 < p := by have := hp.1; omega
  have h1 : l % (N % p + 1) < N % p + 1 := Nat.mod_lt _ (by omega)
  have h2 := Nat.mod_lt N hp0
  have e1 : (l % (N % p + 1) + p * J) % p = l % (N % p + 1) := by rw [Nat.add_mul_mod_self_left, Nat.mod_eq_of_lt (by omega)]
  have e2 : (l % (N % p + 1) + p * J) / p = J := by rw [Nat.add_mul_div_left _ _ hp0, Nat.div_eq_of_lt (by omega), Nat.zero_add]
  constructor
  · rw [fr_step hp, e1, e2]
    exact ⟨by omega, hF⟩
  · rw [cnt_step hp, e1, e2, if_pos hF, hc, Nat.min_eq_left (by omega)]
    exact Nat.div_add_mod l (N % p + 1)
theorem cnt_lt_tot {p n k : Nat} (h : Fr p n k) : cnt p n k < tot p n := cnt_lt_of_fr h (by have := fr_le h; omega)
theorem cnt_le_tot {p n : Nat} (k : Nat) : cnt p n k ≤ tot p n := by
  rcases Nat.lt_or_ge n k with q | q
  · rw [cnt_beyond q]; exact Nat.le_refl _
  · exact cnt_mono (by omega)
/-- between two places with as many ahead none is free -/
theorem no_free {p n j k : Nat} (e : cnt p n j = cnt p n k) {i : Nat} (h1 : j ≤ i) (h2 : i < k) : ¬ Fr p n i := fun h => by
  have a := cnt_mono (p := p) (n := n) h1
  have b := cnt_lt_of_fr h h2
  omega
theorem cnt_gap {p n : Nat} : ∀ {k j : Nat}, j ≤ k → (∀ i, j ≤ i → i < k → ¬ Fr p n i) → cnt p n k = cnt p n j
  | 0, j, h, _ => by
    have e : j = 0 := by omega
    rw [e]
  | k + 1, j, h, g => by
    rcases Nat.lt_or_ge j (k + 1) with q | q
    · rw [cnt, if_neg (g k (by omega) (by omega)), Nat.add_zero]
      exact cnt_gap (by omega) fun i h1 h2 => g i h1 (by omega)
    · have e : j = k + 1 := by omega
      rw [e]

/-! ### the last -/
theorem pow_even {p : Nat} (hp : 2 ≤ p) : ∀ k : Nat, (p - 1) ^ k % p = if k % 2 = 1 then p - 1 else 1
  | 0 => by
    rw [Nat.pow_zero, if_neg (by decide), Nat.mod_eq_of_lt (by omega)]
  | k + 1 => by
    have ih := pow_even hp k
    have sq : (p - 1) * (p - 1) % p = 1 := by
      obtain ⟨q, rfl⟩ : ∃ q, p = q + 2 := ⟨p - 2, by omega⟩
      have e : (q + 2 - 1) * (q + 2 - 1) = 1 + (q + 2) * q := by
        rw [show q + 2 - 1 = q + 1 by omega, Nat.add_mul, Nat.mul_add, Nat.mul_one, Nat.one_mul, Nat.add_mul]
        omega
      rw [e, Nat.add_mul_mod_self_left, Nat.mod_eq_of_lt (by omega)]
    rw [Nat.pow_succ, Nat.mul_mod, ih, Nat.mod_eq_of_lt (show p - 1 < p by omega)]
    by_cases h : k % 2 = 1
    · rw [if_pos h, if_neg (by omega), sq]
    · rw [if_neg h, if_pos (by omega), Nat.one_mul, Nat.mod_eq_of_lt (by omega)]
theorem up_fac_mod {p : Nat} (hp : Pr p) (hw : Wil p) (n : Nat) : up p (fac n) % p = (fac (n % p) * (if n / p % 2 = 1 then p - 1 else 1)) * up p (fac (n / p)) % p := by
  rw [up_fac hp n, Nat.mul_mod, facn_mod hp hw n, ← Nat.mul_mod, Nat.mul_comm ((p - 1) ^ (n / p))]
  rw [Nat.mul_mod, Nat.mul_mod (fac (n % p)), pow_even hp.1, Nat.mul_mod_mod, Nat.mod_mul_mod, Nat.mul_assoc, Nat.mod_mul_mod, ← Nat.mul_assoc]
theorem fac_up_ne {p : Nat} (hp : Pr p) (n : Nat) : up p (fac n) % p ≠ 0 := (vp_up hp.1 _ (fac_pos n)).2
/-- one quotient alone fits -/
theorem quot_one {p x y l : Nat} (hp : Pr p) (hl : l % p ≠ 0) (hx : x < p) (hy : y < p) (e : x * l % p = y * l % p) : x = y := by
  have aux : ∀ a b : Nat, a ≤ b → b < p → a * l % p = b * l % p → a = b := fun a b hab hb he => by
    have h1 : (b * l - a * l) % p = 0 := Nat.sub_mod_eq_zero_of_mod_eq he.symm
    rw [← Nat.sub_mul] at h1
    rcases hp.dvd_mul (Nat.dvd_of_mod_eq_zero h1) with d | d
    · rcases Nat.eq_zero_or_pos (b - a) with z | z
      · omega
      · have := Nat.le_of_dvd z d
        omega
    · exact absurd (Nat.mod_eq_zero_of_dvd d) hl
  rcases Nat.le_total x y with q | q
  · exact aux x y q hy e
  · exact (aux y x q hx e.symm).symm
theorem last_quot {p n k : Nat} (hp : Pr p) (h : k ≤ n) : (up p (C n k) % p) * ((up p (fac k) % p) * (up p (fac (n - k)) % p)) % p = up p (fac n) % p := by
  rw [← up_C hp h, Nat.mod_mul_mod, Nat.mul_mod (up p (C n k)), ← Nat.mul_mod (up p (fac k)), ← Nat.mul_mod]
end CF

set_option Elab.async false
set_option linter.all false
set_option maxRecDepth 100000
set_option maxHeartbeats 4000000
namespace L2
open PySem PySem.Spec PyProof.Rows
section
variable {X : Cx} {a b c : Expr} {ta tb tc : TE} {pos : Pos}

/-! ### ints of some size -/
def CBig (i j : Int) : Prop := 0 < j ∧ j < 2 ^ 200
def CMulL (i j : Int) : Prop := i.natAbs < 2 ^ 200 ∧ j.natAbs < 2 ^ 200
theorem op_fdivL : OpR X (binaryOp .FloorDiv) (rI CBig fun i j => .int (i / j)) := opI fun i j _ _ _ _ _ hc q => by
  have h1 : (0 : Int) < j := hc.1
  have h2 : j < 2 ^ 200 := hc.2
  have hl : j.natAbs.log2 < 9000 := by
    have h0 : j.natAbs ≠ 0 := by omega
    have h3 : j.natAbs < 2 ^ 200 := by omega
    have h4 := (Nat.log2_lt h0).mpr h3
    omega
  exact floordiv_int (by omega) (by rw [Int.fdiv_eq_ediv_of_nonneg i (by omega)]; exact q) (.inl (PyProof.noPylong_of_log2 hl))
theorem bits_le {k : Int} {n : Nat} (h : k.natAbs < 2 ^ n) : Builtin.Int.intBits k ≤ n := by
  unfold Builtin.Int.intBits
  split
  · exact Nat.zero_le _
  · rename_i hk
    have h0 : k.natAbs ≠ 0 := by
      intro z
      have : k = 0 := by omega
      rw [this] at hk
      exact hk rfl
    exact (Nat.log2_lt h0).mpr h
theorem CMulL.ok {i j : Int} (h : CMulL i j) : IntMulOk i j := by
  have h1 := bits_le h.1
  have h2 := bits_le h.2
  have e : Builtin.Int.intTooBig (Builtin.Int.intBits i + Builtin.Int.intBits j) = false := by
    unfold Builtin.Int.intTooBig
    refine decide_eq_false ?_
    have hb : ((bitsLine : Nat) : Int) = 134217728 := rfl
    rw [hb]
    omega
  unfold IntMulOk
  rw [e, Bool.and_false]
  exact Bool.false_ne_true
theorem op_mulL : OpR X (binaryOp .Mult) (rI CMulL fun i j => .int (i * j)) := opI fun _ _ _ _ _ _ _ hc q => mul_int q hc.ok

/-! ### isinstance(x, T), T a built-in type -/
theorem call_isinst : CallR X (.builtin "isinstance") (fun xs H Q => ∃ x T t k, xs = [x, .ty T] ∧ TyOf X.K H x t ∧ PySem.W.kitOne X.K t (.type T) = some k ∧ Q (.bl k) H) := by
  intro pins s σ H xs us Q I r h
  obtain ⟨x, T, t, k, rfl, ty, e, q⟩ := h
  obtain ⟨u, w', rfl, r1, r2⟩ := vals2 r
  cases r2
  exact isinst_ok I r1 ty e fun tk => ⟨.bl k, H, I.tok _, rfl, q⟩

/-! ### two lists of ints compared -/
theorem all_eq {ms ns : List Int} (h : ms.length = ns.length) : (List.range ms.length).all (fun j => ms.getD j 0 == ns.getD j 0) = decide (ms = ns) := by
  rw [Bool.eq_iff_iff, List.all_eq_true, decide_eq_true_iff]
  constructor
  · intro q
    refine List.ext_getElem h fun i h1 h2 => ?_
    have := q i (List.mem_range.mpr h1)
    rw [beq_iff_eq] at this
    simpa [List.getD, h1, h2] using this
  · intro e i _
    rw [e]
    exact beq_self_eq_true _
theorem ints_at : ∀ {ms : List Int} {its : List Value}, Vals (ms.map V.int) its → ∀ (j : Nat) (h1 : j < its.length), ∃ t, its[j] = .int (ms.getD j 0) t
  | [], _, r, j, h1 => by
    rw [List.map_nil] at r
    cases r
    exact absurd h1 (by simp)
  | m :: ms, _, r, j, h1 => by
    rw [List.map_cons] at r
    cases r with
    | cons r1 r2 =>
      obtain ⟨t, e⟩ := r1
      cases j with
      | zero => exact ⟨t, by simpa [List.getD] using e⟩
      | succ j =>
        obtain ⟨t', e'⟩ := ints_at r2 j (by simpa using h1)
        exact ⟨t', by simpa [List.getD] using e'⟩
theorem op_eq_ints (hu : X.A.units < cLine) : OpR X (compareOp .Eq) (fun x y H Q => ∃ (p q : Addr) (ms ns : List Int), x = .ref p ∧ y = .ref q ∧ SqL X.K H p (ms.map V.int) ∧ SqL X.K H q (ns.map V.int) ∧ Q (.bl (decide (ms = ns))) H) := by
  intro pins s σ H x y v u Q I rx ry h
  obtain ⟨p, q, ms, ns, rfl, rfl, hp, hq, k⟩ := h
  cases rx
  cases ry
  obtain ⟨its, r1, l1, z1⟩ := I.list hp
  obtain ⟨its2, r2, l2, z2⟩ := I.list hq
  have e1 := r1.length
  have e2 := r2.length
  rw [List.length_map] at e1 e2
  by_cases hl : ms.length = ns.length
  · refine PySem.SeqAt.eq_listAt (e := fun j => ms.getD j 0 == ns.getD j 0) l1.isList l2.isList (by simp; omega) hu (fun j h1 h2 => ?_) ⟨.bl (decide (ms = ns)), H, I, ?_, k⟩
    · obtain ⟨t, et⟩ := ints_at r1 j (by simpa using h1)
      obtain ⟨t', et'⟩ := ints_at r2 j (by simpa using h2)
      have f1 : its.toArray[j] = .int (ms.getD j 0) t := by simpa using et
      have f2 : its2.toArray[j] = .int (ns.getD j 0) t' := by simpa using et'
      rw [f1, f2]
      exact SeqAt.EqAt.int_int _ _ _ _
    · show Value.bool _ = Value.bool _
      rw [List.size_toArray, ← e1, all_eq hl]
  · refine PySem.SeqAt.eq_list_lengthsAt l1.isList l2.isList (by simp; omega) hu ⟨.bl (decide (ms = ns)), H, I, ?_, k⟩
    have : ¬ ms = ns := fun e => hl (by rw [e])
    rw [decide_eq_false this]
    exact rfl
theorem op_ne_ints (hu : X.A.units < cLine) : OpR X (compareOp .NotEq) (fun x y H Q => ∃ (p q : Addr) (ms ns : List Int), x = .ref p ∧ y = .ref q ∧ SqL X.K H p (ms.map V.int) ∧ SqL X.K H q (ns.map V.int) ∧ Q (.bl (!decide (ms = ns))) H) := by
  intro pins s σ H x y v u Q I rx ry h
  obtain ⟨p, q, ms, ns, rfl, rfl, hp, hq, k⟩ := h
  cases rx
  cases ry
  obtain ⟨its, r1, l1, z1⟩ := I.list hp
  obtain ⟨its2, r2, l2, z2⟩ := I.list hq
  have e1 := r1.length
  have e2 := r2.length
  rw [List.length_map] at e1 e2
  by_cases hl : ms.length = ns.length
  · refine PySem.SeqAt.RcNeAt.lists (e := fun j => ms.getD j 0 == ns.getD j 0) l1.isList l2.isList (by simp; omega) hu (fun j h1 h2 => ?_) _ _ _ _ ⟨.bl (!decide (ms = ns)), H, I, ?_, k⟩
    · obtain ⟨t, et⟩ := ints_at r1 j (by simpa using h1)
      obtain ⟨t', et'⟩ := ints_at r2 j (by simpa using h2)
      have f1 : its.toArray[j] = .int (ms.getD j 0) t := by simpa using et
      have f2 : its2.toArray[j] = .int (ns.getD j 0) t' := by simpa using et'
      rw [f1, f2]
      exact SeqAt.EqAt.int_int _ _ _ _
    · show Value.bool _ = Value.bool _
      rw [List.size_toArray, ← e1, all_eq hl]
  · refine PySem.SeqAt.RcNeAt.lists_lengths l1.isList l2.isList (by simp; omega) hu _ _ _ _ ⟨.bl (!decide (ms = ns)), H, I, ?_, k⟩
    have : ¬ ms = ns := fun e => hl (by rw [e])
    rw [decide_eq_false this]
    exact rfl

/-! ### sum of a list of ints -/
theorem call_sum_ints (hc : X.calm = true) : CallR X (.builtin "sum") (fun xs H Q => ∃ (p : Addr) (ns : List Int), xs = [.ref p] ∧ SqL X.K H p (ns.map V.int) ∧ Q (.int ns.sum) H) := by
  intro pins s σ H xs us Q I r h
  obtain ⟨p, ns, rfl, hq, q⟩ := h
  obtain ⟨u, rfl, r1⟩ := vals1 r
  cases r1
  obtain ⟨its, rv, pl, hz⟩ := I.list hq
  have hi := intsAre_of rv
  obtain ⟨ys, e⟩ := hi.allInts.items
  have hl := pl.isList
  rw [e] at hl
  refine sum_intListG (I.ok.hd hc) hl fun h' tk t' k => ⟨.int ns.sum, H, I.kept k, ⟨t', ?_⟩, q⟩
  have e2 : preSum (numAt ys) ys.size = ns.sum := by
    rw [preSum_eq, List.take_of_length_le (by simp), ← nums_intItems, ← e]
    show (numsOf its).sum = _
    rw [hi.numsOf]
  rw [e2]

/-! ### for x in reversed(xs) -/
def Itv (K : PySem.W.Frag) (l : Addr) (n : Nat) : It :=
  ⟨fun i H => i < n ∧ ∃ xs x, SqL K H l xs ∧ xs[n - 1 - i]? = some x, fun i H x H' => H' = H ∧ ∀ xs, SqL K H l xs → xs[n - 1 - i]? = some x, fun i _ => i = n⟩
theorem turn_rev {P : Program} {w : World} {K : PySem.W.Frag} {tg : Expr} (l it : Addr) (n : Nat) : Turn P w K tg (Itv K l n) [it] it (fun i h => h.IsRevIter it l ((n : Int) - 1 - (i : Int))) where
  mem := by simp
  obj := fun i h st b hb => by
    have e : b = it := by simpa using hb
    subst e
    obtain ⟨o, e, c, d⟩ := st
    exact ⟨o, e, fun v z => by rw [d] at z; cases z⟩
  keep := fun i h h' st k => st.at fun o e => k it (by simp) o e
  item := by
    intro X hP hw hK hc i pins s σ H E I hf st hg
    subst hP hw hK
    obtain ⟨hlt, xs, x, hq, hx⟩ := hg
    obtain ⟨its, rv, p, hz⟩ := I.list hq
    obtain ⟨u, hu, ru⟩ := rv.get hx
    obtain ⟨f0, f1, f2, f3, f4, f5⟩ := hf it (by simp)
    have e1 : (n : Int) - 1 - (i : Int) = ((n - 1 - i : Nat) : Int) := by omega
    have e2 : ((n - 1 - i : Nat) : Int) - 1 = (n : Int) - 1 - ((i + 1 : Nat) : Int) := by omega
    have st1 := st
    rw [e1] at st1
    refine wpAny_pyNext_rev_item st1 p.isList (x := u) (by simpa using hu) fun h' st' sb => ?_
    rw [e2] at st'
    have I1 : Inv X pins σ H { s with heap := h' } := I.turned (t' := s.toks) (fun b o hb e => (sb.2 b hb).trans e) f0 f1 f3 f4 f5
    obtain ⟨o, e, c, d⟩ := id st'
    exact ⟨u, rfl, go_of (s := { s with heap := h' }) e c d (by decide) ⟨x, H, I1, ru, ⟨rfl, fun ys hy => by rw [I.list_inj hy hq]; exact hx⟩, st', fun b hb => (hf b hb).1⟩⟩
  done := by
    intro X hP hw hK hc i pins s σ H E I hf st hg
    subst hP hw hK
    have hin : i = n := hg
    subst hin
    obtain ⟨f0, f1, f2, f3, f4, f5⟩ := hf it (by simp)
    have e1 : (i : Int) - 1 - (i : Int) = -1 := by omega
    have st1 := st
    rw [e1] at st1
    exact wpAny_pyNext_rev_end (I.ok.hd hc) st1 fun h' eb => ⟨rfl, I.turned (t' := s.toks) (fun b o hb e => eb b o hb e) f0 f1 f3 f4 f5⟩
  self := fun _ _ _ _ _ st h => wpAny_pyIter_revIter st h
def iRev (K : PySem.W.Frag) (ta : TA) : TI := fun σ H R => ta σ H fun vs H1 => ∃ (l : Addr) (xs : List V), vs = [.ref l] ∧ SqL K H1 l xs ∧ R (Itv K l xs.length) H1
theorem pi_rev {tg l : Expr} {ta : TA} {p pos : Pos} (hg : Gl X "reversed") (hm : X.mg "reversed" = none) (ha : PA X [l] ta) (hs : starEach [l] X.env = [(false, eval l X.env)] := by rfl) : PI X tg (.Call (.Name "reversed" p) [l] [] pos) (iRev X.K ta) := by
  intro pins s σ H R I h
  refine Call_ (ld_blt I hg hm boot_reversed (PyProof.Rows.callWith_type1 (thn (ha pos pins s σ H _ I h) fun us s1 ⟨vs, H1, I1, r1, q1⟩ => ?_) hs rfl))
  obtain ⟨l, xs, e, hq, q⟩ := q1
  subst e
  obtain ⟨u, rfl, r2⟩ := vals1 r1
  cases r2
  obtain ⟨its, rv, pl, hz⟩ := I1.list hq
  have hlen := rv.length
  refine call_reversed_list pl.isList ?_
  refine wpAny_pyIter_revIter (l := l) (i := (its.toArray.size : Int) - 1) ⟨_, Heap.get?_push_size _ rfl, rfl, rfl⟩ ?_
  refine ⟨s1.heap.objs.size, [s1.heap.objs.size], _, _, H1, rfl, I1.kept (t' := s1.toks) fun b o e => Heap.get?_push_of_some _ e, turn_rev l _ xs.length, ?_, fun b hb => ?_, q⟩
  · refine ⟨_, Heap.get?_push_size _ rfl, rfl, ?_⟩
    have e : (its.toArray.size : Int) - 1 = (xs.length : Int) - 1 - ((0 : Nat) : Int) := by rw [List.size_toArray, ← hlen]; omega
    rw [← e]
    rfl
  · have e : b = s1.heap.objs.size := by simpa using hb
    subst e
    exact I1.fpOk (Nat.le_refl _) (I1.hok.fresh (Nat.le_refl _))
end
theorem for_rev {K : PySem.W.Frag} {a : Addr} {xs : List V} {g : TG} {tb : TS} {D : Ends} {σ : St} {H : Hp} (Pv : Nat → St → Hp → Prop) (h0 : Pv 0 σ H) (hl : ∀ i σ H, i ≤ xs.length → Pv i σ H → SqL K H a xs)
    (hs : ∀ i x σ H, i < xs.length → xs[xs.length - 1 - i]? = some x → Pv i σ H → g x σ H fun σ2 H2 => tb { D with nx := Pv (i + 1), ct := Pv (i + 1), bk := D.nx } σ2 H2) (hd : ∀ σ H, Pv xs.length σ H → D.nx σ H) :
    ∃ W : Nat → Nat → St → Hp → Prop, (∃ m, W 0 m σ H) ∧ ∀ i m σ H, W i m σ H →
      ((Itv K a xs.length).stop i H ∧ D.nx σ H) ∨ ((Itv K a xs.length).go i H ∧ ∃ N : St → Hp → Prop, (∀ σ' H', N σ' H' → ∃ m', m' < m ∧ W (i + 1) m' σ' H') ∧ ∀ x H', (Itv K a xs.length).yld i H x H' → g x σ H' fun σ2 H2 => tb { D with nx := N, ct := N, bk := D.nx } σ2 H2) := by
  refine ⟨fun i m σ H => m = xs.length - i ∧ i ≤ xs.length ∧ Pv i σ H, ⟨xs.length, by simp, Nat.zero_le _, h0⟩, ?_⟩
  rintro i m σ H ⟨rfl, hi, p⟩
  have q := hl i σ H hi p
  by_cases hlt : i < xs.length
  · have hx : xs[xs.length - 1 - i]? = some (xs[xs.length - 1 - i]'(by omega)) := List.getElem?_eq_getElem (by omega)
    refine .inr ⟨⟨hlt, xs, _, q, hx⟩, Pv (i + 1), fun σ' H' p' => ⟨xs.length - (i + 1), by omega, rfl, hlt, p'⟩, fun x H' y => ?_⟩
    obtain ⟨e, y⟩ := y
    subst e
    exact hs i x σ _ hlt (y xs q) p
  · have e : i = xs.length := by omega
    subst e
    exact .inl ⟨rfl, hd σ H p⟩

/-! ### tests -/
theorem iteB {b : Bool} {A B : Prop} (h : b = false) (x : B) : if b = true then A else B := by
  rw [h]
  exact iteF x
theorem iteA {b : Bool} {A B : Prop} (h : b = true) (x : A) : if b = true then A else B := by
  rw [h]
  exact iteT x
theorem iteD {b : Bool} {A B : Prop} (h1 : b = true → A) (h2 : b = false → B) : if b = true then A else B := by
  cases b with
  | true => exact iteT (h1 rfl)
  | false => exact iteF (h2 rfl)

/-! ### a def of the text that may be called -/
structure Cal (P : Program) (w : World) (K : PySem.W.Frag) (mg : Str → Option Value) (base : Heap) (n : Nat) (x : Str) (ps : List Str) (sp : Sp) : Prop where
  ex : ∃ (f : Addr) (fd : FuncData), FnOk P w K mg base CX0 n f fd ps sp ∧ Binds K fd ps [] ∧ PySem.W.keepIn K (.ref f) = true ∧ mg x = some (.ref f)
theorem Cal.mono {P : Program} {w : World} {K : PySem.W.Frag} {mg : Str → Option Value} {base : Heap} {j n : Nat} {x : Str} {ps : List Str} {sp : Sp} (C : Cal P w K mg base j x ps sp) (h : j ≤ n) : Cal P w K mg base n x ps sp := by
  obtain ⟨f, fd, F, b, k, m⟩ := C.ex
  exact ⟨f, fd, F.mono h, b, k, m⟩
theorem cal_mk {P : Program} {w : World} {K : PySem.W.Frag} {mg : Str → Option Value} {base : Heap} {n : Nat} {x qual : Str} {ps : List Str} {sp : Sp} {st : Stmt} {f : Addr} {fd : FuncData}
    (F : Fun K x qual st f fd) (b : Binds K fd ps []) (m : mg x = some (.ref f)) (G : FnOk P w K mg base CX0 n f fd ps sp) : Cal P w K mg base n x ps sp := ⟨f, fd, G, b, F.kp, m⟩
theorem pe_c {X : Cx} {k : Nat} {x : Str} {ps : List Str} {sp : Sp} {e : Expr} {es : List Expr} {t : TA} {p pos : Pos} (C : Cal X.prog X.w X.K X.mg X.base k x ps sp) (hr : Room k X.A) (hg : Gl X x)
    (ha : PA X (e :: es) t) (hdb : (x == ("__debug__" : Str)) = false := by decide) (he : starEach (e :: es) X.env = (false, eval e X.env) :: starEach es X.env := by rfl) (hpl : (backTo pos (starEach es X.env)).any (·.1) = false := by rfl) :
    PE X (.Call (.Name x p) (e :: es) [] pos) (tCall sp [] E0 t) := by
  obtain ⟨f, fd, F, b, kp, m⟩ := C.ex
  exact pe_call F hr hg m kp b .nil pass0 ha hdb he hpl
end L2
namespace L2
/-- a test whose second part may not be looked at; both ways go on to C -/
theorem iteAnd {b : Bool} {A B C : Prop} (h2 : C → B) (h1 : b = true → C → A) (h : C) : if b = true then A else B := iteD (fun c => h1 c h) (fun _ => h2 h)
end L2
namespace L2
open PySem PySem.Spec PyProof.Rows
/-- a statement whose ways meet again: what holds behind it -/
def tJoin (t : TS) : TS := fun D σ H => ∃ R : St → Hp → Prop, t { D with nx := R } σ H ∧ ∀ σ' H', R σ' H' → D.nx σ' H'
theorem ps_join {X : Cx} {st : Stmt} {t : TS} (h : PS X st t) : PS X st (tJoin t) := by
  intro pins s σ H D I hq
  obtain ⟨R, h1, h2⟩ := hq
  refine thn (h pins s σ H { D with nx := R } I h1) fun f s1 q => ?_
  cases f with
  | next =>
    obtain ⟨σ', H', I', q⟩ := q
    exact ⟨σ', H', I', h2 _ _ q⟩
  | ret v => exact q
  | brk => exact q
  | cont => exact q
end L2

namespace L2
open PySem PySem.Spec PyProof.Rows
/-! ### a display of written ints -/
def isInts : List Expr → Option (List Int)
  | [] => some []
  | .Constant (.int i) _ _ :: r => (isInts r).map fun l => i :: l
  | _ => none
def tInts (is : List Int) : TA := fun _ H Q => Q (is.map V.int) H
theorem pa_ints {X : Cx} : ∀ {es : List Expr} {is : List Int}, isInts es = some is → PA X es (tInts is)
  | [], is, h => by
    obtain rfl : [] = is := Option.some.inj h
    exact fun _ _ _ _ H Q I h => Calls.spliced_nil ⟨[], H, I, .nil, h⟩
  | .Constant (.int i) j ps :: r, is, h => by
    have h' : (isInts r).map (fun l => i :: l) = some is := h
    cases e : isInts r with
    | none => rw [e] at h'; cases h'
    | some l =>
      rw [e] at h'
      obtain rfl : i :: l = is := Option.some.inj h'
      have q := pa_cons (X := X) (pe_int (i := i) (j := j) (pos := ps)) (pa_ints (X := X) e)
      exact fun pos pins s σ H Q I hq => q pos pins s σ H Q I hq
end L2
namespace L2
/-- the body's head, by its equation (so that nothing else is unfolded) -/
theorem pss_consE {X : Cx} {body : List PySem.Stmt} {st : PySem.Stmt} {rest : List PySem.Stmt} {t u : TS} (e : body = st :: rest) (h1 : PS X st t) (h2 : PSs X rest u) : PSs X body (tSeq t u) := by
  rw [e]
  exact pss_cons h1 h2
theorem pss_oneE {X : Cx} {body : List PySem.Stmt} {st : PySem.Stmt} {t : TS} (e : body = [st]) (h1 : PS X st t) : PSs X body t := by
  rw [e]
  exact pss_one h1
end L2

set_option Elab.async false
set_option linter.all false
set_option maxRecDepth 100000
set_option maxHeartbeats 4000000
namespace L2
open PySem PySem.Spec PyProof.Rows
section
variable {X : Cx} {a b c : Expr} {ta tb tc : TE} {pos : Pos}
/-! ### x is True -/
theorem op_is_bl : OpR X (compareOp .Is) (fun x y H Q => ∃ k d, x = .bl k ∧ y = .bl d ∧ Q (.bl (k == d)) H) := by
  intro pins s σ H x y v u Q I rx ry h
  obtain ⟨k, d, rfl, rfl, q⟩ := h
  cases rx
  cases ry
  exact is_bool ⟨.bl (k == d), H, I, rfl, q⟩
/-! ### min(xs), max(xs) of a list of ints: one of them -/
theorem call_min_ints (hc : X.calm = true) : CallR X (.builtin "min") (fun xs H Q => ∃ (p : Addr) (ns : List Int), xs = [.ref p] ∧ SqL X.K H p (ns.map V.int) ∧ ns ≠ [] ∧ ∀ v ∈ ns, Q (.int v) H) := by
  intro pins s σ H xs us Q I r h
  obtain ⟨p, ns, rfl, hq, hne, q⟩ := h
  obtain ⟨u, rfl, r1⟩ := vals1 r
  cases r1
  obtain ⟨its, rv, pl, hz⟩ := I.list hq
  have hi := intsAre_of rv
  obtain ⟨ys, e⟩ := hi.allInts.items
  have hl := pl.isList
  rw [e] at hl
  have hlen := rv.length
  have hsz : ys.size = its.length := by
    have : (intItems ys).size = its.toArray.size := by rw [e]
    simpa [intItems] using this
  have hnl : 0 < ns.length := List.length_pos_iff.mpr hne
  rw [List.length_map] at hlen
  refine min_intList (I.ok.hd hc) hl (by omega) fun v h' tk hv k => ?_
  rw [← e] at hv
  have hv' : its[argBest (fun i j => decide (numAt ys i < numAt ys j)) (ys.size - 1)]? = some v := by simpa using hv
  generalize argBest (fun i j => decide (numAt ys i < numAt ys j)) (ys.size - 1) = j at hv'
  have hj := (List.getElem?_eq_some_iff.mp hv').1
  obtain ⟨t, et⟩ := ints_at rv j hj
  have ev : v = its[j] := by
    have := List.getElem?_eq_getElem hj
    rw [hv'] at this
    exact Option.some.inj this
  refine ⟨.int (ns.getD j 0), H, I.kept k, ⟨t, ev.trans et⟩, q _ ?_⟩
  have hjn : j < ns.length := by omega
  rw [List.getD, List.getElem?_eq_getElem hjn]
  exact List.getElem_mem _
theorem call_max_ints (hc : X.calm = true) : CallR X (.builtin "max") (fun xs H Q => ∃ (p : Addr) (ns : List Int), xs = [.ref p] ∧ SqL X.K H p (ns.map V.int) ∧ ns ≠ [] ∧ ∀ v ∈ ns, Q (.int v) H) := by
  intro pins s σ H xs us Q I r h
  obtain ⟨p, ns, rfl, hq, hne, q⟩ := h
  obtain ⟨u, rfl, r1⟩ := vals1 r
  cases r1
  obtain ⟨its, rv, pl, hz⟩ := I.list hq
  have hi := intsAre_of rv
  obtain ⟨ys, e⟩ := hi.allInts.items
  have hl := pl.isList
  rw [e] at hl
  have hlen := rv.length
  have hsz : ys.size = its.length := by
    have : (intItems ys).size = its.toArray.size := by rw [e]
    simpa [intItems] using this
  have hnl : 0 < ns.length := List.length_pos_iff.mpr hne
  rw [List.length_map] at hlen
  refine max_intList (I.ok.hd hc) hl (by omega) fun v h' tk hv k => ?_
  rw [← e] at hv
  have hv' : its[argBest (fun i j => decide (numAt ys i > numAt ys j)) (ys.size - 1)]? = some v := by simpa using hv
  generalize argBest (fun i j => decide (numAt ys i > numAt ys j)) (ys.size - 1) = j at hv'
  have hj := (List.getElem?_eq_some_iff.mp hv').1
  obtain ⟨t, et⟩ := ints_at rv j hj
  have ev : v = its[j] := by
    have := List.getElem?_eq_getElem hj
    rw [hv'] at this
    exact Option.some.inj this
  refine ⟨.int (ns.getD j 0), H, I.kept k, ⟨t, ev.trans et⟩, q _ ?_⟩
  have hjn : j < ns.length := by omega
  rw [List.getD, List.getElem?_eq_getElem hjn]
  exact List.getElem_mem _
end
end L2

set_option Elab.async false
set_option linter.all false
set_option maxRecDepth 100000
set_option maxHeartbeats 4000000
namespace CF
open PySem PySem.Spec L2

/-! ### primes, figures as values -/
def primesN : List Nat := [2, 3, 5, 7, 11, 13, 17, 19, 23, 29, 31, 37, 41, 43, 47, 53, 59, 61, 67, 71, 73, 79, 83, 89, 97]
def primesI : List Int := [2, 3, 5, 7, 11, 13, 17, 19, 23, 29, 31, 37, 41, 43, 47, 53, 59, 61, 67, 71, 73, 79, 83, 89, 97]
def primesV : List V := primesI.map V.int
def IsPr (p : Nat) : Prop := p ∈ primesN
theorem pr_bd {p : Nat} (h : IsPr p) : 2 ≤ p ∧ p ≤ 97 := by
  have : ∀ q ∈ primesN, 2 ≤ q ∧ q ≤ 97 := by decide
  exact this p h
theorem pr_in {p : Nat} (h : IsPr p) : inV (.int (p : Int)) primesV = true := by
  have : ∀ q ∈ primesN, inV (.int (q : Int)) primesV = true := by decide
  exact this p h
theorem pr_flat : primesV.all flatV = true := by decide
theorem pr_at {i : Int} (h0 : 0 ≤ i) (h1 : i < 25) : ∃ p, IsPr p ∧ atI primesV i = some (.int (p : Int)) := by
  obtain ⟨j, rfl⟩ := Int.eq_ofNat_of_zero_le h0
  have hj : j < 25 := by omega
  have all : ∀ j < 25, ∃ p ∈ primesN, primesV[j]? = some (V.int (p : Int)) := by decide
  obtain ⟨p, hp, e⟩ := all j hj
  exact ⟨p, hp, atI_nat e⟩

def zi (l : List Nat) : List Int := l.map fun (d : Nat) => (d : Int)
def iv (l : List Nat) : List V := (zi l).map V.int
theorem iv_snoc (l : List Nat) (d : Nat) : iv (l ++ [d]) = iv l ++ [V.int (d : Int)] := by simp [iv, zi]
theorem iv_len (l : List Nat) : (iv l).length = l.length := by simp [iv, zi]
theorem iv_at {l : List Nat} {i : Nat} {d : Nat} (h : l[i]? = some d) : (iv l)[i]? = some (V.int (d : Int)) := by simp [iv, zi, h]
theorem zi_sum (l : List Nat) : (zi l).sum = ((l.sum : Nat) : Int) := by
  induction l with
  | nil => rfl
  | cons a r ih =>
    show (a : Int) + (zi r).sum = _
    rw [ih, List.sum_cons]
    rfl
theorem zi_inj {a b : List Nat} (h : zi a = zi b) : a = b := by
  induction a generalizing b with
  | nil => cases b with
    | nil => rfl
    | cons x r => cases h
  | cons x r ih => cases b with
    | nil => cases h
    | cons y t =>
      have h1 : (x : Int) = (y : Int) := (List.cons.inj h).1
      have h2 : zi r = zi t := (List.cons.inj h).2
      rw [ih h2, Int.ofNat.inj h1]

theorem small {n : Nat} (h : n ≤ 1000) : n ≤ sizeLine := Nat.le_of_lt (small1000 h)
theorem digs_small {p n : Nat} (hp : 2 ≤ p) (h : n ≤ 2000000000000000000000000000000) : (digs p n).length ≤ 101 := digs_len hp 101 n (by
  have e : (2 : Nat) ^ 101 = 2535301200456458802993406410752 := by decide
  omega)
theorem e30 : (10 : Int) ^ (30 : Int).toNat = 1000000000000000000000000000000 := by decide
theorem e28 : (10 : Int) ^ (28 : Int).toNat = 10000000000000000000000000000 := by decide
theorem e15 : (10 : Int) ^ (15 : Int).toNat = 1000000000000000 := by decide
theorem cp30 : CPow 10 30 := ⟨by decide, by decide, by decide⟩
theorem cp28 : CPow 10 28 := ⟨by decide, by decide, by decide⟩
theorem cp15 : CPow 10 15 := ⟨by decide, by decide, by decide⟩
theorem cdiv {p : Nat} (x : Int) (h : 2 ≤ p ∧ p ≤ 97) : CDiv x (p : Int) := ⟨by omega, by omega⟩
theorem same_new {H : Hp} {p : Addr} (h : H p = none) (o : HO) : Same H (upd H p o) := fun b u q => by rw [upd_ne (ne_of_none q h)]; exact q
theorem same_upd {H : Hp} {p : Addr} {o : HO} (h : H p = none) {b : Addr} {u : HO} (q : H b = some u) : upd H p o b = some u := same_new h o b u q

/-! ### what the defs promise -/
def spPr : Sp := fun vs H Q _ => ∃ p : Nat, vs = [.int p] ∧ IsPr p ∧ Q .non H
def spMany : Sp := fun vs H Q _ => ∃ n : Nat, vs = [.int n] ∧ n ≤ 1000000000000000000000000000000 ∧ Q .non H
def spFig : Sp := fun vs H Q _ => ∃ n p : Nat, vs = [.int n, .int p] ∧ IsPr p ∧ n ≤ 1000000000000000000000000000000 ∧ ∀ l, H l = none → Q (.ref l) (upd H l (.lst (iv (digs p n))))
def spCar : Sp := fun vs H Q _ => ∃ a b p : Nat, vs = [.int a, .int b, .int p] ∧ IsPr p ∧ a ≤ 1000000000000000000000000000000 ∧ b ≤ 1000000000000000000000000000000 ∧ Q (.int (carr p a b 0 : Nat)) H
def spOrd : Sp := fun vs H Q _ => ∃ n p : Nat, vs = [.int n, .int p] ∧ IsPr p ∧ n ≤ 1000000000000000000000000000000 ∧ Q (.int (ordp p n : Nat)) H
def cellI (ns : List Int) (k : Nat) : Int := ns.getD k 0
def spCell (K : PySem.W.Frag) : Sp := fun vs H Q _ => ∃ (a : Addr) (ns : List Int) (k : Nat), vs = [.ref a, .int k] ∧ SqL K H a (ns.map V.int) ∧ Q (.int (cellI ns k)) H
def spWhole : Sp := fun vs H Q _ => ∃ i : Int, vs = [.int i] ∧ Q (.bl true) H
def spPb : Sp := fun vs H Q _ => ∃ c : Int, vs = [.int c] ∧ ∀ (p : Nat) (H' : Hp), IsPr p → Same H H' → Q (.int p) H'
def spMb (K : PySem.W.Frag) : Sp := fun vs H Q _ => ∃ (a : Addr) (ns : List Int) (f p : Nat), vs = [.ref a, .int f, .int p] ∧ SqL K H a (ns.map V.int) ∧ 2 ≤ p ∧ p ≤ 97 ∧ ∀ x : Int, 0 ≤ x → x ≤ 1000000000000000000000000000000 → Q (.int x) H
/-- the law: at a list of at most 63 ints the answer is True -/
def spLaw (K : PySem.W.Frag) : Sp := fun vs H Q _ => ∃ (a : Addr) (ns : List Int), vs = [.ref a] ∧ SqL K H a (ns.map V.int) ∧ ns.length ≤ 63 ∧ ∀ H', Q (.bl true) H'
end CF

set_option Elab.async false
set_option linter.all false
set_option maxRecDepth 100000
set_option maxHeartbeats 4000000
namespace CF
open PySem PySem.Spec L2

/-! ### the primes at hand -/
theorem isPr_pr {p : Nat} (h : IsPr p) : Pr p := by
  refine ⟨(pr_bd h).1, fun i h0 h1 => ?_⟩
  have all : ∀ q ∈ primesN, ∀ i < q, 0 < i → Nat.gcd q i = 1 := by decide +kernel
  exact all p h i h1 h0
theorem isPr_wil {p : Nat} (h : IsPr p) : Wil p := by
  have all : ∀ q ∈ primesN, fac (q - 1) % q = q - 1 := by decide +kernel
  exact all p h
theorem same_refl {H : Hp} : Same H H := fun _ _ q => q
theorem same_tr {H1 H2 H3 : Hp} (a : Same H1 H2) (b : Same H2 H3) : Same H1 H3 := fun x o q => b x o (a x o q)

theorem neq_f {x y : V} (h : x = y) : (!decide (x = y)) = false := by
  rw [decide_eq_true h]
  rfl
theorem p30 : (0 : Int) < (10 : Int) ^ (30 : Int).toNat := by rw [e30]; decide
theorem iv_dig {p n i : Nat} {x : V} (hp : 2 ≤ p) (h : (iv (digs p n))[i]? = some x) : x = .int ((n / p ^ i % p : Nat) : Int) ∧ i < (digs p n).length ∧ p ^ i ≤ n := by
  have hi : i < (digs p n).length := by
    have := (List.getElem?_eq_some_iff.mp h).1
    rw [iv_len] at this
    exact this
  have e := iv_at (digs_at hp hi)
  rw [e] at h
  refine ⟨(Option.some.inj h).symm, hi, ?_⟩
  have h0 := (lt_len hp i n).mp hi
  rcases Nat.lt_or_ge n (p ^ i) with q | q
  · rw [Nat.div_eq_of_lt q] at h0
    omega
  · exact q
theorem digs_out {p n : Nat} (hp : 2 ≤ p) : n / p ^ (digs p n).length = 0 := Nat.eq_zero_of_not_pos fun h => by
  have := (lt_len hp _ n).mpr h
  omega

/-! ### what the defs promise -/
def hasB (n s : Int) : Bool := decide (0 ≤ s) && decide (s ≤ n)
def spHas : Sp := fun vs H Q _ => ∃ n s : Int, vs = [.int n, .int s] ∧ Q (.bl (hasB n s)) H
def spCho : Sp := fun vs H Q _ => ∃ (n : Nat) (s : Int), vs = [.int n, .int s] ∧ n ≤ 400 ∧ Q (.int (Cz n s : Nat)) H
def spRest : Sp := fun vs H Q _ => ∃ (n : Nat) (s : Int) (p : Nat), vs = [.int n, .int s, .int p] ∧ IsPr p ∧ n ≤ 1000000000000000000000000000000 ∧ Q (.int (Cz n s % p : Nat)) H
def powV (p n : Nat) (s : Int) : V := if 0 ≤ s ∧ s ≤ n then .int (vp p (Cz n s) : Nat) else .non
def lastV (p n : Nat) (s : Int) : V := if 0 ≤ s ∧ s ≤ n then .int (up p (Cz n s) % p : Nat) else .non
def spPow : Sp := fun vs H Q _ => ∃ (n : Nat) (s : Int) (p : Nat), vs = [.int n, .int s, .int p] ∧ IsPr p ∧ n ≤ 1000000000000000000000000000000 ∧ Q (powV p n s) H
def spLast : Sp := fun vs H Q _ => ∃ (n : Nat) (s : Int) (p : Nat), vs = [.int n, .int s, .int p] ∧ IsPr p ∧ n ≤ 1000000000000000000000000000000 ∧ ∀ H', Same H H' → Q (lastV p n s) H'
def facs (p k : Nat) : List Nat := (List.range k).map fun i => fac i % p
def spFo : Sp := fun vs H Q _ => ∃ p : Nat, vs = [.int p] ∧ IsPr p ∧ ∀ l, H l = none → Q (.ref l) (upd H l (.lst (iv (facs p p))))
def spOl (K : PySem.W.Frag) : Sp := fun vs H Q _ => ∃ (n p : Nat) (o : Addr), vs = [.int n, .int p, .ref o] ∧ IsPr p ∧ SqL K H o (iv (facs p p)) ∧ Q (.int (up p (fac n) % p : Nat)) H
def spQuo : Sp := fun vs H Q _ => ∃ u l p x : Nat, vs = [.int u, .int l, .int p] ∧ 2 ≤ p ∧ p ≤ 97 ∧ 0 < x ∧ x < p ∧ x * l % p = u ∧ (∀ y, y < p → y * l % p = u → y = x) ∧ Q (.int x) H
def spFree : Sp := fun vs H Q _ => ∃ n p : Nat, vs = [.int n, .int p] ∧ IsPr p ∧ n ≤ 1000000000000000000000000000000 ∧ ∀ H', Same H H' → Q (.int (tot p n : Nat)) H'
def spNext : Sp := fun vs H Q _ => ∃ (n : Nat) (k : Int) (p : Nat), vs = [.int n, .int k, .int p] ∧ IsPr p ∧ n ≤ 1000000000000000000000000000000 ∧
  ∀ H', Same H H' → ((n : Int) < k → Q .non H') ∧ (k ≤ n → ∀ j : Nat, k ≤ j → j ≤ n → Fr p n j → (∀ i : Nat, k ≤ i → i < j → ¬ Fr p n i) → Q (.int j) H')
def spAhead : Sp := fun vs H Q _ => ∃ (n : Nat) (k : Int) (p : Nat), vs = [.int n, .int k, .int p] ∧ IsPr p ∧ n ≤ 1000000000000000000000000000000 ∧ ∀ H', Same H H' → Q (.int (cnt p n k.toNat : Nat)) H'
def spAt : Sp := fun vs H Q _ => ∃ (n m p : Nat), vs = [.int n, .int m, .int p] ∧ IsPr p ∧ n ≤ 1000000000000000000000000000000 ∧ m < tot p n ∧ ∀ (H' : Hp) (j : Nat), Same H H' → Fr p n j → cnt p n j = m → Q (.int j) H'
def spBare : Sp := fun vs H Q _ => ∃ n p : Nat, vs = [.int n, .int p] ∧ IsPr p ∧ n ≤ 1000000000000000000000000000000 ∧ ∀ H', Same H H' → Q (.bl (decide (tot p n = n + 1))) H'
def spFull : Sp := fun vs H Q _ => ∃ n p : Nat, vs = [.int n, .int p] ∧ IsPr p ∧ n ≤ 1000000000000000000000000000000 ∧ ∀ H', Same H H' → Q (.bl (decide (tot p n = 2) && decide (2 ≤ n))) H'
/-! the laws' own -/
def spCnt : Sp := fun vs H Q _ => ∃ (n : Nat) (s : Int), vs = [.int n, .int s] ∧ n ≤ 400 ∧ ∀ H', Same H H' → Q (.int (Cz n s : Nat)) H'
def spSb (K : PySem.W.Frag) : Sp := fun vs H Q _ => ∃ (a : Addr) (ns : List Int) (f n p : Nat), vs = [.ref a, .int f, .int n, .int p] ∧ SqL K H a (ns.map V.int) ∧ 2 ≤ p ∧ p ≤ 97 ∧ n ≤ 1000000000000000000000000000000 ∧ ∀ x : Int, -60 ≤ x → x ≤ n + 60 → Q (.int x) H
def nonInt (v : V) : Prop := v = .non ∨ ∃ i : Int, v = .int i
def spIs : Sp := fun vs H Q _ => ∃ x y : V, vs = [x, y] ∧ nonInt x ∧ nonInt y ∧ Q (.bl (decide (x = y))) H
def spLeft : Sp := fun vs H Q _ => ∃ n p : Nat, vs = [.int n, .int p] ∧ 2 ≤ p ∧ p ≤ 97 ∧ 0 < n ∧ Q (.int (up p n : Nat)) H
def spWo : Sp := fun vs H Q _ => ∃ n p : Nat, vs = [.int n, .int p] ∧ 2 ≤ p ∧ p ≤ 97 ∧ 0 < n ∧ ∀ l, H l = none → Q (.ref l) (upd H l (.lst [.int (vp p n : Nat), .int (up p n % p : Nat)]))
def spAl : Sp := fun vs H Q _ => ∃ n p : Nat, vs = [.int n, .int p] ∧ IsPr p ∧ Q (.int (up p (fac n) % p : Nat)) H
theorem has_no {n : Nat} {s : Int} (h : (!hasB n s) = true) : Cz n s = 0 := by
  unfold hasB at h
  by_cases h0 : s < 0
  · exact Cz_neg h0
  · refine Cz_gt ?_
    simp at h
    omega
theorem has_yes {n : Nat} {s : Int} (h : (!hasB n s) = false) : 0 ≤ s ∧ s ≤ n := by
  unfold hasB at h
  simp at h
  omega
theorem has_ifN {n : Nat} {s : Int} {x : V} (h : (!hasB n s) = true) : (if 0 ≤ s ∧ s ≤ (n : Int) then x else .non) = .non := by
  rw [if_neg]
  intro q
  unfold hasB at h
  simp at h
  omega
end CF

set_option Elab.async false
set_option linter.all false
set_option maxRecDepth 100000
set_option maxHeartbeats 4000000
namespace L2
open PySem PySem.Spec PyProof.Rows PySem.W

/-! ### how an own exception lies behind a call: all that stood at the call, but for the frames, stays in B; the exception flies over it -/
def CX1 (P : Program) (w : World) : CXT := fun outer H s E e s' => ∃ (a : Addr) (cls a0 : Value) (B : Heap) (H' : Hp), e = .ref a ∧ s'.os = s.os ∧ AllBare s'.gens ∧ Un (frs outer) [] H H' s.heap s'.heap ∧ HOk P w H' B ∧
  (∀ b o, s.heap.get? b = some o → b ∉ frs outer → ∃ o', B.get? b = some o') ∧ Heap.FlyingW B outer a cls a0 s'.heap ∧ E cls none H'
theorem mem_frs {env : Env} {outer : List Env} {L b : Addr} (hf : env.frame = some L) : b ∈ frs (env :: outer) ↔ b = L ∨ b ∈ frs outer := by
  unfold frs
  rw [List.filterMap_cons, hf]
  exact List.mem_cons
section
variable {P : Program} {w : World} {K : PySem.W.Frag} {mg : Str → Option Value} {base : Heap} {N : List Str} {qual : Str} {scope : Scope} {f : Addr} {cd : Value} {A : Around} {outer : List Env} {s₀ : Shared} {H₀ : Hp} {E : XK}
/-- an exception of a callee leaves this def too -/
theorem passX : Passes (CX1 P w) (cxOf (CX1 P w) P w K mg base N qual scope f cd A outer s₀ H₀ E) E := by
  intro pins σ H s e s' I hx
  obtain ⟨a, cls, a0, B, H', rfl, os, bare, un, hok, inB, fly, hE⟩ := hx
  have hf : (envOfC qual scope s₀.heap.objs.size f cd).frame = some s₀.heap.objs.size := rfl
  have fly0 : Heap.FlyingW B (envOfC qual scope s₀.heap.objs.size f cd :: outer) a cls a0 s'.heap := fly
  have nL : ∀ b o, s₀.heap.get? b = some o → b ≠ s₀.heap.objs.size := fun b o e => Nat.ne_of_lt (Heap.lt_size e)
  have nfs : ∀ b o, s₀.heap.get? b = some o → b ∉ frs outer → b ∉ frs (envOfC qual scope s₀.heap.objs.size f cd :: outer) := fun b o e n m => by
    rcases (mem_frs hf).mp m with z | z
    · exact nL b o e z
    · exact n z
  refine wpAny_leaves_onW (A := A.deeper (envOfC qual scope s₀.heap.objs.size f cd)) I.ok.frames hf fly0 fun h' fly' ups => ?_
  -- what stood at the entry and is no frame is as it was behind the call
  have stay : ∀ b o o1, s₀.heap.get? b = some o → b ∉ frs outer → s'.heap.get? b = some o1 → h'.get? b = some o1 := fun b o o1 e n q => by
    obtain ⟨o2, e2⟩ := I.base.there b o e (fun z => nomatch z)
    obtain ⟨o3, e3⟩ := inB b o2 e2 (nfs b o e n)
    have e4 : o1 = o3 := Option.some.inj (q.symm.trans (fly.1 b o3 e3))
    rw [e4]
    exact fly'.1 b o3 e3
  have inF : ∀ {b : Addr}, b ∈ frs outer → b ∈ frs (envOfC qual scope s₀.heap.objs.size f cd :: outer) := fun {b} hb => (mem_frs hf).mpr (.inr hb)
  have slotF : ∀ b o, b ∈ frs outer → s'.heap.get? b = some o → ∃ sl, h'.get? b = some { o with slots := sl } := fun b o hb q => by
    obtain ⟨_, o', ho', hd⟩ := fly0.2.2.1.mem (inF hb)
    rw [q] at ho'
    cases ho'
    exact ups b o q hd
  refine ⟨a, cls, a0, B, H', rfl, os.trans I.os, bare, ⟨fun b o e n hb _ => ?_, fun b o e n hb _ => ?_, fun b o e n _ => ?_, fun b o e _ => ?_, fun b xs e => un.tups b xs (I.base.tups b xs e), fun b o xs e => un.frzs b o xs (I.base.frzs b o xs e), fun b ps e => ?_⟩, hok, fun b o e n => ?_, fly', hE⟩
  · have e1 := I.base.keep b o e n hb (fun z => nomatch z)
    exact stay b o o e hb (un.keep b o e1 (I.base.free b o e n (fun z => nomatch z)) (nfs b o e hb) (fun z => nomatch z))
  · obtain ⟨sl, e1⟩ := I.base.slot b o e n hb (fun z => nomatch z)
    obtain ⟨sl', e2⟩ := un.slot b _ e1 (I.base.free b o e n (fun z => nomatch z)) (inF hb) (fun z => nomatch z)
    obtain ⟨sl2, e3⟩ := slotF b _ hb e2
    exact ⟨sl2, e3⟩
  · obtain ⟨o1, e1⟩ := I.base.there b o e (fun z => nomatch z)
    exact un.free b o1 e1 (I.base.free b o e n (fun z => nomatch z)) (fun z => nomatch z)
  · obtain ⟨o1, e1⟩ := I.base.there b o e (fun z => nomatch z)
    obtain ⟨o2, e2⟩ := un.there b o1 e1 (fun z => nomatch z)
    by_cases hb : b ∈ frs outer
    · obtain ⟨sl, e3⟩ := slotF b o2 hb e2
      exact ⟨_, e3⟩
    · exact ⟨o2, stay b o o2 e hb e2⟩
  · obtain ⟨m1, e1⟩ := I.base.tbls b ps e
    obtain ⟨m2, e2⟩ := un.tbls b _ e1
    exact ⟨m1 ++ m2, by rw [e2, Array.append_assoc]⟩
  · obtain ⟨o2, e2⟩ := I.base.there b o e (fun z => nomatch z)
    exact inB b o2 e2 (nfs b o e n)
/-- an exception made here leaves this def -/
theorem raiseX {pins : List (Addr × Obj)} {σ : St} {H : Hp} {s : Shared} {h1 : Heap} {a C : Addr} {vs : List Value} (I : Inv (cxOf (CX1 P w) P w K mg base N qual scope f cd A outer s₀ H₀ E) pins σ H s) (hx : Heap.MadeExcOf s.heap h1 a (.ref C) vs) (hE : E (.ref C) none H) :
    (cxOf (CX1 P w) P w K mg base N qual scope f cd A outer s₀ H₀ E).xe (.ref a) { s with heap := h1 } := by
  have hf : (envOfC qual scope s₀.heap.objs.size f cd).frame = some s₀.heap.objs.size := rfl
  have nL : ∀ b o, s₀.heap.get? b = some o → b ≠ s₀.heap.objs.size := fun b o e => Nat.ne_of_lt (Heap.lt_size e)
  have nfs : ∀ b o, s₀.heap.get? b = some o → b ∉ frs outer → b ∉ frs (envOfC qual scope s₀.heap.objs.size f cd :: outer) := fun b o e n m => by
    rcases (mem_frs hf).mp m with z | z
    · exact nL b o e z
    · exact n z
  have stk : s.heap.FunFrames base (envOfC qual scope s₀.heap.objs.size f cd :: outer) := I.stack
  have sfree : ∀ b ∈ frs (envOfC qual scope s₀.heap.objs.size f cd :: outer), H b = none := I.stkFree
  refine wpAny_leaves_madeW (A := A.deeper (envOfC qual scope s₀.heap.objs.size f cd)) (base := hideAll s.heap (frs (envOfC qual scope s₀.heap.objs.size f cd :: outer))) (outer := outer) (env := envOfC qual scope s₀.heap.objs.size f cd) I.ok.frames hf (fun b o q => of_hideAll _ q)
    (funFrames_hide stk fun env he b hb => List.mem_filterMap.mpr ⟨env, he, hb⟩) hx fun h' t fly tup tn ups => ?_
  have there : ∀ b o, s₀.heap.get? b = some o → b ∉ frs outer → ∃ o1, s.heap.get? b = some o1 ∧ (hideAll s.heap (frs (envOfC qual scope s₀.heap.objs.size f cd :: outer))).get? b = some o1 := fun b o e n => by
    obtain ⟨o1, e1⟩ := I.base.there b o e (fun z => nomatch z)
    exact ⟨o1, e1, hideAll_get _ e1 (nfs b o e n)⟩
  have slotF : ∀ b o, b ∈ frs outer → s.heap.get? b = some o → ∃ sl, h'.get? b = some { o with slots := sl } := fun b o hb q => by
    obtain ⟨_, o', ho', hd⟩ := stk.mem ((mem_frs hf).mpr (.inr hb))
    rw [q] at ho'
    cases ho'
    exact ups b o (hx.keeps b o q) hd
  refine ⟨a, .ref C, .ref t, _, H, rfl, I.os, I.bare, ⟨fun b o e n hb _ => ?_, fun b o e n hb _ => ?_, fun b o e n _ => I.base.free b o e n (fun z => nomatch z), fun b o e _ => ?_, I.base.tups, I.base.frzs, I.base.tbls⟩, fun b u e => ?_, fun b o e n => ?_, fly, hE⟩
  · have e1 := I.base.keep b o e n hb (fun z => nomatch z)
    exact fly.1 b o (hideAll_get _ e1 (nfs b o e hb))
  · obtain ⟨sl, e1⟩ := I.base.slot b o e n hb (fun z => nomatch z)
    obtain ⟨sl2, e3⟩ := slotF b _ hb e1
    exact ⟨sl2, e3⟩
  · by_cases hb : b ∈ frs outer
    · obtain ⟨o1, e1⟩ := I.base.there b o e (fun z => nomatch z)
      obtain ⟨sl, e3⟩ := slotF b o1 hb e1
      exact ⟨_, e3⟩
    · obtain ⟨o1, e1, e2⟩ := there b o e hb
      exact ⟨o1, fly.1 b o1 e2⟩
  · refine (I.hok b u e).stay (fun c v hc q => hideAll_get _ q fun m => ?_) (fun _ q => q) fun _ _ q => q
    have z := sfree c m
    rcases hc with hc | hc
    · rw [hc] at z; rw [z] at e; cases e
    · rw [z] at hc; cases hc
  · obtain ⟨o1, _, e2⟩ := there b o e n
    exact ⟨o1, e2⟩
end
/-- no exception is a case of one -/
theorem FnOk.up {P : Program} {w : World} {K : PySem.W.Frag} {mg : Str → Option Value} {base : Heap} {k : Nat} {f : Addr} {fd : FuncData} {ps : List Str} {sp : Sp} (F : FnOk P w K mg base CX0 k f fd ps sp) : FnOk P w K mg base (CX1 P w) k f fd ps sp :=
  ⟨F.len, fun A outer s H args us vs Q E hr he hb hv hs => codeAny_mono (F.run A outer s H args us vs Q E hr he hb hv hs) fun r s' h => by
    cases r with
    | error e => exact False.elim h
    | ok fl => cases fl <;> exact h⟩
/-- either promise -/
def spOr (a b : Sp) : Sp := fun vs H Q E => a vs H Q E ∨ b vs H Q E
theorem FnOk.or {P : Program} {w : World} {K : PySem.W.Frag} {mg : Str → Option Value} {base : Heap} {CX : CXT} {k : Nat} {f : Addr} {fd : FuncData} {ps : List Str} {a b : Sp} (F : FnOk P w K mg base CX k f fd ps a) (G : FnOk P w K mg base CX k f fd ps b) : FnOk P w K mg base CX k f fd ps (spOr a b) :=
  ⟨fun vs H Q E h => h.elim (F.len vs H Q E) (G.len vs H Q E), fun A outer s H args us vs Q E hr he hb hv hs => hs.elim (F.run A outer s H args us vs Q E hr he hb hv) (G.run A outer s H args us vs Q E hr he hb hv)⟩
/-- THE RULE for a def whose exceptions leave -/
theorem Fun.okX {P : Program} {w : World} {K : PySem.W.Frag} {mg : Str → Option Value} {base : Heap} {x qual : Str} {st : Stmt} {f : Addr} {fd : FuncData} {N ps : List Str} {k : Nat} {sp : Sp} (F : Fun K x qual st f fd) (S : FnScope N ps (defScope st)) (len : ∀ vs H Q E, sp vs H Q E → vs.length = ps.length)
    (hbody : ∀ (cdv : Value) (A : Around) (outer : List Env) (s : Shared) (H : Hp) (vs : List V) (Q : VK) (E : XK), Room k (A.deeper (envOfC qual (defScope st) s.heap.objs.size f cdv)) → sp vs H Q E →
      ∃ t, PSs (cxOf (CX1 P w) P w K mg base N qual (defScope st) f cdv A outer s H E) (defBody st) t ∧ t { nx := fun _ H' => Q .non H', rt := Q } (start N vs) H) : FnOk P w K mg base (CX1 P w) (k + 1) f fd ps sp := by
  obtain ⟨oc, od, kV, doc, pm, an, cdv, ct, osl, rfl, lk, hcd⟩ := F.ex
  exact fn_of lk hcd S len fun A outer s H vs Q E hr hsp => hbody cdv A outer s H vs Q E hr hsp
/-- a def that may be called and may refuse -/
structure CalX (P : Program) (w : World) (K : PySem.W.Frag) (mg : Str → Option Value) (base : Heap) (n : Nat) (x : Str) (ps : List Str) (sp : Sp) : Prop where
  ex : ∃ (f : Addr) (fd : FuncData), FnOk P w K mg base (CX1 P w) n f fd ps sp ∧ Binds K fd ps [] ∧ PySem.W.keepIn K (.ref f) = true ∧ mg x = some (.ref f)
theorem CalX.mono {P : Program} {w : World} {K : PySem.W.Frag} {mg : Str → Option Value} {base : Heap} {j n : Nat} {x : Str} {ps : List Str} {sp : Sp} (C : CalX P w K mg base j x ps sp) (h : j ≤ n) : CalX P w K mg base n x ps sp := by
  obtain ⟨f, fd, F, b, k, m⟩ := C.ex
  exact ⟨f, fd, F.mono h, b, k, m⟩
theorem calX_mk {P : Program} {w : World} {K : PySem.W.Frag} {mg : Str → Option Value} {base : Heap} {n : Nat} {x qual : Str} {ps : List Str} {sp : Sp} {st : Stmt} {f : Addr} {fd : FuncData}
    (F : Fun K x qual st f fd) (b : Binds K fd ps []) (m : mg x = some (.ref f)) (G : FnOk P w K mg base (CX1 P w) n f fd ps sp) : CalX P w K mg base n x ps sp := ⟨f, fd, G, b, F.kp, m⟩
theorem pe_cX {X : Cx} {E : XK} {k : Nat} {x : Str} {ps : List Str} {sp : Sp} {e : Expr} {es : List Expr} {t : TA} {p pos : Pos} (C : CalX X.prog X.w X.K X.mg X.base k x ps sp) (hp : Passes (CX1 X.prog X.w) X E) (hr : Room k X.A) (hg : Gl X x)
    (ha : PA X (e :: es) t) (hdb : (x == ("__debug__" : Str)) = false := by decide) (he : starEach (e :: es) X.env = (false, eval e X.env) :: starEach es X.env := by rfl) (hpl : (backTo pos (starEach es X.env)).any (·.1) = false := by rfl) :
    PE X (.Call (.Name x p) (e :: es) [] pos) (tCall sp [] E t) := by
  obtain ⟨f, fd, F, b, kp, m⟩ := C.ex
  exact pe_call F hr hg m kp b .nil hp ha hdb he hpl

/-! ### f-strings: some text of no great length -/
def Pc (X : Cx) (e : Expr) (c : St → Hp → Prop) : Prop := ∀ (pins : List (Addr × Obj)) (s : Shared) (σ : St) (H : Hp), Inv X pins σ H s → c σ H →
  wpAny (model X.prog X.w) X.A (eval e X.env) (fun v s1 => ∃ y t, v = .str y t ∧ y.length ≤ 2000 ∧ Inv X pins σ H s1) X.xe s
section
variable {X : Cx}
theorem pc_txt {x : Str} {j : Nat} {pos : Pos} (h : x.length ≤ 2000) : Pc X (.Constant (.str x) j pos) (fun _ _ => True) := fun pins s σ H I _ => Calls.Constant_str ⟨x, _, rfl, h, I.tok _⟩
theorem pc_fmt {e : Expr} {te : TE} {pos : Pos} (he : PE X e te) : Pc X (.FormattedValue e (-1) none pos) (fun σ H => te σ H fun v H1 => H1 = H ∧ ∃ i : Int, v = .int i ∧ i.natAbs < 2 ^ 1000) := by
  intro pins s σ H I h
  refine FormattedValue_plain (thn (he pins s σ H _ I h) fun v s1 ⟨y, H1, I1, r1, e1, i, e2, hi⟩ => ?_)
  subst e1 e2
  obtain ⟨t, rfl⟩ := r1
  have hl : i.natAbs.log2 < 1920 := by
    by_cases z : i.natAbs = 0
    · rw [z]; decide
    · exact Nat.lt_of_lt_of_le ((Nat.log2_lt z).mpr hi) (by decide)
  refine formatField_int_small hl ⟨_, _, rfl, ?_, I1.tok _⟩
  have := int_text_length_le (k := 1920) (by decide) hl
  rw [PySem.ofString_length]
  omega
/-- the pieces of a text -/
def Pcs (X : Cx) : List Expr → List (St → Hp → Prop) → Prop
  | [], [] => True
  | e :: es, c :: cs => Pc X e c ∧ Pcs X es cs
  | _, _ => False
theorem pcs_nil : Pcs X [] [] := trivial
theorem pcs_cons {e : Expr} {es : List Expr} {c : St → Hp → Prop} {cs : List (St → Hp → Prop)} (h : Pc X e c) (t : Pcs X es cs) : Pcs X (e :: es) (c :: cs) := ⟨h, t⟩
def tFs (cs : List (St → Hp → Prop)) : TE := fun σ H Q => (∀ c ∈ cs, c σ H) ∧ ∀ x : Str, Q (.str x) H
theorem joins {pins : List (Addr × Obj)} {σ : St} {H : Hp} {Q : VK} (q : ∀ x : Str, Q (.str x) H) : ∀ {es : List Expr} {cs : List (St → Hp → Prop)} {out : Str} {s : Shared}, Pcs X es cs → (∀ c ∈ cs, c σ H) → Inv X pins σ H s → out.length + 2000 * es.length ≤ 20000 →
    wpAny (model X.prog X.w) X.A (joinParts out (evalEach es X.env)) (EP X pins σ Q) X.xe s
  | [], [], out, s, _, _, I, hz => joinParts_nil ⟨.str out, H, I.tok _, ⟨_, rfl⟩, q out⟩ (by rw [sizeLine_eq]; simp at hz; omega)
  | [], _ :: _, _, _, h, _, _, _ => h.elim
  | _ :: _, [], _, _, h, _, _, _ => h.elim
  | e :: es, c :: cs, out, s, h, hc, I, hz => by
    refine joinParts_cons (thn (h.1 pins s σ H I (hc c List.mem_cons_self)) fun v s1 ⟨y, t, e1, hy, I1⟩ => ?_)
    subst e1
    rw [List.length_cons] at hz
    have hl : (out ++ y).length + 2000 * es.length ≤ 20000 := by rw [strLen_append]; omega
    exact ⟨by rw [sizeLine_eq]; omega, joins q h.2 (fun c' m => hc c' (List.mem_cons_of_mem _ m)) I1 hl⟩
theorem pe_fstr {v1 v2 : Expr} {rest : List Expr} {cs : List (St → Hp → Prop)} {pos : Pos} (h : Pcs X (v1 :: v2 :: rest) cs) (hl : (v1 :: v2 :: rest).length ≤ 10) : PE X (.JoinedStr (v1 :: v2 :: rest) pos) (tFs cs) := by
  intro pins s σ H Q I q
  exact JoinedStr_many (joins q.2 h q.1 I (by show 0 + _ ≤ _; omega))
end

/-! ### raise C(e) of an own class -/
/-- an own exception class beneath ValueError: its object, its names, the classes above it -/
def VE : List Value := [.type "ValueError", .type "Exception", .type "BaseException", .type "object"]
def OwnE (K : PySem.W.Frag) (C : Addr) (ds : List Addr) : Prop := ∀ h : Heap, K.In h → ∃ nm q N bs bm hdct sn sub ab col dd k0 k1 k2 k3 k5 mN,
  h.get? C = some (excClassObj nm q C N bs bm hdct sn sub ab col dd k0 k1 k2 k3 k5 "ValueError.__new__") ∧ h.Ns N mN ∧ mN "__init__" = none ∧ OwnTail h VE bm ∧ ∀ d ∈ ds, bm.contains (.ref d) = true
theorem own_mk {K : PySem.W.Frag} {C : Addr} {ds : List Addr} (q : excIn K C VE "ValueError.__new__" = true) (m : ∀ d ∈ ds, mroIn K C (.ref d) = some true ∧ d ≠ C) : OwnE K C ds := by
  intro h X
  unfold excIn at q; split at q
  case h_2 => cases q
  rename_i dd cd sl ho; split at q
  case h_2 => cases q
  rename_i C' bm k0 k1 k2 k3 n k5 hm hs
  simp only [Bool.not_eq_true', beq_iff_eq, Bool.and_eq_true] at q
  obtain ⟨⟨⟨⟨⟨e1, e2⟩, hdel⟩, ht⟩, hok⟩, hni⟩ := q
  subst e1 e2
  have hc : ∀ d ∈ ds, bm.contains (.ref d) = true := fun d hd => by
    obtain ⟨m1, m2⟩ := m d hd
    unfold mroIn clsIn at m1
    rw [ho] at m1
    simp only [Option.bind_some] at m1
    split at m1
    · cases m1
    · have m3 := Option.some.inj m1
      rw [hm, List.contains_cons] at m3
      rcases Bool.or_eq_true_iff.mp m3 with z | z
      · exact absurd (Value.ref.inj (beq_iff_eq.mp z)) m2
      · exact z
  obtain ⟨nm, bs, mro, ns, qn, hd, sn, sub, ab, col, del⟩ := cd
  dsimp only at hm hdel hok hni ho
  subst hm hdel
  obtain rfl : sl = #[k0, k1, k2, k3, some (.builtin "ValueError.__new__"), k5] := by
    obtain ⟨l⟩ := sl; simp only at hs; rw [hs]
  exact ⟨nm, qn, ns, bs, bm, hd, sn, sub, ab, col, dd, k0, k1, k2, k3, k5, _, X _ _ ho, .of_isNs (isNs_of_in X hok), nsMap_none_of_in X hok hni, tail_of_in X ht, hc⟩
def tRaise (E : XK) (C : Addr) (t : TA) : TS := fun _ σ H => t σ H fun vs H1 => (∃ v, vs = [v]) ∧ E (.ref C) none H1
theorem ps_raiseX {P : Program} {w : World} {K : PySem.W.Frag} {mg : Str → Option Value} {base : Heap} {N : List Str} {qual : Str} {scope : Scope} {f : Addr} {cd : Value} {A : Around} {outer : List Env} {s₀ : Shared} {H₀ : Hp} {E : XK}
    {x : Str} {np cpos pos : Pos} {e : Expr} {t : TA} {C : Addr} {ds : List Addr} (hg : Gl (cxOf (CX1 P w) P w K mg base N qual scope f cd A outer s₀ H₀ E) x) (hm : mg x = some (.ref C)) (hO : OwnE K C ds)
    (ha : PA (cxOf (CX1 P w) P w K mg base N qual scope f cd A outer s₀ H₀ E) [e] t) (hs : starEach [e] (envOfC qual scope s₀.heap.objs.size f cd) = [(false, eval e (envOfC qual scope s₀.heap.objs.size f cd))] := by rfl)
    (hd : (x == ("__debug__" : Str)) = false := by decide) :
    PS (cxOf (CX1 P w) P w K mg base N qual scope f cd A outer s₀ H₀ E) (.Raise (some (.Call (.Name x np) [e] [] cpos)) none pos) (tRaise E C t) := by
  intro pins s σ H D I h
  obtain ⟨nm, q, N', bs, bm, hdct, sn, sub, ab, col, dd, k0, k1, k2, k3, k5, mN, hC, hN, hni, T, _⟩ := hO base I.ok.mod.kin
  refine wpAny_Raise_call_subT (C := C) (N := N') (bm := bm) (nm := nm) (q := q) (bs := bs) (hdct := hdct) (sn := sn) (sub := sub) (ab := ab) (col := col) (dd := dd) (k0 := k0) (k1 := k1) (k2 := k2) (k3 := k3) (k5 := k5) PySem.F.excBase_ValueError (mN := mN) (T.hasType (by decide)) (I.ok.hd rfl) (by
    show (backTo cpos (starEach [e] (envOfC qual scope s₀.heap.objs.size f cd))).any (·.1) = false
    rw [hs]
    rfl) hni (ld_glob I hg hm ⟨rfl, ?_⟩ hd)
  have ev := ha cpos pins s σ H _ I h
  have hs' : starEach [e] (cxOf (CX1 P w) P w K mg base N qual scope f cd A outer s₀ H₀ E).env = _ := hs
  rw [hs'] at ev ⊢
  refine Calls.evalArgs_plain (thn ev fun us s1 ⟨vs, H1, I1, r1, ⟨v, hv⟩, hE⟩ => ?_)
  have hlen := r1.length
  have hl1 : us.length ≤ sizeLine := by
    rw [← hlen, hv]
    exact (by decide : 1 ≤ sizeLine)
  exact ⟨rfl, hl1, I1.bk C _ hC, hN.keeps I1.bk, T.keeps I1.bk, fun h' e' hm' => raiseX I1 hm' hE⟩

/-! ### try .. except C as n -/
/-- an object that is an exception of the class cls -/
def ExcO (a : Addr) (cls : Value) : Heap → Prop := fun h => ∃ oe vs, h.get? a = some oe ∧ oe.cls = cls ∧ oe.data = .fields vs
/-- the try's body: its pins are borne by every state -/
abbrev Cx.bear (X : Cx) (pinsO : List (Addr × Obj)) : Cx := { X with pn := X.pn ++ pinsO }
/-- an exception that flies behind a call of this body -/
def XT (X : Cx) (pinsO : List (Addr × Obj)) (Ec : XK) : Value → Shared → Prop := fun e s' => ∃ (pins : List (Addr × Obj)) (σ : St) (H : Hp) (s : Shared), Inv (X.bear pinsO) pins σ H s ∧ CX1 X.prog X.w X.stack H s Ec e s'
abbrev Cx.tried (X : Cx) (pinsO : List (Addr × Obj)) (Ec : XK) : Cx := (X.bear pinsO).wish (XT X pinsO Ec)
theorem passT {X : Cx} {pinsO : List (Addr × Obj)} {Ec : XK} : Passes (CX1 X.prog X.w) (X.tried pinsO Ec) Ec := fun pins σ H s e s' I h => ⟨pins, σ, H, s, I.unwish, h⟩
theorem Inv.bear {X : Cx} {pins : List (Addr × Obj)} {σ : St} {H : Hp} {s : Shared} (I : Inv X pins σ H s) : Inv (X.bear pins) [] σ H s :=
  ⟨⟨I.ok.mod, I.ok.kind, I.ok.glob, I.ok.blt, I.ok.above, I.ok.inj, I.ok.has, I.ok.cab, I.ok.hd, I.ok.frames, I.ok.stk, I.ok.exf, I.ok.bs, I.ok.bsz, I.ok.noex, I.ok.exfs, I.ok.funs, I.ok.frf⟩, I.os, I.bare, I.base, I.loc, I.cell, I.free, I.freeC, fun p hp => I.pin p (by
    rcases List.mem_append.mp hp with z | z
    · exact z
    · cases z), I.hok, I.len⟩
theorem Inv.unbear {X : Cx} {pins pins0 : List (Addr × Obj)} {σ : St} {H : Hp} {s : Shared} (I : Inv (X.bear pins) pins0 σ H s) : Inv X pins σ H s :=
  ⟨⟨I.ok.mod, I.ok.kind, I.ok.glob, I.ok.blt, I.ok.above, I.ok.inj, I.ok.has, I.ok.cab, I.ok.hd, I.ok.frames, I.ok.stk, I.ok.exf, I.ok.bs, I.ok.bsz, I.ok.noex, I.ok.exfs, I.ok.funs, I.ok.frf⟩, I.os, I.bare, I.base, I.loc, I.cell, I.free, I.freeC, fun p hp => I.pin p (List.mem_append_left _ hp), I.hok, I.len⟩
theorem SP.untried {X : Cx} {pins : List (Addr × Obj)} {Ec : XK} {D : Ends} {f : Flow} {s' : Shared} (h : SP (X.tried pins Ec) [] D f s') : SP X pins D f s' := by
  cases f with
  | next => obtain ⟨σ', H', I, q⟩ := h; exact ⟨σ', H', I.unwish.unbear, q⟩
  | brk => obtain ⟨σ', H', I, q⟩ := h; exact ⟨σ', H', I.unwish.unbear, q⟩
  | cont => obtain ⟨σ', H', I, q⟩ := h; exact ⟨σ', H', I.unwish.unbear, q⟩
  | ret u => obtain ⟨v, σ', H', I, r, q⟩ := h; exact ⟨v, σ', H', I.unwish.unbear, r, q⟩
/-- the context of the suite -/
abbrev Cx.suite (X : Cx) (a : Addr) : Cx := { X with A := X.A.mark (some (.ref a)), calm := false, xe := fun _ _ => False }
section
variable {X : Cx} {pins : List (Addr × Obj)} {σ : St} {H : Hp} {s : Shared}
theorem Inv.suite (I : Inv X pins σ H s) (a : Addr) : Inv (X.suite a) pins σ H s :=
  ⟨⟨I.ok.mod, I.ok.kind, I.ok.glob, I.ok.blt, I.ok.above, I.ok.inj, I.ok.has, I.ok.cab, (fun z => nomatch z), I.ok.frames, I.ok.stk, I.ok.exf, I.ok.bs, I.ok.bsz, I.ok.noex, I.ok.exfs, I.ok.funs, I.ok.frf⟩, I.os, I.bare, I.base, I.loc, I.cell, I.free, I.freeC, I.pin, I.hok, I.len⟩
theorem Inv.unsuite {a : Addr} (ok : X.Ok) (I : Inv (X.suite a) pins σ H s) : Inv X pins σ H s := ⟨ok, I.os, I.bare, I.base, I.loc, I.cell, I.free, I.freeC, I.pin, I.hok, I.len⟩
/-- the names forgotten, the frame's object changed -/
theorem Inv.goes {h' : Heap} {m' : Str → Option Value} {t' : Nat} (I : Inv X pins σ H s) (hn : h'.Ns X.env.locals m') (hs : Heap.SameBut X.env.locals s.heap h') : Inv X pins (List.replicate X.N.length none) H { s with heap := h', toks := t' } := by
  have nL : ∀ b w, X.s₀.heap.get? b = some w → b ≠ X.env.locals := fun b w e => Nat.ne_of_lt (Nat.lt_of_lt_of_le (Heap.lt_size e) I.ok.above)
  have k : ∀ b w, b ≠ X.env.locals → s.heap.get? b = some w → h'.get? b = some w := fun b w nb e => (hs.2 b nb).trans e
  refine ⟨I.ok, I.os, I.bare, ⟨fun b w e n hb hx => k b w (nL b w e) (I.base.keep b w e n hb hx), fun b w e n hb hx => ?_, I.base.free, fun b w e hx => ?_, I.base.tups, I.base.frzs, I.base.tbls⟩, ⟨m', hn, fun j z v e1 e2 _ => ?_⟩, fun z c e => ?_, I.free, I.freeC, fun p hp => ?_, fun b w e => ?_, List.length_replicate⟩
  · obtain ⟨sl, e1⟩ := I.base.slot b w e n hb hx
    exact ⟨sl, k b _ (nL b w e) e1⟩
  · obtain ⟨w', e1⟩ := I.base.there b w e hx
    exact ⟨w', k b w' (nL b w e) e1⟩
  · rw [List.getElem?_replicate] at e2
    split at e2 <;> cases e2
  · obtain ⟨v', w', hw, hd⟩ := I.cell z c e
    exact ⟨v', w', k c w' (I.cne z c e) hw, hd⟩
  · obtain ⟨e, n, nl, nf, d⟩ := I.pin p hp
    exact ⟨k p.1 p.2 nl e, n, nl, nf, d⟩
  · refine (I.hok b w e).stay (fun c w' hc q => k c w' (fun z => ?_) q) (fun _ q => q) fun _ _ q => q
    rcases hc with hc | hc
    · rw [hc] at z
      rw [z, I.free] at e
      cases e
    · rw [z, I.free] at hc
      cases hc
/-- the exception has landed: the body's state, the exception tracked -/
theorem Inv.landed {s' : Shared} {h : Heap} {a : Addr} {cls a0 : Value} {B : Heap} {H' : Hp} (I : Inv X pins σ H s) (os : s'.os = s.os) (bare : AllBare s'.gens) (un : Un (frs X.stack) [] H H' s.heap s'.heap) (hok : HOk X.prog X.w H' B)
    (inB : ∀ b o, s.heap.get? b = some o → b ∉ frs X.stack → ∃ o', B.get? b = some o') (fly : Heap.FlyingW B X.stack a cls a0 s'.heap) (ups : s'.heap.UpToSlots h) (fly' : Heap.FlyingW B X.stack a cls a0 h) :
    Inv X pins σ (upd H' a (.ext (ExcO a cls))) { s' with heap := h } ∧ H' a = none := by
  have hHa : H' a = none := by
    cases q : H' a with
    | none => rfl
    | some u =>
      obtain ⟨v, e⟩ := (show ∃ u', B.get? a = some u' from (by
        have x := hok a u q
        cases u with
        | lst xs => obtain ⟨_, _, _, _, e⟩ := x; exact ⟨_, e⟩
        | tup xs => obtain ⟨_, _, _, p⟩ := x; obtain ⟨o, e, _⟩ := p; exact ⟨o, e⟩
        | dK kvs => obtain ⟨_, _, _, _, o, _, _, e, _⟩ := x; exact ⟨_, e⟩
        | dT kvs => obtain ⟨_, _, _, _, o, _, _, e, _⟩ := x; exact ⟨_, e⟩
        | set S n => obtain ⟨o, _, _, _, e, _⟩ := x; exact ⟨_, e⟩
        | ins C dx fs => obtain ⟨_, _, _, e, _⟩ := x; exact ⟨_, e⟩
        | own y => exact x
        | xd fs => obtain ⟨_, ⟨_, _, _, e, _⟩, _⟩ := x; exact ⟨_, e⟩
        | rng lo hi => obtain ⟨_, _, _, e⟩ := x; exact ⟨_, e⟩
        | frz ob u => obtain ⟨e, _⟩ := x; exact ⟨_, e⟩
        | tbl ps => exact ⟨_, (show B.get? a = some _ from x)⟩
        | met f y => exact ⟨_, (show B.get? a = some _ from x)⟩
        | ext φ => obtain ⟨_, ⟨o, e⟩, _⟩ := x; exact ⟨_, e⟩))
      rw [fly.2.1] at e
      cases e
  obtain ⟨oe, vs, T, oT, ts, he, hcls, hd, _⟩ := fly'.2.2.2
  -- what stood at the call is not the exception
  have ne : ∀ b o, s.heap.get? b = some o → b ≠ a := fun b o e z => by
    subst z
    by_cases hb : b ∈ frs X.stack
    · obtain ⟨_, o', ho', hnf⟩ := fly'.2.2.1.mem hb
      rw [he] at ho'
      cases ho'
      exact hnf _ hd
    · obtain ⟨o', e'⟩ := inB b o e hb
      rw [fly.2.1] at e'
      cases e'
  have stayU : ∀ b u, H' b = some u → upd H' a (.ext (ExcO a cls)) b = some u := fun b u e => by rw [upd_ne (ne_of_none e hHa)]; exact e
  refine ⟨I.call' (s' := { s' with heap := h }) (ch := []) os ⟨fun b o e n hb _ => ?_, fun b o e n hb _ => ?_, fun b o e n _ => ?_, fun b o e _ => ?_, fun b xs e => stayU _ _ (un.tups b xs e), fun b o xs e => stayU _ _ (un.frzs b o xs e), fun b ps e => ?_⟩ (fun b u e => ?_) bare (fun b z => nomatch z), hHa⟩
  · obtain ⟨o', e'⟩ := inB b o e hb
    have e2 : o = o' := Option.some.inj ((un.keep b o e n hb (fun z => nomatch z)).symm.trans (fly.1 b o' e'))
    rw [e2]
    exact fly'.1 b o' e'
  · obtain ⟨sl, e1⟩ := un.slot b o e n hb (fun z => nomatch z)
    obtain ⟨_, o', ho', hnf⟩ := fly.2.2.1.mem hb
    rw [e1] at ho'
    cases ho'
    obtain ⟨sl2, e3⟩ := ups b _ e1 hnf
    exact ⟨sl2, e3⟩
  · rw [upd_ne (ne b o e)]
    exact un.free b o e n (fun z => nomatch z)
  · by_cases hb : b ∈ frs X.stack
    · obtain ⟨o1, e1⟩ := un.there b o e (fun z => nomatch z)
      obtain ⟨_, o', ho', hnf⟩ := fly.2.2.1.mem hb
      rw [e1] at ho'
      cases ho'
      obtain ⟨sl2, e3⟩ := ups b _ e1 hnf
      exact ⟨_, e3⟩
    · obtain ⟨o', e'⟩ := inB b o e hb
      exact ⟨o', fly'.1 b o' e'⟩
  · obtain ⟨more, e1⟩ := un.tbls b ps e
    exact ⟨more, stayU _ _ e1⟩
  · by_cases hb : b = a
    · subst hb
      rw [upd_same] at e
      cases e
      refine ⟨⟨oe, vs, he, hcls.1, hd⟩, ⟨oe, he⟩, fun h1 h2 ⟨o1, v1, q1, q2, q3⟩ k => ⟨o1, v1, k o1 q1, q2, q3⟩⟩
    · rw [upd_ne hb] at e
      exact (hok b u e).stay (fun c w' _ q => fly'.1 c w' q) (fun c q => stayU _ _ q) fun c xs q => stayU _ _ q
end

section
variable {M : Model} {A : Around} {E : Value → Shared → Prop}
/-- an exception of the own class C is caught by the own class D above it -/
theorem match_above {h : Heap} {g : Array GenState} {d : Drawn} {t : Nat} {os : OsState} {e C D N N' : Addr} {oe : Obj} {Q : Bool → Shared → Prop}
    {nm q nm' q' : Str} {bs bm bs' bm' : List Value} {hdct hdct' : Bool} {sn sn' : List Str} {sub sub' : List Value} {ab ab' : Bool} {col col' : Option Bool} {dd dd' : Option Addr} {k0 k1 k2 k3 k5 k0' k1' k2' k3' k5' : Option Value} {newId newId' : String}
    (hC : h.get? C = some (excClassObj nm q C N bs bm hdct sn sub ab col dd k0 k1 k2 k3 k5 newId)) (hD : h.get? D = some (excClassObj nm' q' D N' bs' bm' hdct' sn' sub' ab' col' dd' k0' k1' k2' k3' k5' newId'))
    (he : h.get? e = some oe) (hcls : oe.cls = .ref C) (hb : bm.contains (.ref D) = true) (hbase : bm'.contains (.type "BaseException") = true) (hq : Q true ⟨h, g, d, t, os⟩) : wpAny M A (excMatches (.ref e) (.ref D)) Q E ⟨h, g, d, t, os⟩ := by
  have h1 : (Value.ref D :: bm').contains (.type "BaseException") = true := by rw [List.contains_cons, hbase, Bool.or_true]
  have h2 : (Value.ref C :: bm).contains (.ref D) = true := by rw [List.contains_cons, hb, Bool.or_true]
  have f := tc_notTuple
  unfold excMatches
  repeat (first | (with_reducible refine wpAny_loadPart_at he ?_; rw [hcls]) | with_reducible refine wpAny_loadPart_at hD ?_ | (with_reducible refine wpAny_isSubtype_exc hD ?_; rw [h1]) | (with_reducible refine wpAny_isSubtype_exc hC ?_; rw [h2]) | wp_step)
  exact hq
end
def tTry (K : PySem.W.Frag) (N : List Str) (tb : XK → TS) (ts : TS) (i : Nat) (D : Addr) : TS := fun Dn σ H => ∃ Ec : XK, tb Ec Dn σ H ∧ ∀ (C : Value) (dx : Option Addr) (H' : Hp), Ec C dx H' →
  (∃ c, C = .ref c ∧ OwnE K c [D]) ∧ ∀ (σ0 : St) (a : Addr), σ0.length = N.length → H' a = none → ts { nx := fun _ _ => False, rt := Dn.rt } (σ0.set i (some (.ref a))) (upd H' a (.ext (ExcO a C)))
theorem ps_tryX {X : Cx} {body : List Stmt} {b₀ : Stmt} {suite : List Stmt} {x n : Str} {np hpos pos : Pos} {tb : XK → TS} {ts : TS} {i : Nat} {D : Addr} {ds : List Addr} (hstk : X.stack = X.env :: X.outer) (hfr : X.env.frame = some X.env.locals)
    (hb : ∀ pinsO Ec, PSs (X.tried pinsO Ec) body (tb Ec)) (hs : ∀ a, PSs (X.suite a) (b₀ :: suite) ts) (hN : X.N.Nodup) (hi : X.N[i]? = some n) (hloc : X.env.kindOf n = some .local) (hg : Gl X x) (hm : X.mg x = some (.ref D)) (hO : OwnE X.K D ds)
    (hd : (x == ("__debug__" : Str)) = false := by decide) :
    PS X (.Try body [.ExceptHandler (some (.Name x np)) (some n) (b₀ :: suite) hpos] [] [] pos) (tTry X.K X.N tb ts i D) := by
  intro pins s σ H Dn I h
  obtain ⟨Ec, h1, h2⟩ := h
  refine wpAny_Try_except (wpAny_mono (hb pins Ec [] s σ H Dn (I.bear.wish _) h1) (fun f s1 q => ?_) fun e s1 q => ?_)
  · have q := q.untried
    cases f with
    | next => exact wpAny_execs_nil q
    | ret v => exact q
    | brk => exact q
    | cont => exact q
  obtain ⟨pins0, σ0, H0, sB, IB, a, cls, a0, B, H', rfl, os, bare, un, hok, inB, fly, hE⟩ := q
  obtain ⟨⟨c, rfl, hOc⟩, hR⟩ := h2 cls none H' hE
  have IB := IB.unbear
  have fly0 := fly
  rw [hstk] at fly0
  refine wpAny_looks_onW (by rw [I.ok.frames, hstk]) hfr fly0 fun h4 held ups1 => ?_
  refine wpAny_landsW held fun h5 fly5 ups2 => ?_
  have fly5' : Heap.FlyingW B X.stack a (.ref c) a0 h5 := by rw [hstk]; exact fly5
  obtain ⟨I5, hHa⟩ := IB.landed os bare un hok inB fly (ups1.trans ups2) fly5'
  obtain ⟨ob, hob, hobc⟩ := fly5.there
  have hcls : (X.env.scope.kind == .class || (X.env.scope.kind == .module && X.env.locals != X.env.globals)) = false := by rw [I.ok.kind]; rfl
  refine wpAny_handleBy_cons (codeAny_handlers_test (ld_glob (I5.suite a) hg hm ?_ hd)) (by intro q; cases q)
  obtain ⟨nm, q, N1, bs, bm, hdct, sn, sub, ab, col, dd, k0, k1, k2, k3, k5, mN, hC, hN1, hni, T, hbs⟩ := hOc _ I5.kIn
  have hbD := hbs D List.mem_cons_self
  obtain ⟨nm', q', N2, bs', bm', hdct', sn', sub', ab', col', dd', k0', k1', k2', k3', k5', mN', hD, hN2, hni', T', _⟩ := hO _ I5.kIn
  refine match_above hC hD hob hobc hbD (T'.hasType (by decide)) ?_
  refine codeAny_handlers_suite_as ?_
  refine lands_againW fly5 fun h6 fly6 ups3 => ?_
  have fly6' : Heap.FlyingW B X.stack a (.ref c) a0 h6 := by rw [hstk]; exact fly6
  obtain ⟨I6, _⟩ := IB.landed os bare un hok inB fly ((ups1.trans ups2).trans ups3) fly6'
  refine store_ok I6 hN hi (.inl hloc) (v := .ref a) rfl (fun s7 I7 => ?_) (.inr hloc)
  refine wpAny_mono (hs a pins s7 _ _ { nx := fun _ _ => False, rt := Dn.rt } (I7.suite a) (hR σ0 a IB.len hHa)) (fun f s8 q => ?_) fun _ _ z => z.elim
  cases f with
  | next => obtain ⟨_, _, _, z⟩ := q; exact z.elim
  | brk => obtain ⟨_, _, _, z⟩ := q; exact z.elim
  | cont => obtain ⟨_, _, _, z⟩ := q; exact z.elim
  | ret u =>
    obtain ⟨v, σ', H8, I8, r8, q8⟩ := q
    have I9 := I8.unsuite I.ok
    obtain ⟨m, hn, _⟩ := id I9.loc
    exact wpAny_nameGoes hloc hn hcls fun h9 m9 hn9 hs9 => ⟨v, _, H8, I9.goes hn9 hs9, r8, q8⟩
end L2

set_option Elab.async false
set_option linter.all false
set_option maxRecDepth 100000
set_option maxHeartbeats 4000000
namespace L2
open PySem PySem.Spec PyProof.Rows PySem.W PySem.Calls PySem.Builtin PySem.Builtin.ObjectAttr PySem.Builtin.Getset_descriptor
section
variable {prog : Program} {w : World} {A : Around} {E : Value → Shared → Prop} {K : Frag} {h : Heap} {g : Array GenState} {d : Drawn} {t : Nat} {os : OsState} {a C : Addr} {o : Obj} {vs : Array Value}
/-- what is known of an own exception class by its fragment -/
structure XcK (K : Frag) (C : Addr) : Prop where
  cls : findIn K (.ref C) "__class__" = some (some (.builtin "object.__class__"))
  ga : findIn K (.ref C) "__getattribute__" = some (some (.builtin "BaseException.__getattribute__"))
  gr : findIn K (.ref C) "__getattr__" = some none
  obj : mroIn K C (.type "object") = some true
  base : mroIn K C (.type "BaseException") = some true
  isc : ∃ c dd cd sl, K.lookup C = some ⟨c, dd, .cls cd, sl⟩
theorem xc_get {R : Result → Shared → Prop} (X : K.In h) (hx : h.get? a = some o) (hc : o.cls = .ref C) (hm : mroIn K C (.type "object") = some true) (hq : R (.ok (.ret (.ref C))) ⟨h, g, d, t, os⟩) :
    codeAny (model prog w) A (.call (.builtin "getset_descriptor.__get__") ⟨[.builtin "object.__class__", .ref a, .ref C], []⟩) R ⟨h, g, d, t, os⟩ := by
  have L0 : Looks (model prog w) h (typeOf (.ref a)) (.ref C) := hc ▸ (Looks.ld hx).andThen .now
  have L1 := looks_mroIn (M := model prog w) X hm
  refine codeAny_call_builtin KF.slot_gs.plain KF.entry_gs (KF.slot_gs.check _ _ _ _ _ _ _ _ KF.type_class (KF.args_gs _ _ _) (by
    unfold Builtin.«getset_descriptor.__get__» descrGet; rw [dga_obj]
    refine wpAny_bind (wpAny_pure (by
      unfold descrGetter descrCheckInstance descrNameAndClass isInstance; simp only [KF.owner_class]; repeat lk
      refine ⟨Code.quiet_builtin _ (by decide +kernel), codeAny_builtin KF.entry_class (by
        unfold Builtin.«object.__class__» shownTypeOf; repeat lk
        exact hq)⟩))))
theorem xc_entry {tk : Tok} {Q : Fin → Shared → Prop} (X : K.In h) (Z : XcK K C) (hx : h.get? a = some o) (hc : o.cls = .ref C) (hq : Q (.done (.ret (.ref C))) ⟨h, g, d, t, os⟩) :
    wpAny (model prog w) A (Builtin.«object.__getattribute__» ⟨[.ref a, .str "__class__" tk], []⟩) Q E ⟨h, g, d, t, os⟩ := by
  have L0 : Looks (model prog w) h (typeOf (.ref a)) (.ref C) := hc ▸ (Looks.ld hx).andThen .now
  have L1 := looks_findIn (M := model prog w) X Z.cls
  have hT5 : (⟨h, g, d, t, os⟩ : Shared).TypeIs (.builtin "object.__class__") "getset_descriptor" := F.typeOf_object_class
  have f5 := F.typeOf_object_class
  have f6 := F.slot_gs_get.lookup
  have f7 := F.slot_gs_set.lookup
  repeat (any_goals (first | assumption | (with_reducible refine wpAny_loadPart_at hx ?_; rw [hc]) | with_reducible refine L1.at ?_ | wp_step))
  refine xc_get X hx hc Z.obj ?_
  repeat (any_goals (first | assumption | wp_step))
theorem xc_check {M : Model} {nameV : Value} {Q : Unit → Shared → Prop} (X : K.In h) (Z : XcK K C) (hx : h.get? a = some o) (hc : o.cls = .ref C) (hq : Q () ⟨h, g, d, t, os⟩) : wpAny M A (checkBuiltinCall "BaseException.__getattribute__" ⟨[.ref a, nameV], []⟩) Q E ⟨h, g, d, t, os⟩ := by
  have hk : builtinKind "BaseException.__getattribute__" = some .slot := by decide +kernel
  have hsp : splitId "BaseException.__getattribute__" = some ("BaseException", "__getattribute__") := by decide +kernel
  have L0 : Looks M h (typeOf (.ref a)) (.ref C) := hc ▸ (Looks.ld hx).andThen .now
  have L1 := looks_mroIn (M := M) X Z.base
  have ha := F.args_bexc_ga (.ref a) nameV
  simp only [checkBuiltinCall, hk, hsp]
  refine wpAny_bind (by
    unfold isInstance
    repeat (first | (with_reducible refine wpAny_loadPart_at hx ?_; rw [hc]) | with_reducible refine L1.at ?_ | wp_step)
    exact hq)
theorem xc_call {tk : Tok} {R : Result → Shared → Prop} (X : K.In h) (Z : XcK K C) (hx : h.get? a = some o) (hc : o.cls = .ref C) (hq : R (.ok (.ret (.ref C))) ⟨h, g, d, t, os⟩) :
    codeAny (model prog w) A (.call (.builtin "BaseException.__getattribute__") ⟨[.ref a, .str "__class__" tk], []⟩) R ⟨h, g, d, t, os⟩ :=
  codeAny_call_builtin PySem.F.excAttr_ValueError.ga.plain F.entry_bexc_ga (xc_check X Z hx hc (xc_entry X Z hx hc hq))
theorem xc_by {tk : Tok} {Q : Value → Shared → Prop} (X : K.In h) (Z : XcK K C) (hx : h.get? a = some o) (hc : o.cls = .ref C) (hq : Q (.ref C) ⟨h, g, d, t, os⟩) : wpAny (model prog w) A (getAttrBy (.ref a) (.str "__class__" tk) false) Q E ⟨h, g, d, t, os⟩ := by
  have L1 := looks_findIn (M := model prog w) X Z.ga
  have L2' := looks_findIn (M := model prog w) X Z.gr
  have f3 := PySem.F.excAttr_ValueError.ga.bind (.ref a)
  have hx2 : (Value.builtin "BaseException.__getattribute__" == Value.builtin "object.__getattribute__") = false := by decide +kernel
  have hx1 : (onTheHeap (Value.ref C) && Value.builtin "BaseException.__getattribute__" == Value.builtin "object.__getattribute__") = false := by rw [hx2]; rfl
  repeat (any_goals (first | assumption | (with_reducible refine wpAny_loadPart_at hx ?_; rw [hc]) | with_reducible refine L1.at ?_ | with_reducible refine L2'.at ?_ | wp_step))
  refine xc_call X Z hx hc ?_
  repeat (any_goals (first | assumption | wp_step))
theorem xc_attr {Q : Option Value → Shared → Prop} (X : K.In h) (Z : XcK K C) (hx : h.get? a = some o) (hc : o.cls = .ref C) (hq : Q (some (.ref C)) ⟨h, g, d, t + 1, os⟩) : wpAny (model prog w) A (getAttr? (.ref a) "__class__") Q E ⟨h, g, d, t, os⟩ := by
  unfold getAttr? getAttrBy?
  repeat (any_goals (first | assumption | with_reducible apply xc_by X Z hx hc | wp_step))
theorem kitx_exc (Z : XcK K C) : KitX K (.ref a) (.ref C) (ExcO a (.ref C)) where
  ty := fun M h _ ⟨o, _, hx, hc, _⟩ => hc ▸ (Looks.ld hx).andThen .now
  it := fun M h X _ => by
    obtain ⟨c, dd, cd, sl, ho⟩ := Z.isc
    intro A' Q' E' s' k q
    unfold isType loadHead
    exact wpAny_bind (wpAny_loadPart (k _ _ (X _ _ ho)) (wpAny_pure q))
  ne := fun h tp dd its n sl X htp => by
    obtain ⟨c, dd, cd, sl', ho⟩ := Z.isc
    refine Bool.eq_false_iff.mpr fun q => ?_
    obtain rfl : C = tp := Value.ref.inj (beq_iff_eq.mp q)
    cases (X _ _ ho).symm.trans htp
  ca := fun {prog w A E Q s} X ⟨o, _, hx, hc, _⟩ k => by
    obtain ⟨h, g, d, t, os⟩ := s
    exact xc_attr X Z hx hc k
end
section
variable {X : Cx}
/-! ### isinstance(e, C) of an own exception -/
theorem call_isinstX : CallR X (.builtin "isinstance") (fun xs H Q => ∃ (a C : Addr) (cv : V) (c : Value) (k : Bool), xs = [.ref a, cv] ∧ H a = some (.ext (ExcO a (.ref C))) ∧ XcK X.K C ∧ (∀ u, RelV cv u → u = c) ∧ kitOne X.K (.ref C) c = some k ∧ Q (.bl k) H) := by
  intro pins s σ H xs us Q I r h
  obtain ⟨a, C, cv, c, k, rfl, ha, Z, hc, e, q⟩ := h
  obtain ⟨u, w', rfl, r1, r2⟩ := vals2 r
  cases r1
  rw [hc w' r2]
  obtain ⟨p, _, _⟩ := (show ObjOk X.prog X.w H s.heap a (.ext (ExcO a (.ref C))) from I.hok a _ ha)
  exact kia_one (kitx_exc Z) I.kIn p e (fun z => nomatch z) fun tk => ⟨.bl k, H, I.tok _, rfl, q⟩
/-! ### bs.count(k), bs.index(k) of bools -/
theorem vals_bools : ∀ {bs : List Bool} {its : List Value}, Vals (bs.map V.bl) its → its = bs.map Value.bool
  | [], _, r => by
    rw [List.map_nil] at r
    cases r
    rfl
  | b :: bs, _, r => by
    rw [List.map_cons] at r
    cases r with
    | cons r1 r2 =>
      cases r1
      rw [vals_bools r2]
      rfl
def eqB (k : Bool) : Value → Bool
  | .bool b => b == k
  | _ => false
theorem count_bools (k : Bool) : ∀ bs : List Bool, (bs.map Value.bool).countP (eqB k) = bs.count k
  | [] => rfl
  | b :: bs => by
    rw [List.map_cons, List.countP_cons, List.count_cons, count_bools k bs]
    rfl
theorem mt_countB : MtR X "list.count" (fun x xs H Q => ∃ (l : Addr) (bs : List Bool) (k : Bool), x = .ref l ∧ xs = [.bl k] ∧ H l = some (.lst (bs.map V.bl)) ∧ Q (.int (bs.count k : Nat)) H) := by
  intro pins s σ H x vs v us Q I rx rv h
  obtain ⟨l, bs, k, rfl, rfl, hH, q⟩ := h
  cases rx
  obtain ⟨u, rfl, ru⟩ := rv.one
  cases ru
  obtain ⟨z, its, n, r, e⟩ := (show ObjOk X.prog X.w H s.heap l (.lst (bs.map V.bl)) from I.hok l _ hH)
  obtain rfl := vals_bools r
  refine call_meets F.slot_list_count ⟨_, e, rfl⟩ F.entry_list_count (F.args_list_count_2 _ _) (PySem.SeqAt.list_countAt l _ n none #[] (.bool k) (eqB k)) ⟨e, fun y hy => ?_, ?_⟩
  · have hy' : y ∈ bs.map Value.bool := by simpa using hy
    obtain ⟨b, _, rfl⟩ := List.mem_map.mp hy'
    exact SeqAt.EqAt.bool_bool b k
  · refine ⟨.int (bs.count k : Nat), H, I.tok _, ⟨s.toks, ?_⟩, q⟩
    show Value.int (((bs.map Value.bool).toArray.toList.countP (eqB k) : Nat) : Int) s.toks = _
    rw [show (bs.map Value.bool).toArray.toList = bs.map Value.bool by simp, count_bools]
theorem mt_indexB : MtR X "list.index" (fun x xs H Q => ∃ (l : Addr) (bs : List Bool) (k : Bool) (j : Nat), x = .ref l ∧ xs = [.bl k] ∧ H l = some (.lst (bs.map V.bl)) ∧ bs.length ≤ 1000 ∧ bs[j]? = some k ∧ (∀ m, m < j → bs[m]? ≠ some k) ∧ Q (.int j) H) := by
  intro pins s σ H x vs v us Q I rx rv h
  obtain ⟨l, bs, k, j, rfl, rfl, hH, hl, hj, hno, q⟩ := h
  cases rx
  obtain ⟨u, rfl, ru⟩ := rv.one
  cases ru
  obtain ⟨z, its, n, r, e⟩ := (show ObjOk X.prog X.w H s.heap l (.lst (bs.map V.bl)) from I.hok l _ hH)
  obtain rfl := vals_bools r
  obtain ⟨hjl, hje⟩ := List.getElem?_eq_some_iff.mp hj
  have at_ : ∀ (m : Nat) (hm : m < (bs.map Value.bool).toArray.size) (hm' : m < bs.length), (bs.map Value.bool).toArray[m] = Value.bool bs[m] := fun m hm hm' => by simp
  refine call_meets F.slot_list_index ⟨_, e, rfl⟩ F.entry_list_index (F.args_list_index_2 _ _) (PySem.SeqAt.list_indexAt l _ n none #[] (.bool k) (eqB k) j (by simpa using hjl) (by omega) ?_ fun m hm hlt => ?_) ⟨e, fun y hy => ?_, ?_⟩
  · rw [at_ j _ hjl, hje]
    exact beq_self_eq_true k
  · have hm' : m < bs.length := by simpa using hm
    rw [at_ m _ hm']
    have := hno m hlt
    rw [List.getElem?_eq_getElem hm'] at this
    show (bs[m] == k) = false
    rw [Bool.eq_false_iff]
    intro z
    exact this (by rw [beq_iff_eq.mp z])
  · have hy' : y ∈ bs.map Value.bool := by simpa using hy
    obtain ⟨b, _, rfl⟩ := List.mem_map.mp hy'
    exact SeqAt.EqAt.bool_bool b k
  · exact ⟨.int j, H, I.tok _, ⟨_, rfl⟩, q⟩
end

/-! ### a def called within an except suite: no word of what is handled -/
structure RoomU (k : Nat) (A : Around) : Prop where
  dp : A.depth + 3 * k + 5 < recursionLimit
  un : A.units + 16 * k + 200 < cLine
theorem Room.u {k : Nat} {A : Around} (r : Room k A) : RoomU k A := ⟨r.dp, r.un⟩
abbrev Cx.uncalm (X : Cx) : Cx := { X with calm := false }
structure FnOkU (P : Program) (w : World) (K : PySem.W.Frag) (mg : Str → Option Value) (base : Heap) (k : Nat) (f : Addr) (fd : FuncData) (ps : List Str) (sp : Sp) : Prop where
  len : ∀ vs H Q E, sp vs H Q E → vs.length = ps.length
  run : ∀ (A : Around) (outer : List Env) (s : Shared) (H : Hp) (args : Args) (us : List Value) (vs : List V) (Q : VK) (E : XK), RoomU k A → Env0 P w K mg base A outer s H → BindsTo s fd args (ps.zip us) → Vals vs us → sp vs H Q E →
    codeAny (model P w) A (.call (.ref f) args) (CR CX0 outer P w H s Q E) s
theorem fn_ofU {P : Program} {w : World} {K : PySem.W.Frag} {mg : Str → Option Value} {base : Heap} {k : Nat} {f : Addr} {name qual : Str} {params : Arguments} {body : List Stmt} {scope : Scope} {dV kV doc pm cdv ct oc : Value} {an od : Option Addr}
    {osl : Array (Option Value)} {N ps : List Str} {sp : Sp} (lk : K.lookup f = some ⟨oc, od, .func (PySem.W.fnOf name qual params body scope dV kV doc pm an cdv ct), osl⟩) (hcd : PySem.W.codeIn K cdv qual = true) (S : FnScope N ps scope)
    (len : ∀ vs H Q E, sp vs H Q E → vs.length = ps.length)
    (hbody : ∀ (A : Around) (outer : List Env) (s : Shared) (H : Hp) (vs : List V) (Q : VK) (E : XK), RoomU k (A.deeper (envOfC qual scope s.heap.objs.size f cdv)) → sp vs H Q E →
      ∃ t, PSs (cxOf CX0 P w K mg base N qual scope f cdv A outer s H E).uncalm.nox body t ∧ t { nx := fun _ H' => Q .non H', rt := Q } (start N vs) H) :
    FnOkU P w K mg base (k + 1) f (PySem.W.fnOf name qual params body scope dV kV doc pm an cdv ct) ps sp := by
  refine ⟨len, fun A outer s H args us vs Q E hr e0 hb r hsp => ?_⟩
  have hl := len _ _ _ _ hsp
  have KX : K.In s.heap := e0.mod.kin.keeps fun b o e => (e0.bs b o e).1
  have lim : s.heap.NoLimit := e0.mod.nolimit.keeps fun b o e => (e0.bs b o e).1
  have hkd : ∀ y ∈ ps.zip us, scope.names.lookup y.1 = some .local ∨ (scope.names.lookup y.1 = some .cell ∧ ((cellsFrom (s.heap.objs.size + 1) scope.names []).lookup y.1).isSome = true) := fun ⟨n, v⟩ hy =>
    (S.par n (List.of_mem_zip hy).1).imp id fun q => ⟨q, PySem.W.cellsFrom_some _ _ _ (.inl q)⟩
  have hdp : A.depth < recursionLimit := by have := hr.dp; omega
  refine codeAny_call_function hdp (KX _ _ lk) rfl S.co S.gen rfl (PySem.W.codeRec_of KX hcd) (hb _ _ _ _ (wpAny_newFunctionEnv_cells S.kind hkd fun env he s1 x => ?_))
  subst he
  refine ⟨lim.keeps x.toInCall.keep, codeAny_func ?_⟩
  have hr2 : RoomU k (A.deeper (envOfC qual scope s.heap.objs.size f cdv)) := ⟨by have := hr.dp; show A.depth + 1 + 3 * k + 5 < _; omega, by have := hr.un; show A.units + 3 + 16 * k + 200 < _; omega⟩
  obtain ⟨t, ht, hq⟩ := hbody A outer s H vs Q E hr2 hsp
  have I0 : Inv (cxOf CX0 P w K mg base N qual scope f cdv { A with handled := none } outer s H E) [] (start N vs) H s1 := inv_start S rfl ⟨e0.frames, e0.mod, e0.bs, e0.bsz, e0.funs, e0.frf, e0.hok, e0.bare⟩ hl r x
  have I : Inv (cxOf CX0 P w K mg base N qual scope f cdv A outer s H E).uncalm [] (start N vs) H s1 :=
    ⟨⟨I0.ok.mod, I0.ok.kind, I0.ok.glob, I0.ok.blt, I0.ok.above, I0.ok.inj, I0.ok.has, I0.ok.cab, (fun z => nomatch z), Around.frames_deeper e0.frames, .inr ⟨rfl, rfl⟩, I0.ok.exf, I0.ok.bs, I0.ok.bsz, I0.ok.noex, I0.ok.exfs, I0.ok.funs, I0.ok.frf⟩, I0.os, I0.bare, I0.base, I0.loc, I0.cell, I0.free, I0.freeC, I0.pin, I0.hok, I0.len⟩
  refine wpAny_mono (ht [] s1 (start N vs) H _ (I.wish _) hq) (fun fl s' hs => ?_) fun e s' hs => hs.elim
  have hs := hs.unwish
  cases fl with
  | ret u =>
    obtain ⟨v, σ', H', J, rv, q⟩ := hs
    exact ⟨v, H', J.os, J.bare, J.base, J.hok, rv, q⟩
  | next =>
    obtain ⟨σ', H', J, q⟩ := hs
    exact ⟨V.non, H', J.os, J.bare, J.base, J.hok, rfl, q⟩
  | brk =>
    obtain ⟨_, _, _, q⟩ := hs
    exact q.elim
  | cont =>
    obtain ⟨_, _, _, q⟩ := hs
    exact q.elim
theorem Fun.okU {P : Program} {w : World} {K : PySem.W.Frag} {mg : Str → Option Value} {base : Heap} {x qual : Str} {st : Stmt} {f : Addr} {fd : FuncData} {N ps : List Str} {k : Nat} {sp : Sp} (F : Fun K x qual st f fd) (S : FnScope N ps (defScope st)) (len : ∀ vs H Q E, sp vs H Q E → vs.length = ps.length)
    (hbody : ∀ (cdv : Value) (A : Around) (outer : List Env) (s : Shared) (H : Hp) (vs : List V) (Q : VK) (E : XK), RoomU k (A.deeper (envOfC qual (defScope st) s.heap.objs.size f cdv)) → sp vs H Q E →
      ∃ t, PSs (cxOf CX0 P w K mg base N qual (defScope st) f cdv A outer s H E).uncalm.nox (defBody st) t ∧ t { nx := fun _ H' => Q .non H', rt := Q } (start N vs) H) : FnOkU P w K mg base (k + 1) f fd ps sp := by
  obtain ⟨oc, od, kV, doc, pm, an, cdv, ct, osl, rfl, lk, hcd⟩ := F.ex
  exact fn_ofU lk hcd S len fun A outer s H vs Q E hr hsp => hbody cdv A outer s H vs Q E hr hsp
structure CalU (P : Program) (w : World) (K : PySem.W.Frag) (mg : Str → Option Value) (base : Heap) (n : Nat) (x : Str) (ps : List Str) (sp : Sp) : Prop where
  ex : ∃ (f : Addr) (fd : FuncData), FnOkU P w K mg base n f fd ps sp ∧ Binds K fd ps [] ∧ PySem.W.keepIn K (.ref f) = true ∧ mg x = some (.ref f)
theorem calU_mk {P : Program} {w : World} {K : PySem.W.Frag} {mg : Str → Option Value} {base : Heap} {n : Nat} {x qual : Str} {ps : List Str} {sp : Sp} {st : Stmt} {f : Addr} {fd : FuncData}
    (F : Fun K x qual st f fd) (b : Binds K fd ps []) (m : mg x = some (.ref f)) (G : FnOkU P w K mg base n f fd ps sp) : CalU P w K mg base n x ps sp := ⟨f, fd, G, b, F.kp, m⟩
theorem pe_cU {X : Cx} {k : Nat} {x : Str} {ps : List Str} {sp : Sp} {e : Expr} {es : List Expr} {t : TA} {p pos : Pos} (C : CalU X.prog X.w X.K X.mg X.base k x ps sp) (hr : RoomU k X.A) (hg : Gl X x)
    (ha : PA X (e :: es) t) (hdb : (x == ("__debug__" : Str)) = false := by decide) (he : starEach (e :: es) X.env = (false, eval e X.env) :: starEach es X.env := by rfl) (hpl : (backTo pos (starEach es X.env)).any (·.1) = false := by rfl) :
    PE X (.Call (.Name x p) (e :: es) [] pos) (tCall sp [] E0 t) := by
  obtain ⟨f, fd, F, b, kp, m⟩ := C.ex
  intro pins s σ H Q I h
  refine wpAny_Call_Name_kw (ld_glob I hg m (PySem.W.callWith_K (h₀ := X.base) I.ok.mod.kin kp (thn (ha pos pins s σ H _ I h) fun us s1 ⟨vs, H1, I1, r, q⟩ => ⟨I1.kIn, ?_⟩) he hpl) hdb)
  have q : sp (vs ++ []) H1 Q E0 := q
  rw [List.append_nil] at q
  have hl : (us ++ []).length = ps.length := by rw [List.append_nil, ← r.length]; exact F.len _ _ _ _ q
  have hb := b s1 us I1.kIn hl
  rw [List.append_nil] at hb
  refine wpAny_call (codeAny_mono (F.run X.A X.stack s1 H1 ⟨us, []⟩ us vs Q E0 hr I1.env0 hb r q) fun r s' hq => ?_)
  cases r with
  | error e => exact False.elim hq
  | ok fl => cases fl <;> first | exact I1.after hq | exact False.elim hq
end L2

set_option Elab.async false
set_option linter.all false
set_option maxRecDepth 100000
set_option maxHeartbeats 4000000
namespace CF
open PySem PySem.Spec L2

/-! ### refusals -/
def GoodP (p : Int) : Prop := ∃ n : Nat, p = (n : Int) ∧ IsPr n
def GoodN (n : Int) : Prop := 0 ≤ n ∧ n ≤ 1000000000000000000000000000000
theorem goodP_in {p : Int} : GoodP p ↔ inV (.int p) primesV = true := by
  constructor
  · rintro ⟨n, rfl, hn⟩
    exact pr_in hn
  · intro h
    by_cases h0 : 0 ≤ p ∧ p ≤ 97
    · obtain ⟨n, rfl⟩ := Int.eq_ofNat_of_zero_le h0.1
      refine ⟨n, rfl, ?_⟩
      have all : ∀ n : Nat, n < 98 → inV (.int (n : Int)) primesV = true → n ∈ primesN := by decide +kernel
      exact all n (by omega) h
    · exfalso
      unfold inV at h
      rw [List.any_eq_true] at h
      obtain ⟨v, hv, e⟩ := h
      have all : ∀ v ∈ primesV, ∃ i : Int, v = .int i ∧ 0 ≤ i ∧ i ≤ 97 := by
        intro v hv
        obtain ⟨i, hi, rfl⟩ := List.mem_map.mp hv
        have z : ∀ i ∈ primesI, 0 ≤ i ∧ i ≤ 97 := by decide
        exact ⟨i, rfl, z i hi⟩
      obtain ⟨i, rfl, hi⟩ := all v hv
      have e' : i = p := beq_iff_eq.mp (show (i == p) = true from e)
      omega
instance (p : Int) : Decidable (GoodP p) := decidable_of_iff _ goodP_in.symm
instance (n : Int) : Decidable (GoodN n) := inferInstanceAs (Decidable (_ ∧ _))
def Fit (i : Int) : Prop := i.natAbs < 2 ^ 1000
/-- the classes of the refusals, as they lie in the text's part of the heap -/
structure Refs (K : PySem.W.Frag) (mg : Str → Option Value) (cE cP cM cL cT : Addr) : Prop where
  mE : mg "ChoiceError" = some (.ref cE)
  mP : mg "NoPrime" = some (.ref cP)
  mM : mg "NoMany" = some (.ref cM)
  mL : mg "NoPlace" = some (.ref cL)
  mT : mg "TooMany" = some (.ref cT)
  oE : OwnE K cE []
  o : ∀ c ∈ [cP, cM, cL, cT], OwnE K c [cE]
  x : ∀ c ∈ [cP, cM, cL, cT], XcK K c
  kit : ∀ c ∈ [cP, cM, cL, cT], ∀ d ∈ [cP, cM, cL, cT], PySem.W.kitOne K (.ref c) (.ref d) = some (decide (c = d))
  kv : ∀ c ∈ [cP, cM, cL, cT], PySem.W.kitOne K (.ref c) (.type "ValueError") = some true
  nd : [cP, cM, cL, cT].Nodup
/-- check_prime, check_many -/
def spCP (cP : Addr) : Sp := fun vs H Q E => ∃ p : Int, vs = [.int p] ∧ Fit p ∧ (GoodP p → Q .non H) ∧ (¬ GoodP p → E (.ref cP) none H)
def spCM (cM : Addr) : Sp := fun vs H Q E => ∃ n : Int, vs = [.int n] ∧ Fit n ∧ (GoodN n → Q .non H) ∧ (¬ GoodN n → E (.ref cM) none H)
/-- a bad prime, or a bad number with a good prime -/
def BadE (cP cM : Addr) (p n : Int) (H : Hp) (E : XK) : Prop := Fit p ∧ Fit n ∧ ((¬ GoodP p ∧ E (.ref cP) none H) ∨ (GoodP p ∧ ¬ GoodN n ∧ E (.ref cM) none H))
def sB2 (cP cM : Addr) : Sp := fun vs H Q E => ∃ n p : Int, vs = [.int n, .int p] ∧ BadE cP cM p n H E
def sB3 (cP cM : Addr) : Sp := fun vs H Q E => ∃ n x p : Int, vs = [.int n, .int x, .int p] ∧ BadE cP cM p n H E
def sBC (cP cM : Addr) : Sp := fun vs H Q E => ∃ a b p : Int, vs = [.int a, .int b, .int p] ∧ Fit p ∧ Fit a ∧ Fit b ∧ ((¬ GoodP p ∧ E (.ref cP) none H) ∨ (GoodP p ∧ ¬ (GoodN a ∧ GoodN b) ∧ E (.ref cM) none H))
def sBH (cM cT : Addr) : Sp := fun vs H Q E => ∃ n x : Int, vs = [.int n, .int x] ∧ Fit n ∧ ((¬ GoodN n ∧ E (.ref cM) none H) ∨ (GoodN n ∧ 400 < n ∧ E (.ref cT) none H))
def sBA (cL : Addr) : Sp := fun vs H Q E => ∃ (n : Nat) (m : Int) (p : Nat), vs = [.int n, .int m, .int p] ∧ IsPr p ∧ n ≤ 1000000000000000000000000000000 ∧ Fit m ∧ (m < 0 ∨ ((tot p n : Nat) : Int) ≤ m) ∧ ∀ H', Same H H' → E (.ref cL) none H'
/-- the words -/
def wP : Str := "prime"
def wM : Str := "many"
def wL : Str := "place"
def wT : Str := "too"
def wD : Str := "done"
def WordOf (cP cM cL cT c : Addr) (x : Str) : Prop := (c = cP ∧ x = wP) ∨ (c = cM ∧ x = wM) ∨ (c = cL ∧ x = wL) ∨ (c = cT ∧ x = wT)
def spWord (cP cM cL cT : Addr) : Sp := fun vs H Q _ => ∃ (a c : Addr) (x : Str), vs = [.ref a] ∧ H a = some (.ext (ExcO a (.ref c))) ∧ WordOf cP cM cL cT c x ∧ ∀ H', Same H H' → Q (.str x) H'
theorem fit_small {i : Int} (h : i.natAbs ≤ 2 ^ 400) : Fit i := Nat.lt_of_le_of_lt h (Nat.pow_lt_pow_right (by decide) (by decide))
theorem goodN_nat {n : Int} (h : GoodN n) : ∃ k : Nat, n = (k : Int) ∧ k ≤ 1000000000000000000000000000000 := by
  obtain ⟨k, rfl⟩ := Int.eq_ofNat_of_zero_le h.1
  exact ⟨k, rfl, by have := h.2; omega⟩
end CF

namespace CF
open PySem PySem.Spec L2
def top (i : Nat) : Stmt := PySem.Challenge.pw_choicefigures_k14_refused.main.body.getD i (.Pass ⟨0, 0, 0, 0⟩)
abbrev s__law_cell_at : Stmt := top 31
abbrev s__law_prime_by : Stmt := top 32
abbrev s__law_many_by : Stmt := top 33
abbrev s_check_prime : Stmt := top 8
abbrev s_check_many : Stmt := top 9
abbrev s_figures : Stmt := top 10
abbrev s_carries : Stmt := top 11
abbrev s_order_power : Stmt := top 12
abbrev s_has_choice : Stmt := top 15
abbrev s_choices : Stmt := top 16
abbrev s_rest : Stmt := top 17
abbrev s_power : Stmt := top 18
abbrev s_figure_orders : Stmt := top 20
abbrev s_order_last : Stmt := top 21
abbrev s_quotient : Stmt := top 22
abbrev s_last : Stmt := top 19
abbrev s_free : Stmt := top 24
abbrev s_next_free : Stmt := top 25
abbrev s_free_ahead : Stmt := top 26
abbrev s_free_at : Stmt := top 27
abbrev s_is_bare : Stmt := top 28
abbrev s_is_full : Stmt := top 29
abbrev s__law_word_of : Stmt := top 34
abbrev s__law_first : Stmt := top 35
abbrev s__law_second : Stmt := top 36
abbrev s__law_tried : Stmt := top 37
abbrev s__law_choosing : Stmt := top 38
abbrev s_law : Stmt := top 39
seal L2.PSs L2.PS L2.PE L2.PT L2.PA L2.PI L2.PG
section
variable {P : Program} {w : World} {K : PySem.W.Frag} {mg : Str → Option Value} {base : Heap} {f : Addr} {fd : FuncData}
theorem sc__law_cell_at : FnScope ["script", "k"] ["script", "k"] (defScope s__law_cell_at) := ⟨rfl, rfl, rfl, by decide +kernel, rfl, by decide +kernel, by decide +kernel⟩
theorem ok__law_cell_at (F : Fun K "_law_cell_at" "_law_cell_at" s__law_cell_at f fd) (z_len : mg "len" = none) : FnOk P w K mg base CX0 1 f fd ["script", "k"] (spCell K) := by
  refine F.ok sc__law_cell_at (fun vs H Q E h => ?_) (fun cdv A outer s H vs Q E hr h => ?_)
  · obtain ⟨a, ns, k, rfl, _⟩ := h
    rfl
  obtain ⟨a, ns, k, rfl, hS, q⟩ := h
  refine ⟨_, pss_consE rfl (ps_if (pt_cmpR op_lt (pv 1) (pe_callB call_len_seq rfl z_len PySem.boot_len (pa_cons (pv 0) pa_nil)) (nomark _)) (pss_one (ps_ret (pe_ix ix_list (pv 0) (pv 1) (fun _ _ => rfl)))) pss_nil)
    (pss_one (ps_ret pe_int)), ?_⟩
  have hl : (ns.map V.int).length = ns.length := List.length_map _
  refine ⟨_, rfl, _, rfl, a, _, rfl, .inl hS, _, _, rfl, rfl, _, rfl, ?_⟩
  refine iteD (fun c => ?_) (fun c => ?_)
  · have c' := of_decide_eq_true c
    rw [hl] at c'
    have hk : k < ns.length := by omega
    refine ⟨_, rfl, _, rfl, a, _, _, _, rfl, rfl, hS, atI_nat (v := V.int (cellI ns k)) ?_, q⟩
    rw [List.getElem?_map, List.getElem?_eq_getElem hk]
    show some (V.int ns[k]) = some (V.int (ns.getD k 0))
    rw [List.getD, List.getElem?_eq_getElem hk]
    rfl
  · have c' := of_decide_eq_false c
    rw [hl] at c'
    have hk : ns.length ≤ k := by omega
    have e : cellI ns k = 0 := by
      show ns.getD k 0 = 0
      rw [List.getD, List.getElem?_eq_none hk]
      rfl
    rw [e] at q
    exact q

theorem sc__law_prime_by : FnScope ["cell", "some"] ["cell"] (defScope s__law_prime_by) := ⟨rfl, rfl, rfl, by decide +kernel, rfl, by decide +kernel, by decide +kernel⟩
theorem ok__law_prime_by (F : Fun K "_law_prime_by" "_law_prime_by" s__law_prime_by f fd) : FnOk P w K mg base CX0 1 f fd ["cell"] spPb := by
  refine F.ok sc__law_prime_by (fun vs H Q E h => ?_) (fun cdv A outer s H vs Q E hr h => ?_)
  · obtain ⟨c, rfl, _⟩ := h
    rfl
  obtain ⟨c, rfl, q⟩ := h
  have nd := sc__law_prime_by.nd
  refine ⟨_, pss_consE rfl (ps_set (i := 1) nd rfl (Or.inl rfl) (pe_lst (pa_ints (is := primesI) rfl)))
    (pss_cons (ps_if (pt_cmpR op_eq (pe_op op_mod (pv 0) pe_int) pe_int (nomark _)) (pss_one (ps_ret (pe_ix ix_list (pv 1) (pe_op op_mod (pe_op op_fdiv (pv 0) pe_int) pe_int) (fun _ _ => rfl)))) pss_nil)
    (pss_one (ps_ret (pe_ix ix_list (pv 1) (pe_op op_mod (pe_op op_fdiv (pv 0) pe_int) pe_int) (fun _ _ => rfl))))), ?_⟩
  refine ⟨small (by show 25 ≤ 1000; decide), fun l hl => ?_⟩
  have two : (0 : Int) < 2 := by decide
  have p25 : (0 : Int) < 25 := by decide
  have p4 : (0 : Int) < 4 := by decide
  have dv : CDiv c 2 := ⟨by decide, by decide⟩
  refine ⟨_, rfl, _, _, rfl, rfl, two, rfl, _, rfl, ?_⟩
  refine iteD (fun k => ?_) (fun k => ?_)
  · have h0 : 0 ≤ c / 2 % 25 := Int.emod_nonneg _ (by decide)
    have h1 : c / 2 % 25 < 25 := Int.emod_lt_of_pos _ (by decide)
    obtain ⟨p, hp, e⟩ := pr_at h0 h1
    exact ⟨_, rfl, _, rfl, _, _, rfl, rfl, dv, _, _, rfl, rfl, p25, l, primesV, _, _, rfl, rfl, SqL.of upd_same, e, q p _ hp (same_new hl _)⟩
  · have h0 : 0 ≤ c / 2 % 4 := Int.emod_nonneg _ (by decide)
    have h1 : c / 2 % 4 < 4 := Int.emod_lt_of_pos _ (by decide)
    obtain ⟨p, hp, e⟩ := pr_at h0 (show c / 2 % 4 < 25 by omega)
    exact ⟨_, rfl, _, rfl, _, _, rfl, rfl, dv, _, _, rfl, rfl, p4, l, primesV, _, _, rfl, rfl, SqL.of upd_same, e, q p _ hp (same_new hl _)⟩

theorem pow_bd {p t : Nat} (hp : 2 ≤ p) (h : p ^ t ≤ 10000000000000000000000000000) : t ≤ 93 := by
  have h1 : 2 ^ t ≤ p ^ t := Nat.pow_le_pow_left hp t
  by_cases ht : 94 ≤ t
  · have h2 : 2 ^ 94 ≤ 2 ^ t := Nat.pow_le_pow_right (by decide) ht
    have e : (2 : Nat) ^ 94 = 19807040628566084398385987584 := by decide
    omega
  · omega
theorem mb_step {p t : Nat} : (((p ^ t : Nat) : Int) - 1) * (p : Int) + (p : Int) - 1 = ((p ^ (t + 1) : Nat) : Int) - 1 := by
  rw [Nat.pow_succ, Int.natCast_mul, Int.sub_mul, Int.one_mul]
  omega
theorem mb_mul {p t : Nat} : ((p ^ t : Nat) : Int) * (p : Int) = ((p ^ (t + 1) : Nat) : Int) := by
  rw [Nat.pow_succ, Int.natCast_mul]
theorem floor_le {c w : Int} (hw : 0 < w) : c / w * w ≤ c := Int.ediv_mul_le c (by omega)
theorem sc__law_many_by : FnScope ["script", "first", "prime", "way", "cell", "number", "size", "worth", "k"] ["script", "first", "prime"] (defScope s__law_many_by) := ⟨rfl, rfl, rfl, by decide +kernel, rfl, by decide +kernel, by decide +kernel⟩
theorem ok__law_many_by (F : Fun K "_law_many_by" "_law_many_by" s__law_many_by f fd) (c__law_cell_at : Cal P w K mg base 1 "_law_cell_at" ["script", "k"] (spCell K)) (z_range : mg "range" = none) : FnOk P w K mg base CX0 2 f fd ["script", "first", "prime"] (spMb K) := by
  refine F.ok sc__law_many_by (fun vs H Q E h => ?_) (fun cdv A outer s H vs Q E hr h => ?_)
  · obtain ⟨a, ns, fi, p, rfl, _⟩ := h
    rfl
  obtain ⟨a, ns, fi, p, rfl, hS, h2, h97, q⟩ := h
  have nd := sc__law_many_by.nd
  refine ⟨_, pss_consE rfl (ps_set (i := 3) nd rfl (Or.inl rfl) (pe_op op_mod (pe_c c__law_cell_at hr rfl (pa_cons (pv 0) (pa_cons (pe_op op_add (pv 1) pe_int) pa_nil))) pe_int))
    (pss_cons (ps_set (i := 4) nd rfl (Or.inl rfl) (pe_c c__law_cell_at hr rfl (pa_cons (pv 0) (pa_cons (pv 1) pa_nil))))
    (pss_cons (ps_if (pt_cmpR op_eq (pv 3) pe_int (nomark _)) (pss_one (ps_ret (pe_op op_mod (pv 4) pe_int))) pss_nil)
    (pss_cons (ps_set (i := 5) nd rfl (Or.inl rfl) pe_int)
    (pss_cons (ps_set (i := 6) nd rfl (Or.inl rfl) pe_int)
    (pss_cons (ps_while PassesOwn.never (pt_cmpR op_lt (pv 5) (pe_op op_pow pe_int pe_int) (nomark _))
      (pss_cons (ps_set (i := 6) nd rfl (Or.inl rfl) (pe_op op_add (pv 6) pe_int))
      (pss_one (ps_set (i := 5) nd rfl (Or.inl rfl) (pe_op op_sub (pe_op op_add (pe_op op_mul (pv 5) (pv 2)) (pv 2)) pe_int)))))
    (pss_cons (ps_set (i := 7) nd rfl (Or.inl rfl) pe_int)
    (pss_cons (ps_for PassesOwn.never rfl (pi_range1 rfl z_range (pa_cons (pe_op op_mod (pe_op op_fdiv (pe_c c__law_cell_at hr rfl (pa_cons (pv 0) (pa_cons (pe_op op_add (pv 1) pe_int) pa_nil))) pe_int) (pv 6)) pa_nil)) (pg_name (i := 8) nd rfl (Or.inl rfl))
      (pss_one (ps_set (i := 7) nd rfl (Or.inl rfl) (pe_op op_mul (pv 7) (pv 2)))))
    (pss_cons (ps_if (pt_cmpR op_eq (pv 3) pe_int (nomark _)) (pss_one (ps_ret (pe_op op_mod (pv 7) (pe_op op_pow pe_int pe_int)))) pss_nil)
    (pss_cons (ps_if (pt_cmpR op_eq (pv 3) pe_int (nomark _)) (pss_one (ps_ret (pe_op op_mod (pe_op op_sub (pe_op op_mul (pv 7) (pe_op op_add pe_int (pe_op op_mod (pv 4) (pv 2)))) pe_int) (pe_op op_pow pe_int pe_int)))) pss_nil)
    (pss_cons (ps_if (pt_cmpR op_eq (pv 3) pe_int (nomark _)) (pss_one (ps_ret (pe_op op_mod (pe_op op_add (pv 7) (pe_op op_mod (pv 4) (pe_op op_pow pe_int pe_int))) (pe_op op_pow pe_int pe_int)))) pss_nil)
    (pss_cons (ps_if (pt_cmpR op_eq (pv 3) pe_int (nomark _)) (pss_one (ps_ret (pe_op op_mulL (pe_op op_fdivL (pe_op op_mod (pv 4) (pe_op op_pow pe_int pe_int)) (pv 7)) (pv 7)))) pss_nil)
    (pss_one (ps_ret (pe_op op_mod (pv 4) (pe_op op_add (pe_op op_pow pe_int pe_int) pe_int))))))))))))))), ?_⟩
  have hpos : (0 : Int) < (p : Int) := by omega
  have p7 : (0 : Int) < 7 := by decide
  have p30 : (0 : Int) < (10 : Int) ^ (30 : Int).toNat := by rw [e30]; decide
  have p15 : (0 : Int) < (10 : Int) ^ (15 : Int).toNat := by rw [e15]; decide
  have p31 : (0 : Int) < (10 : Int) ^ (30 : Int).toNat + 1 := by rw [e30]; decide
  have m30 : ∀ x : Int, Q (.int (x % (10 : Int) ^ (30 : Int).toNat)) H := fun x => by
    rw [e30]
    have h1 := Int.emod_nonneg x (show (1000000000000000000000000000000 : Int) ≠ 0 by decide)
    have h2 := Int.emod_lt_of_pos x (show (0 : Int) < 1000000000000000000000000000000 by decide)
    exact q _ h1 (by omega)
  refine ⟨_, rfl, _, rfl, _, _, rfl, rfl, a, ns, fi + 1, rfl, hS, _, _, rfl, rfl, p7, ?_⟩
  refine ⟨_, rfl, _, rfl, a, ns, fi, rfl, hS, ?_⟩
  generalize cellI ns (fi + 1) = wy
  generalize cellI ns fi = ce
  refine ⟨_, rfl, rfl, _, rfl, ?_⟩
  refine iteD (fun _ => ?_) (fun _ => ?_)
  · refine ⟨_, rfl, _, _, rfl, rfl, (show (0 : Int) < 50 by decide), ?_⟩
    have h1 := Int.emod_nonneg ce (show (50 : Int) ≠ 0 by decide)
    have h2 := Int.emod_lt_of_pos ce (show (0 : Int) < 50 by decide)
    exact q _ h1 (by omega)
  refine ⟨fun m σ H' => ∃ t : Nat, m = 94 - t ∧ t ≤ 94 ∧ p ^ t ≤ 10000000000000000000000000000000 ∧ σ = [some (.ref a), some (.int (fi : Int)), some (.int (p : Int)), some (.int (wy % 7)), some (.int ce), some (.int (((p ^ t : Nat) : Int) - 1)), some (.int ((t : Int) + 1)), none, none] ∧ H' = H,
    ⟨94, 0, rfl, Nat.zero_le _, (by rw [Nat.pow_zero]; decide), rfl, rfl⟩, ?_⟩
  rintro m σ H' ⟨t, rfl, ht, hpt, rfl, rfl⟩
  refine ⟨_, rfl, _, _, rfl, rfl, cp28, _, _, rfl, rfl, _, rfl, ?_⟩
  refine iteD (fun c => ?_) (fun c => ?_)
  · have c' := of_decide_eq_true c
    rw [e28] at c'
    have hs : p ^ t ≤ 10000000000000000000000000000 := by omega
    have ht' := pow_bd h2 hs
    refine ⟨fun σ' H2 => ∃ m', m' < 94 - t ∧ ∃ t : Nat, m' = 94 - t ∧ t ≤ 94 ∧ p ^ t ≤ 10000000000000000000000000000000 ∧ σ' = [some (.ref a), some (.int (fi : Int)), some (.int (p : Int)), some (.int (wy % 7)), some (.int ce), some (.int (((p ^ t : Nat) : Int) - 1)), some (.int ((t : Int) + 1)), none, none] ∧ H2 = H', fun _ _ h => h, ?_⟩
    refine ⟨_, rfl, _, _, rfl, rfl, ?_⟩
    refine ⟨_, rfl, _, rfl, _, _, rfl, rfl, .inr ⟨by omega, by omega⟩, _, rfl, _, _, rfl, rfl, _, _, rfl, rfl, ?_⟩
    refine ⟨94 - (t + 1), by omega, t + 1, rfl, by omega, ?_, ?_, rfl⟩
    · rw [Nat.pow_succ]
      have := Nat.mul_le_mul hs h97
      omega
    · show [some (V.ref a), some (V.int (fi : Int)), some (V.int (p : Int)), some (V.int (wy % 7)), some (V.int ce), some (V.int ((((p ^ t : Nat) : Int) - 1) * (p : Int) + (p : Int) - 1)), some (V.int ((t : Int) + 1 + 1)), none, none] = _
      rw [mb_step]
      rfl
  · refine ⟨_, rfl, _, rfl, _, _, rfl, rfl, a, ns, fi + 1, rfl, hS, _, _, rfl, rfl, ⟨by decide, by decide⟩, _, rfl, _, _, rfl, rfl, (by omega), ?_⟩
    have j0 := Int.emod_nonneg (cellI ns (fi + 1) / 7) (show ((t : Int) + 1) ≠ 0 by omega)
    have j1 := Int.emod_lt_of_pos (cellI ns (fi + 1) / 7) (show (0 : Int) < (t : Int) + 1 by omega)
    refine ⟨cellI ns (fi + 1) / 7 % ((t : Int) + 1), rfl, by omega, by omega, ?_⟩
    generalize cellI ns (fi + 1) / 7 % ((t : Int) + 1) = j at *
    refine for_range (n := j.toNat) (fun i σ H2 => ∃ k, σ = [some (.ref a), some (.int (fi : Int)), some (.int (p : Int)), some (.int (wy % 7)), some (.int ce), some (.int (((p ^ t : Nat) : Int) - 1)), some (.int ((t : Int) + 1)), some (.int ((p ^ i : Nat) : Int)), k] ∧ H2 = H') ⟨none, rfl, rfl⟩ ?_ ?_
    · rintro i σ H2 hi ⟨k, rfl, rfl⟩
      refine ⟨_, rfl, _, rfl, _, _, rfl, rfl, .inr ⟨by omega, by omega⟩, ?_⟩
      refine ⟨some (.int (0 + (i : Int))), ?_, rfl⟩
      show [some (V.ref a), some (V.int (fi : Int)), some (V.int (p : Int)), some (V.int (wy % 7)), some (V.int ce), some (V.int (((p ^ t : Nat) : Int) - 1)), some (V.int ((t : Int) + 1)), some (V.int (((p ^ i : Nat) : Int) * (p : Int))), some (V.int (0 + (i : Int)))] = _
      rw [mb_mul]
    · rintro σ H2 ⟨k, rfl, rfl⟩
      have hw0 : 0 < p ^ j.toNat := Nat.pow_pos (by omega)
      have hw1 : p ^ j.toNat ≤ 10000000000000000000000000000000 := by
        have := Nat.pow_le_pow_right (show 0 < p by omega) (show j.toNat ≤ t by omega)
        omega
      generalize p ^ j.toNat = wo at *
      refine ⟨_, rfl, rfl, _, rfl, ?_⟩
      refine iteD (fun _ => ?_) (fun _ => ?_)
      · exact ⟨_, rfl, _, _, rfl, rfl, cp30, _, _, rfl, rfl, p30, m30 _⟩
      refine ⟨_, rfl, rfl, _, rfl, ?_⟩
      refine iteD (fun _ => ?_) (fun _ => ?_)
      · have r0 := Int.emod_nonneg ce (show (p : Int) ≠ 0 by omega)
        have r1 := Int.emod_lt_of_pos ce hpos
        exact ⟨_, rfl, _, rfl, _, rfl, _, _, rfl, rfl, hpos, _, _, rfl, rfl, _, _, rfl, rfl, .inr ⟨by omega, by omega⟩, _, _, rfl, rfl, _, _, rfl, rfl, cp30, _, _, rfl, rfl, p30, m30 _⟩
      refine ⟨_, rfl, rfl, _, rfl, ?_⟩
      refine iteD (fun _ => ?_) (fun _ => ?_)
      · exact ⟨_, rfl, _, rfl, _, _, rfl, rfl, cp15, _, _, rfl, rfl, p15, _, _, rfl, rfl, _, _, rfl, rfl, cp30, _, _, rfl, rfl, p30, m30 _⟩
      refine ⟨_, rfl, rfl, _, rfl, ?_⟩
      refine iteD (fun _ => ?_) (fun _ => ?_)
      · have r0 := Int.emod_nonneg ce (show (1000000000000000000000000000000 : Int) ≠ 0 by decide)
        have r1 := Int.emod_lt_of_pos ce (show (0 : Int) < 1000000000000000000000000000000 by decide)
        have hw : (0 : Int) < (wo : Int) := by omega
        have d0 := Int.ediv_nonneg r0 (Int.le_of_lt hw)
        have d1 := Int.ediv_le_self (a := ce % 1000000000000000000000000000000) (wo : Int) r0
        have d2 := floor_le (c := ce % 1000000000000000000000000000000) hw
        have d3 := Int.mul_nonneg d0 (Int.le_of_lt hw)
        refine ⟨_, rfl, _, _, rfl, rfl, cp30, _, _, rfl, rfl, p30, _, rfl, _, _, rfl, rfl, ⟨hw, by omega⟩, _, rfl, _, _, rfl, rfl, ?_, ?_⟩
        · rw [e30]
          exact ⟨by omega, by omega⟩
        · rw [e30]
          exact q _ d3 (by omega)
      · refine ⟨_, rfl, _, _, rfl, rfl, cp30, _, _, rfl, rfl, _, _, rfl, rfl, p31, ?_⟩
        · rw [e30]
          have h1 := Int.emod_nonneg ce (show ((1000000000000000000000000000000 : Int) + 1) ≠ 0 by decide)
          have h2 := Int.emod_lt_of_pos ce (show (0 : Int) < (1000000000000000000000000000000 : Int) + 1 by decide)
          exact q _ h1 (by omega)

theorem sc_check_prime : FnScope ["prime"] ["prime"] (defScope s_check_prime) := ⟨rfl, rfl, rfl, by decide +kernel, rfl, by decide +kernel, by decide +kernel⟩
theorem ok_check_prime {pa : Addr} (F : Fun K "check_prime" "check_prime" s_check_prime f fd) (hP : mg "PRIMES" = some (.ref pa)) (hT : ∀ H, SqT K H pa primesV) : FnOk P w K mg base CX0 1 f fd ["prime"] spPr := by
  refine F.ok sc_check_prime (fun vs H Q E h => ?_) (fun cdv A outer s H vs Q E hr h => ?_)
  · obtain ⟨p, rfl, _⟩ := h
    rfl
  obtain ⟨p, rfl, hp, q⟩ := h
  refine ⟨_, pss_oneE rfl (ps_if (pt_cmpR op_notIn_seq (pv 0) (pe_glob (v := .ref pa) rfl hP rfl) (by with_unfolding_all rfl)) pss_never pss_nil), ?_⟩
  refine ⟨_, rfl, pa, primesV, rfl, .inr (hT _), rfl, pr_flat, _, rfl, ?_⟩
  refine iteB ?_ q
  show (!inV (.int (p : Int)) primesV) = false
  rw [pr_in hp]
  rfl

theorem sc_check_many : FnScope ["number"] ["number"] (defScope s_check_many) := ⟨rfl, rfl, rfl, by decide +kernel, rfl, by decide +kernel, by decide +kernel⟩
theorem ok_check_many (F : Fun K "check_many" "check_many" s_check_many f fd) : FnOk P w K mg base CX0 1 f fd ["number"] spMany := by
  refine F.ok sc_check_many (fun vs H Q E h => ?_) (fun cdv A outer s H vs Q E hr h => ?_)
  · obtain ⟨n, rfl, _⟩ := h
    rfl
  obtain ⟨n, rfl, hn, q⟩ := h
  refine ⟨_, pss_oneE rfl (ps_if (PW.pt (pw_or (pt_cmpR op_lt (pv 0) pe_int (nomark _)) (pw_or1 (pt_cmpR op_gt (pv 0) (pe_op op_pow pe_int pe_int) (nomark _))))) pss_never pss_nil), ?_⟩
  refine ⟨_, rfl, _, _, rfl, rfl, _, rfl, ?_⟩
  refine iteB (decide_eq_false (by omega)) ?_
  refine ⟨_, rfl, _, _, rfl, rfl, cp30, _, _, rfl, rfl, _, rfl, ?_⟩
  refine iteB (decide_eq_false (by rw [e30]; omega)) ?_
  exact q

theorem sc_figures : FnScope ["number", "prime", "found", "left"] ["number", "prime"] (defScope s_figures) := ⟨rfl, rfl, rfl, by decide +kernel, rfl, by decide +kernel, by decide +kernel⟩
theorem ok_figures (F : Fun K "figures" "figures" s_figures f fd) (c_check_prime : Cal P w K mg base 1 "check_prime" ["prime"] spPr) (c_check_many : Cal P w K mg base 1 "check_many" ["number"] spMany) : FnOk P w K mg base CX0 2 f fd ["number", "prime"] spFig := by
  refine F.ok sc_figures (fun vs H Q E h => ?_) (fun cdv A outer s H vs Q E hr h => ?_)
  · obtain ⟨n, p, rfl, _⟩ := h
    rfl
  obtain ⟨n, p, rfl, hp, hn, q⟩ := h
  have hb := pr_bd hp
  have nd := sc_figures.nd
  refine ⟨_, pss_consE rfl (ps_expr (pe_c c_check_prime hr rfl (pa_cons (pv 1) pa_nil)))
    (pss_cons (ps_expr (pe_c c_check_many hr rfl (pa_cons (pv 0) pa_nil)))
    (pss_cons (ps_set (i := 2) nd rfl (Or.inl rfl) (pe_lst pa_nil))
    (pss_cons (ps_set (i := 3) nd rfl (Or.inl rfl) (pv 0))
    (pss_cons (ps_while PassesOwn.never (pt_cmpR op_gt (pv 3) pe_int (nomark _))
      (pss_cons (ps_expr (pe_bm PySem.F.plainAttrs_list PySem.F.slot_list_append PySem.F.type_list_append mt_append (pv 2) (pa_cons (pe_op op_mod (pv 3) (pv 1)) pa_nil)))
      (pss_one (ps_set (i := 3) nd rfl (Or.inl rfl) (pe_op op_fdiv (pv 3) (pv 1))))))
    (pss_one (ps_ret (pv 2))))))), ?_⟩
  refine ⟨_, rfl, p, rfl, hp, ?_⟩
  refine ⟨_, rfl, n, rfl, hn, ?_⟩
  refine ⟨small (Nat.zero_le _), fun l hl => ?_⟩
  refine ⟨_, rfl, ?_⟩
  refine ⟨fun m σ H' => ∃ (pre : List Nat) (k : Nat), m = k ∧ σ = [some (.int (n : Int)), some (.int (p : Int)), some (.ref l), some (.int (k : Int))] ∧ H' = upd H l (.lst (iv pre)) ∧ pre ++ digs p k = digs p n, ⟨n, [], n, rfl, rfl, rfl, rfl⟩, ?_⟩
  rintro m σ H' ⟨pre, k, rfl, rfl, rfl, e⟩
  refine ⟨_, rfl, _, _, rfl, rfl, _, rfl, ?_⟩
  refine iteD (fun c => ?_) (fun c => ?_)
  · have hk : 0 < m := by
      have := of_decide_eq_true c
      omega
    have hlen : pre.length ≤ 101 := by
      have h1 := digs_small (p := p) (n := n) hb.1 (by omega)
      rw [← e, List.length_append] at h1
      omega
    refine ⟨fun σ' H2 => ∃ m', m' < m ∧ ∃ (pre : List Nat) (k : Nat), m' = k ∧ σ' = [some (.int (n : Int)), some (.int (p : Int)), some (.ref l), some (.int (k : Int))] ∧ H2 = upd H l (.lst (iv pre)) ∧ pre ++ digs p k = digs p n, fun _ _ h => h, ?_⟩
    refine ⟨_, rfl, .inl ⟨rfl, _, SqL.of upd_same⟩, ?_⟩
    refine ⟨_, rfl, _, rfl, _, _, rfl, rfl, (by show (0 : Int) < (p : Int); omega), l, _, _, rfl, rfl, upd_same, (by rw [iv_len]; exact small1000 (by omega)), ?_⟩
    refine ⟨_, rfl, _, rfl, _, _, rfl, rfl, cdiv _ hb, ?_⟩
    refine ⟨m / p, Nat.div_lt_self hk hb.1, pre ++ [m % p], m / p, rfl, rfl, ?_, ?_⟩
    · rw [upd_upd, iv_snoc]
      rfl
    · rw [List.append_assoc, ← e, digs_pos hb.1 hk]
      rfl
  · have hk : m = 0 := by
      have := of_decide_eq_false c
      omega
    rw [hk, digs_zero, List.append_nil] at e
    refine ⟨_, rfl, ?_⟩
    rw [e]
    exact q l hl

theorem sc_carries : FnScope ["one", "other", "prime", "count", "carried"] ["one", "other", "prime"] (defScope s_carries) := ⟨rfl, rfl, rfl, by decide +kernel, rfl, by decide +kernel, by decide +kernel⟩
theorem ok_carries (F : Fun K "carries" "carries" s_carries f fd) (c_check_prime : Cal P w K mg base 1 "check_prime" ["prime"] spPr) (c_check_many : Cal P w K mg base 1 "check_many" ["number"] spMany) : FnOk P w K mg base CX0 2 f fd ["one", "other", "prime"] spCar := by
  refine F.ok sc_carries (fun vs H Q E h => ?_) (fun cdv A outer s H vs Q E hr h => ?_)
  · obtain ⟨a, b, p, rfl, _⟩ := h
    rfl
  obtain ⟨a, b, p, rfl, hp, ha, hb', q⟩ := h
  have hb := pr_bd hp
  have nd := sc_carries.nd
  refine ⟨_, pss_consE rfl (ps_expr (pe_c c_check_prime hr rfl (pa_cons (pv 2) pa_nil)))
    (pss_cons (ps_expr (pe_c c_check_many hr rfl (pa_cons (pv 0) pa_nil)))
    (pss_cons (ps_expr (pe_c c_check_many hr rfl (pa_cons (pv 1) pa_nil)))
    (pss_cons (ps_set (i := 3) nd rfl (Or.inl rfl) pe_int)
    (pss_cons (ps_set (i := 4) nd rfl (Or.inl rfl) pe_int)
    (pss_cons (ps_while PassesOwn.never (PW.pt (pw_or (pt_cmpR op_gt (pv 0) pe_int (nomark _)) (pw_or1 (pt_cmpR op_gt (pv 1) pe_int (nomark _)))))
      (pss_cons (ps_set (i := 4) nd rfl (Or.inl rfl) (pe_op op_fdiv (pe_op op_add (pe_op op_add (pe_op op_mod (pv 0) (pv 2)) (pe_op op_mod (pv 1) (pv 2))) (pv 4)) (pv 2)))
      (pss_cons (ps_set (i := 3) nd rfl (Or.inl rfl) (pe_op op_add (pv 3) (pv 4)))
      (pss_cons (ps_set (i := 0) nd rfl (Or.inl rfl) (pe_op op_fdiv (pv 0) (pv 2)))
      (pss_one (ps_set (i := 1) nd rfl (Or.inl rfl) (pe_op op_fdiv (pv 1) (pv 2))))))))
    (pss_one (ps_ret (pv 3)))))))), ?_⟩
  refine ⟨_, rfl, p, rfl, hp, ?_⟩
  refine ⟨_, rfl, a, rfl, ha, ?_⟩
  refine ⟨_, rfl, b, rfl, hb', ?_⟩
  refine ⟨fun m σ H' => ∃ (x y n c : Nat), m = x + y ∧ σ = [some (.int (x : Int)), some (.int (y : Int)), some (.int (p : Int)), some (.int (n : Int)), some (.int (c : Int))] ∧ H' = H ∧ n + carr p x y c = carr p a b 0, ⟨a + b, a, b, 0, 0, rfl, rfl, rfl, Nat.zero_add _⟩, ?_⟩
  rintro m σ H' ⟨x, y, n, c, rfl, rfl, rfl, e⟩
  have hpos : (0 : Int) < (p : Int) := by omega
  have turn : (0 < x ∨ 0 < y) → (∃ N : St → Hp → Prop, (∀ σ' H2, N σ' H2 → ∃ m', m' < x + y ∧ ∃ (x y n c : Nat), m' = x + y ∧ σ' = [some (.int (x : Int)), some (.int (y : Int)), some (.int (p : Int)), some (.int (n : Int)), some (.int (c : Int))] ∧ H2 = H' ∧ n + carr p x y c = carr p a b 0) ∧
      N [some (.int ((x / p : Nat) : Int)), some (.int ((y / p : Nat) : Int)), some (.int (p : Int)), some (.int ((n + (x % p + y % p + c) / p : Nat) : Int)), some (.int (((x % p + y % p + c) / p : Nat) : Int))] H') := fun h => by
    refine ⟨fun σ' H2 => ∃ m', m' < x + y ∧ ∃ (x y n c : Nat), m' = x + y ∧ σ' = [some (.int (x : Int)), some (.int (y : Int)), some (.int (p : Int)), some (.int (n : Int)), some (.int (c : Int))] ∧ H2 = H' ∧ n + carr p x y c = carr p a b 0, fun _ _ h => h, ?_⟩
    refine ⟨x / p + y / p, sum_lt hb.1 h, x / p, y / p, _, _, rfl, rfl, rfl, ?_⟩
    rw [← e, carr_step c hb.1 h, Nat.add_assoc]
  refine ⟨_, rfl, _, _, rfl, rfl, _, rfl, ?_⟩
  refine iteD (fun c1 => ?_) (fun c1 => ?_)
  · have h : 0 < x := by
      have := of_decide_eq_true c1
      omega
    obtain ⟨N, hN, hn⟩ := turn (.inl h)
    refine iteT ⟨N, hN, ?_⟩
    refine ⟨_, rfl, _, rfl, _, _, rfl, rfl, hpos, _, rfl, _, rfl, _, _, rfl, rfl, hpos, _, _, rfl, rfl, _, rfl, _, _, rfl, rfl, _, rfl, _, _, rfl, rfl, cdiv _ hb, ?_⟩
    refine ⟨_, rfl, _, rfl, _, _, rfl, rfl, ?_⟩
    refine ⟨_, rfl, _, rfl, _, _, rfl, rfl, cdiv _ hb, ?_⟩
    refine ⟨_, rfl, _, rfl, _, _, rfl, rfl, cdiv _ hb, ?_⟩
    exact hn
  · refine ⟨_, rfl, _, _, rfl, rfl, _, rfl, ?_⟩
    refine iteD (fun c2 => ?_) (fun c2 => ?_)
    · have h : 0 < y := by
        have := of_decide_eq_true c2
        omega
      obtain ⟨N, hN, hn⟩ := turn (.inr h)
      refine ⟨N, hN, ?_⟩
      refine ⟨_, rfl, _, rfl, _, _, rfl, rfl, hpos, _, rfl, _, rfl, _, _, rfl, rfl, hpos, _, _, rfl, rfl, _, rfl, _, _, rfl, rfl, _, rfl, _, _, rfl, rfl, cdiv _ hb, ?_⟩
      refine ⟨_, rfl, _, rfl, _, _, rfl, rfl, ?_⟩
      refine ⟨_, rfl, _, rfl, _, _, rfl, rfl, cdiv _ hb, ?_⟩
      refine ⟨_, rfl, _, rfl, _, _, rfl, rfl, cdiv _ hb, ?_⟩
      exact hn
    · have h1 : x = 0 := by
        have := of_decide_eq_false c1
        omega
      have h2 : y = 0 := by
        have := of_decide_eq_false c2
        omega
      rw [h1, h2, carr_zero, Nat.add_zero] at e
      refine ⟨_, rfl, ?_⟩
      rw [e]
      exact q

theorem sc_order_power : FnScope ["number", "prime", "count", "left"] ["number", "prime"] (defScope s_order_power) := ⟨rfl, rfl, rfl, by decide +kernel, rfl, by decide +kernel, by decide +kernel⟩
theorem ok_order_power (F : Fun K "order_power" "order_power" s_order_power f fd) (c_check_prime : Cal P w K mg base 1 "check_prime" ["prime"] spPr) (c_check_many : Cal P w K mg base 1 "check_many" ["number"] spMany) : FnOk P w K mg base CX0 2 f fd ["number", "prime"] spOrd := by
  refine F.ok sc_order_power (fun vs H Q E h => ?_) (fun cdv A outer s H vs Q E hr h => ?_)
  · obtain ⟨n, p, rfl, _⟩ := h
    rfl
  obtain ⟨n, p, rfl, hp, hn, q⟩ := h
  have hb := pr_bd hp
  have nd := sc_order_power.nd
  refine ⟨_, pss_consE rfl (ps_expr (pe_c c_check_prime hr rfl (pa_cons (pv 1) pa_nil)))
    (pss_cons (ps_expr (pe_c c_check_many hr rfl (pa_cons (pv 0) pa_nil)))
    (pss_cons (ps_set (i := 2) nd rfl (Or.inl rfl) pe_int)
    (pss_cons (ps_set (i := 3) nd rfl (Or.inl rfl) (pe_op op_fdiv (pv 0) (pv 1)))
    (pss_cons (ps_while PassesOwn.never (pt_cmpR op_gt (pv 3) pe_int (nomark _))
      (pss_cons (ps_set (i := 2) nd rfl (Or.inl rfl) (pe_op op_add (pv 2) (pv 3)))
      (pss_one (ps_set (i := 3) nd rfl (Or.inl rfl) (pe_op op_fdiv (pv 3) (pv 1))))))
    (pss_one (ps_ret (pv 2))))))), ?_⟩
  refine ⟨_, rfl, p, rfl, hp, ?_⟩
  refine ⟨_, rfl, n, rfl, hn, ?_⟩
  refine ⟨_, rfl, _, rfl, _, _, rfl, rfl, cdiv _ hb, ?_⟩
  refine ⟨fun m σ H' => ∃ (k t : Nat), m = k ∧ σ = [some (.int (n : Int)), some (.int (p : Int)), some (.int (t : Int)), some (.int (k : Int))] ∧ H' = H ∧ t + (k + ordp p k) = ordp p n, ⟨n / p, n / p, 0, rfl, rfl, rfl, (by rw [Nat.zero_add, ← ordp_step hb.1])⟩, ?_⟩
  rintro m σ H' ⟨k, t, rfl, rfl, rfl, e⟩
  refine ⟨_, rfl, _, _, rfl, rfl, _, rfl, ?_⟩
  refine iteD (fun c => ?_) (fun c => ?_)
  · have hk : 0 < m := by
      have := of_decide_eq_true c
      omega
    refine ⟨fun σ' H2 => ∃ m', m' < m ∧ ∃ (k t : Nat), m' = k ∧ σ' = [some (.int (n : Int)), some (.int (p : Int)), some (.int (t : Int)), some (.int (k : Int))] ∧ H2 = H' ∧ t + (k + ordp p k) = ordp p n, fun _ _ h => h, ?_⟩
    refine ⟨_, rfl, _, rfl, _, _, rfl, rfl, ?_⟩
    refine ⟨_, rfl, _, rfl, _, _, rfl, rfl, cdiv _ hb, ?_⟩
    refine ⟨m / p, Nat.div_lt_self hk hb.1, m / p, t + m, rfl, rfl, rfl, ?_⟩
    rw [← ordp_step hb.1 m, Nat.add_assoc]
    exact e
  · have hk : m = 0 := by
      have := of_decide_eq_false c
      omega
    have e : t = ordp p n := by
      rw [hk, ordp_zero] at e
      omega
    refine ⟨_, rfl, ?_⟩
    rw [e]
    exact q

theorem sc_has_choice : FnScope ["many", "some"] ["many", "some"] (defScope s_has_choice) := ⟨rfl, rfl, rfl, by decide +kernel, rfl, by decide +kernel, by decide +kernel⟩
theorem ok_has_choice (F : Fun K "has_choice" "has_choice" s_has_choice f fd) : FnOk P w K mg base CX0 1 f fd ["many", "some"] spHas := by
  refine F.ok sc_has_choice (fun vs H Q E h => ?_) (fun cdv A outer s H vs Q E hr h => ?_)
  · obtain ⟨n, s, rfl, _⟩ := h
    rfl
  obtain ⟨n, s, rfl, q⟩ := h
  refine ⟨_, pss_oneE rfl (ps_ret (pe_and (pe_cmpR op_ge (pv 1) pe_int (nomark _)) (pe_one (pe_cmpR op_le (pv 1) (pv 0) (nomark _))))), ?_⟩
  refine ⟨_, rfl, _, _, rfl, rfl, _, rfl, ?_⟩
  unfold hasB at q
  refine iteD (fun c => ?_) (fun c => ?_)
  · rw [c, Bool.true_and] at q
    exact ⟨_, rfl, _, rfl, _, _, rfl, rfl, q⟩
  · rw [c, Bool.false_and] at q
    exact q

theorem sc_choices : FnScope ["many", "some", "ways", "taken"] ["many", "some"] (defScope s_choices) := ⟨rfl, rfl, rfl, by decide +kernel, rfl, by decide +kernel, by decide +kernel⟩
theorem ok_choices {tM : Tok} (F : Fun K "choices" "choices" s_choices f fd) (hM : mg "MOST_THINGS" = some (.int 400 tM)) (c_check_many : Cal P w K mg base 1 "check_many" ["number"] spMany) (c_has_choice : Cal P w K mg base 1 "has_choice" ["many", "some"] spHas)
    (z_range : mg "range" = none) (z_min : mg "min" = none) : FnOk P w K mg base CX0 2 f fd ["many", "some"] spCho := by
  refine F.ok sc_choices (fun vs H Q E h => ?_) (fun cdv A outer s H vs Q E hr h => ?_)
  · obtain ⟨n, s, rfl, _⟩ := h
    rfl
  obtain ⟨n, s, rfl, hn, q⟩ := h
  have nd := sc_choices.nd
  refine ⟨_, pss_consE rfl (ps_expr (pe_c c_check_many hr rfl (pa_cons (pv 0) pa_nil)))
    (pss_cons (ps_if (pt_cmpR op_gt (pv 0) (pe_glob (v := .int 400) rfl hM ⟨_, rfl⟩) (nomark _)) pss_never pss_nil)
    (pss_cons (ps_if (pt_not (pt_val (pe_c c_has_choice hr rfl (pa_cons (pv 0) (pa_cons (pv 1) pa_nil))))) (pss_one (ps_ret pe_int)) pss_nil)
    (pss_cons (ps_set (i := 2) nd rfl (Or.inl rfl) pe_int)
    (pss_cons (ps_for PassesOwn.never rfl (pi_range1 rfl z_range (pa_cons (pe_callB (call_min2 rfl) rfl z_min PyProof.Rows.boot_min (pa_cons (pv 1) (pa_cons (pe_op op_sub (pv 0) (pv 1)) pa_nil))) pa_nil)) (pg_name (i := 3) nd rfl (Or.inl rfl))
      (pss_one (ps_set (i := 2) nd rfl (Or.inl rfl) (pe_op op_fdiv (pe_op op_mul (pv 2) (pe_op op_sub (pv 0) (pv 3))) (pe_op op_add (pv 3) pe_int)))))
    (pss_one (ps_ret (pv 2))))))), ?_⟩
  refine ⟨_, rfl, n, rfl, by omega, ?_⟩
  refine ⟨_, rfl, _, _, rfl, rfl, _, rfl, ?_⟩
  refine iteB (decide_eq_false (by omega)) ?_
  refine ⟨_, rfl, _, rfl, _, _, rfl, _, rfl, ?_⟩
  refine iteD (fun c => ?_) (fun c => ?_)
  · have z : Cz n s = 0 := by
      unfold hasB at c
      by_cases h0 : s < 0
      · exact Cz_neg h0
      · refine Cz_gt ?_
        simp at c
        omega
    rw [z] at q
    exact q
  have h01 : 0 ≤ s ∧ s ≤ n := by
    unfold hasB at c
    simp at c
    omega
  obtain ⟨k, rfl⟩ := Int.eq_ofNat_of_zero_le h01.1
  rw [Cz_nat] at q
  have hk : k ≤ n := by omega
  refine ⟨_, rfl, _, rfl, _, rfl, _, _, rfl, rfl, _, _, rfl, ?_⟩
  have eM : (if (n : Int) - (k : Int) < (k : Int) then (n : Int) - (k : Int) else (k : Int)) = ((min k (n - k) : Nat) : Int) := by
    split <;> omega
  refine ⟨_, congrArg (fun x => [V.int x]) eM, by omega, by omega, ?_⟩
  rw [← C_min hk] at q
  have hm : min k (n - k) ≤ n := by omega
  generalize min k (n - k) = m at *
  refine for_range (n := m) (fun i σ H' => ∃ t, σ = [some (.int (n : Int)), some (.int (k : Int)), some (.int (C n i : Nat)), t] ∧ H' = H) ⟨none, by rw [C_zero]; rfl, rfl⟩ ?_ ?_
  · rintro i σ H' hi ⟨t, rfl, rfl⟩
    refine ⟨_, rfl, _, rfl, _, rfl, _, _, rfl, rfl, _, _, rfl, rfl, .inr ⟨by omega, by omega⟩, ?_⟩
    refine ⟨_, rfl, _, _, rfl, rfl, _, _, rfl, rfl, ⟨by omega, by omega⟩, ?_⟩
    refine ⟨some (.int (0 + (i : Int))), ?_, rfl⟩
    have e : ((C n i : Nat) : Int) * ((n : Int) - (0 + (i : Int))) / (0 + (i : Int) + 1) = ((C n (i + 1) : Nat) : Int) := by
      rw [← C_next_div (show i ≤ n by omega), Int.zero_add]
      have e1 : (n : Int) - (i : Int) = ((n - i : Nat) : Int) := by omega
      rw [e1]
      rfl
    show [some (V.int (n : Int)), some (V.int (k : Int)), some (V.int (((C n i : Nat) : Int) * ((n : Int) - (0 + (i : Int))) / (0 + (i : Int) + 1))), some (V.int (0 + (i : Int)))] = _
    rw [e]
  · rintro σ H' ⟨t, rfl, rfl⟩
    exact ⟨_, rfl, q⟩

theorem rest_step {p m k q : Nat} (hp : Pr p) : (q * C (m % p) (k % p) % p) * C (m / p) (k / p) % p = q * C m k % p := by
  rw [Nat.mod_mul_mod, Nat.mul_assoc, Nat.mul_mod, Nat.mul_mod q (C m k), lucas hp m k]
  rfl
theorem sc_rest : FnScope ["many", "some", "prime", "product"] ["many", "some", "prime"] (defScope s_rest) := ⟨rfl, rfl, rfl, by decide +kernel, rfl, by decide +kernel, by decide +kernel⟩
theorem ok_rest (F : Fun K "rest" "rest" s_rest f fd) (c_check_prime : Cal P w K mg base 2 "check_prime" ["prime"] spPr) (c_check_many : Cal P w K mg base 2 "check_many" ["number"] spMany) (c_has_choice : Cal P w K mg base 2 "has_choice" ["many", "some"] spHas)
    (c_choices : Cal P w K mg base 2 "choices" ["many", "some"] spCho) : FnOk P w K mg base CX0 3 f fd ["many", "some", "prime"] spRest := by
  refine F.ok sc_rest (fun vs H Q E h => ?_) (fun cdv A outer s H vs Q E hr h => ?_)
  · obtain ⟨n, s, p, rfl, _⟩ := h
    rfl
  obtain ⟨n, s, p, rfl, hp, hn, q⟩ := h
  have hb := pr_bd hp
  have hP := isPr_pr hp
  have hpos : (0 : Int) < (p : Int) := by omega
  have nd := sc_rest.nd
  refine ⟨_, pss_consE rfl (ps_expr (pe_c c_check_prime hr rfl (pa_cons (pv 2) pa_nil)))
    (pss_cons (ps_expr (pe_c c_check_many hr rfl (pa_cons (pv 0) pa_nil)))
    (pss_cons (ps_if (pt_not (pt_val (pe_c c_has_choice hr rfl (pa_cons (pv 0) (pa_cons (pv 1) pa_nil))))) (pss_one (ps_ret pe_int)) pss_nil)
    (pss_cons (ps_set (i := 3) nd rfl (Or.inl rfl) pe_int)
    (pss_cons (ps_while PassesOwn.never (pt_cmpR op_gt (pv 1) pe_int (nomark _))
      (pss_cons (ps_set (i := 3) nd rfl (Or.inl rfl) (pe_op op_mod (pe_op op_mul (pv 3) (pe_c c_choices hr rfl (pa_cons (pe_op op_mod (pv 0) (pv 2)) (pa_cons (pe_op op_mod (pv 1) (pv 2)) pa_nil)))) (pv 2)))
      (pss_cons (ps_set (i := 0) nd rfl (Or.inl rfl) (pe_op op_fdiv (pv 0) (pv 2)))
      (pss_one (ps_set (i := 1) nd rfl (Or.inl rfl) (pe_op op_fdiv (pv 1) (pv 2)))))))
    (pss_one (ps_ret (pv 3))))))), ?_⟩
  refine ⟨_, rfl, p, rfl, hp, ?_⟩
  refine ⟨_, rfl, n, rfl, hn, ?_⟩
  refine ⟨_, rfl, _, rfl, _, _, rfl, _, rfl, ?_⟩
  refine iteD (fun c => ?_) (fun c => ?_)
  · rw [has_no c, Nat.zero_mod] at q
    exact q
  obtain ⟨k0, rfl⟩ := Int.eq_ofNat_of_zero_le (has_yes c).1
  rw [Cz_nat] at q
  refine ⟨fun m σ H' => ∃ (a b r : Nat), m = b ∧ σ = [some (.int (a : Int)), some (.int (b : Int)), some (.int (p : Int)), some (.int (r : Int))] ∧ H' = H ∧ r < p ∧ r * C a b % p = C n k0 % p, ⟨k0, n, k0, 1, rfl, rfl, rfl, by omega, by rw [Nat.one_mul]⟩, ?_⟩
  rintro m σ H' ⟨a, b, r, rfl, rfl, rfl, hr1, e⟩
  refine ⟨_, rfl, _, _, rfl, rfl, _, rfl, ?_⟩
  refine iteD (fun c => ?_) (fun c => ?_)
  · have hk : 0 < m := by
      have := of_decide_eq_true c
      omega
    refine ⟨fun σ' H2 => ∃ m', m' < m ∧ ∃ (a b r : Nat), m' = b ∧ σ' = [some (.int (a : Int)), some (.int (b : Int)), some (.int (p : Int)), some (.int (r : Int))] ∧ H2 = H' ∧ r < p ∧ r * C a b % p = C n k0 % p, fun _ _ h => h, ?_⟩
    have hmp := Nat.mod_lt a (show 0 < p by omega)
    refine ⟨_, rfl, _, rfl, _, rfl, _, _, rfl, rfl, hpos, _, rfl, _, rfl, _, _, rfl, rfl, hpos, a % p, ((m % p : Nat) : Int), rfl, by omega, _, _, rfl, rfl, .inl ⟨by omega, by omega⟩, _, rfl, _, _, rfl, rfl, hpos, ?_⟩
    refine ⟨_, rfl, _, rfl, _, _, rfl, rfl, cdiv _ hb, ?_⟩
    refine ⟨_, rfl, _, rfl, _, _, rfl, rfl, cdiv _ hb, ?_⟩
    refine ⟨m / p, Nat.div_lt_self hk hb.1, a / p, m / p, r * C (a % p) (m % p) % p, rfl, ?_, rfl, Nat.mod_lt _ (by omega), ?_⟩
    · rw [Cz_nat]
      rfl
    · rw [rest_step hP]
      exact e
  · have hk : m = 0 := by
      have := of_decide_eq_false c
      omega
    rw [hk, C_zero, Nat.mul_one, Nat.mod_eq_of_lt hr1] at e
    refine ⟨_, rfl, ?_⟩
    rw [e]
    exact q

theorem sc_power : FnScope ["many", "some", "prime"] ["many", "some", "prime"] (defScope s_power) := ⟨rfl, rfl, rfl, by decide +kernel, rfl, by decide +kernel, by decide +kernel⟩
theorem ok_power (F : Fun K "power" "power" s_power f fd) (c_check_prime : Cal P w K mg base 2 "check_prime" ["prime"] spPr) (c_check_many : Cal P w K mg base 2 "check_many" ["number"] spMany) (c_has_choice : Cal P w K mg base 2 "has_choice" ["many", "some"] spHas)
    (c_carries : Cal P w K mg base 2 "carries" ["one", "other", "prime"] spCar) : FnOk P w K mg base CX0 3 f fd ["many", "some", "prime"] spPow := by
  refine F.ok sc_power (fun vs H Q E h => ?_) (fun cdv A outer s H vs Q E hr h => ?_)
  · obtain ⟨n, s, p, rfl, _⟩ := h
    rfl
  obtain ⟨n, s, p, rfl, hp, hn, q⟩ := h
  refine ⟨_, pss_consE rfl (ps_expr (pe_c c_check_prime hr rfl (pa_cons (pv 2) pa_nil)))
    (pss_cons (ps_expr (pe_c c_check_many hr rfl (pa_cons (pv 0) pa_nil)))
    (pss_cons (ps_if (pt_not (pt_val (pe_c c_has_choice hr rfl (pa_cons (pv 0) (pa_cons (pv 1) pa_nil))))) (pss_one (ps_ret pe_non)) pss_nil)
    (pss_one (ps_ret (pe_c c_carries hr rfl (pa_cons (pv 1) (pa_cons (pe_op op_sub (pv 0) (pv 1)) (pa_cons (pv 2) pa_nil)))))))), ?_⟩
  refine ⟨_, rfl, p, rfl, hp, ?_⟩
  refine ⟨_, rfl, n, rfl, hn, ?_⟩
  refine ⟨_, rfl, _, rfl, _, _, rfl, _, rfl, ?_⟩
  refine iteD (fun c => ?_) (fun c => ?_)
  · unfold powV at q
    rw [has_ifN c] at q
    exact q
  have h01 := has_yes c
  unfold powV at q
  rw [if_pos h01] at q
  obtain ⟨k, rfl⟩ := Int.eq_ofNat_of_zero_le h01.1
  have hk : k ≤ n := by omega
  rw [Cz_nat, power_carr (isPr_pr hp) hk] at q
  have e : (n : Int) - (k : Int) = ((n - k : Nat) : Int) := by omega
  refine ⟨_, rfl, _, rfl, _, rfl, _, _, rfl, rfl, _, rfl, k, n - k, p, ?_, hp, by omega, by omega, q⟩
  show [V.int (k : Int), V.int ((n : Int) - (k : Int)), V.int (p : Int)] = _
  rw [e]

theorem facs_zero (p : Nat) (hp : 2 ≤ p) : facs p 1 = [1] := by
  show [1 % p] = [1]
  rw [Nat.mod_eq_of_lt (by omega)]
theorem facs_succ (p k : Nat) : facs p (k + 1) = facs p k ++ [fac k % p] := by
  unfold facs
  rw [List.range_succ, List.map_append]
  rfl
theorem facs_len (p k : Nat) : (facs p k).length = k := by simp [facs]
theorem facs_at {p k i : Nat} (h : i < k) : (facs p k)[i]? = some (fac i % p) := by simp [facs, h]
theorem sc_figure_orders : FnScope ["prime", "orders", "figure"] ["prime"] (defScope s_figure_orders) := ⟨rfl, rfl, rfl, by decide +kernel, rfl, by decide +kernel, by decide +kernel⟩
theorem ok_figure_orders (F : Fun K "figure_orders" "figure_orders" s_figure_orders f fd) (z_range : mg "range" = none) : FnOk P w K mg base CX0 1 f fd ["prime"] spFo := by
  refine F.ok sc_figure_orders (fun vs H Q E h => ?_) (fun cdv A outer s H vs Q E hr h => ?_)
  · obtain ⟨p, rfl, _⟩ := h
    rfl
  obtain ⟨p, rfl, hp, q⟩ := h
  have hb := pr_bd hp
  have hpos : (0 : Int) < (p : Int) := by omega
  have nd := sc_figure_orders.nd
  refine ⟨_, pss_consE rfl (ps_set (i := 1) nd rfl (Or.inl rfl) (pe_lst (pa_cons pe_int pa_nil)))
    (pss_cons (ps_for PassesOwn.never rfl (pi_range2 rfl z_range (pa_cons pe_int (pa_cons (pv 0) pa_nil))) (pg_name (i := 2) nd rfl (Or.inl rfl))
      (pss_one (ps_expr (pe_bm PySem.F.plainAttrs_list PySem.F.slot_list_append PySem.F.type_list_append mt_append (pv 1) (pa_cons (pe_op op_mod (pe_op op_mul (pe_ix ix_list (pv 1) (pe_un un_neg pe_int) (fun _ _ => rfl)) (pv 2)) (pv 0)) pa_nil)))))
    (pss_one (ps_ret (pv 1)))), ?_⟩
  refine ⟨small (by show 1 ≤ 1000; decide), fun l hl => ?_⟩
  refine ⟨_, rfl, 1, (p : Int), rfl, ⟨by omega, by omega, by omega, by omega⟩, ?_⟩
  have en : ((p : Int) - 1).toNat = p - 1 := by omega
  rw [en]
  refine for_range (lo := 1) (n := p - 1) (fun i σ H' => ∃ t : Option V, σ = [some (.int (p : Int)), some (.ref l), t] ∧ H' = upd H l (.lst (iv (facs p (i + 1))))) ?_ ?_ ?_
  · refine ⟨none, rfl, ?_⟩
    rw [facs_zero p hb.1]
    rfl
  · rintro i σ H' hi ⟨t, rfl, rfl⟩
    have hlast : atI (iv (facs p (i + 1))) (-1) = some (V.int ((fac i % p : Nat) : Int)) := by
      rw [facs_succ, iv_snoc]
      exact atI_last _ _
    have hm := Nat.mod_lt (fac i) (show 0 < p by omega)
    refine ⟨_, rfl, .inl ⟨rfl, _, SqL.of upd_same⟩, ?_⟩
    refine ⟨_, rfl, _, rfl, l, _, _, _, rfl, rfl, SqL.of upd_same, hlast, _, rfl, _, _, rfl, rfl, .inl ⟨by omega, by omega⟩, _, rfl, _, _, rfl, rfl, hpos, l, _, _, rfl, rfl, upd_same, ?_, ?_⟩
    · rw [iv_len, facs_len]
      exact small1000 (by omega)
    · refine ⟨some (.int (1 + (i : Int))), rfl, ?_⟩
      rw [upd_upd, facs_succ p (i + 1), iv_snoc]
      have e : ((fac i % p : Nat) : Int) * (1 + (i : Int)) % (p : Int) = ((fac (i + 1) % p : Nat) : Int) := by
        have e1 : (1 : Int) + (i : Int) = ((i + 1 : Nat) : Int) := by omega
        rw [e1, ← Int.natCast_mul, ← Int.natCast_emod, Nat.mod_mul_mod, fac, Nat.mul_comm]
      show upd H l (.lst (iv (facs p (i + 1)) ++ [V.int (((fac i % p : Nat) : Int) * (1 + (i : Int)) % (p : Int))])) = _
      rw [e]
  · rintro σ H' ⟨t, rfl, rfl⟩
    refine ⟨_, rfl, ?_⟩
    rw [show p - 1 + 1 = p by omega]
    exact q l hl

theorem ol_step {p m r : Nat} (hp : Pr p) (hw : Wil p) : (r * (fac (m % p) % p) % p * (if m / p % 2 = 1 then p - 1 else 1) % p) * up p (fac (m / p)) % p = r * up p (fac m) % p := by
  rw [Nat.mul_mod r (up p (fac m)), up_fac_mod hp hw m, ← Nat.mul_mod]
  rw [Nat.mod_mul_mod, Nat.mul_assoc (r * (fac (m % p) % p) % p), Nat.mod_mul_mod, Nat.mul_assoc r, Nat.mul_mod r, Nat.mod_mul_mod, Nat.mod_mul_mod, Nat.mul_mod_mod, Nat.mul_assoc (fac (m % p))]
theorem sc_order_last : FnScope ["number", "prime", "orders", "product"] ["number", "prime", "orders"] (defScope s_order_last) := ⟨rfl, rfl, rfl, by decide +kernel, rfl, by decide +kernel, by decide +kernel⟩
theorem ok_order_last (F : Fun K "order_last" "order_last" s_order_last f fd) : FnOk P w K mg base CX0 1 f fd ["number", "prime", "orders"] (spOl K) := by
  refine F.ok sc_order_last (fun vs H Q E h => ?_) (fun cdv A outer s H vs Q E hr h => ?_)
  · obtain ⟨n, p, o, rfl, _⟩ := h
    rfl
  obtain ⟨n, p, o, rfl, hp, hO, q⟩ := h
  have hb := pr_bd hp
  have hP := isPr_pr hp
  have hW := isPr_wil hp
  have hpos : (0 : Int) < (p : Int) := by omega
  have nd := sc_order_last.nd
  refine ⟨_, pss_consE rfl (ps_set (i := 3) nd rfl (Or.inl rfl) pe_int)
    (pss_cons (ps_while PassesOwn.never (pt_cmpR op_gt (pv 0) pe_int (nomark _))
      (pss_cons (ps_set (i := 3) nd rfl (Or.inl rfl) (pe_op op_mod (pe_op op_mul (pv 3) (pe_ix ix_list (pv 2) (pe_op op_mod (pv 0) (pv 1)) (fun _ _ => rfl))) (pv 1)))
      (pss_cons (ps_set (i := 0) nd rfl (Or.inl rfl) (pe_op op_fdiv (pv 0) (pv 1)))
      (pss_one (ps_if (pt_cmpR op_eq (pe_op op_mod (pv 0) pe_int) pe_int (nomark _)) (pss_one (ps_set (i := 3) nd rfl (Or.inl rfl) (pe_op op_mod (pe_op op_mul (pv 3) (pe_op op_sub (pv 1) pe_int)) (pv 1)))) pss_nil)))))
    (pss_one (ps_ret (pv 3)))), ?_⟩
  refine ⟨fun m σ H' => ∃ (a r : Nat), m = a ∧ σ = [some (.int (a : Int)), some (.int (p : Int)), some (.ref o), some (.int (r : Int))] ∧ H' = H ∧ r < p ∧ r * up p (fac a) % p = up p (fac n) % p, ⟨n, n, 1, rfl, rfl, rfl, by omega, by rw [Nat.one_mul]⟩, ?_⟩
  rintro m σ H' ⟨a, r, rfl, rfl, rfl, hr1, e⟩
  refine ⟨_, rfl, _, _, rfl, rfl, _, rfl, ?_⟩
  refine iteD (fun c => ?_) (fun c => ?_)
  · have hk : 0 < m := by
      have := of_decide_eq_true c
      omega
    refine ⟨fun σ' H2 => ∃ m', m' < m ∧ ∃ (a r : Nat), m' = a ∧ σ' = [some (.int (a : Int)), some (.int (p : Int)), some (.ref o), some (.int (r : Int))] ∧ H2 = H' ∧ r < p ∧ r * up p (fac a) % p = up p (fac n) % p, fun _ _ h => h, ?_⟩
    have hm := Nat.mod_lt m (show 0 < p by omega)
    have st := ol_step (p := p) (m := m) (r := r) hP hW
    have hr2 := Nat.mod_lt (r * (fac (m % p) % p)) (show 0 < p by omega)
    refine ⟨_, rfl, _, rfl, _, rfl, _, rfl, _, _, rfl, rfl, hpos, o, _, _, _, rfl, rfl, hO, atI_nat (iv_at (facs_at hm)), _, _, rfl, rfl, .inl ⟨by omega, by omega⟩, _, rfl, _, _, rfl, rfl, hpos, ?_⟩
    refine ⟨_, rfl, _, rfl, _, _, rfl, rfl, cdiv _ hb, ?_⟩
    refine ⟨_, rfl, _, _, rfl, rfl, (show (0 : Int) < 2 by decide), rfl, _, rfl, ?_⟩
    have hdl := Nat.div_lt_self hk hb.1
    refine iteD (fun c => ?_) (fun c => ?_)
    · have c1 := of_decide_eq_true c
      injection c1 with c1
      have c2 : m / p % 2 = 1 := by
        have : ((m / p % 2 : Nat) : Int) = 1 := c1
        omega
      rw [if_pos c2] at st
      refine ⟨_, rfl, _, rfl, _, _, rfl, rfl, _, _, rfl, rfl, .inr ⟨by omega, by omega⟩, _, rfl, _, _, rfl, rfl, hpos, ?_⟩
      refine ⟨m / p, hdl, m / p, r * (fac (m % p) % p) % p * (p - 1) % p, rfl, ?_, rfl, Nat.mod_lt _ (by omega), st.trans e⟩
      have e1 : (p : Int) - 1 = ((p - 1 : Nat) : Int) := by omega
      show [some (V.int ((m / p : Nat) : Int)), some (V.int (p : Int)), some (V.ref o), some (V.int (((r * (fac (m % p) % p) % p : Nat) : Int) * ((p : Int) - 1) % (p : Int)))] = _
      rw [e1]
      rfl
    · have c1 := of_decide_eq_false c
      have c2 : ¬ m / p % 2 = 1 := fun z => c1 (by
        show V.int ((m / p % 2 : Nat) : Int) = V.int 1
        rw [z]
        rfl)
      rw [if_neg c2, Nat.mul_one, Nat.mod_mod] at st
      exact ⟨m / p, hdl, m / p, r * (fac (m % p) % p) % p, rfl, rfl, rfl, hr2, st.trans e⟩
  · have hk : m = 0 := by
      have := of_decide_eq_false c
      omega
    have e0 : up p (fac 0) = 1 := up_no (by show 1 % p ≠ 0; rw [Nat.mod_eq_of_lt (by omega)]; decide)
    rw [hk, e0, Nat.mul_one, Nat.mod_eq_of_lt hr1] at e
    refine ⟨_, rfl, ?_⟩
    rw [e]
    exact q

theorem sc_quotient : FnScope ["upper", "lower", "prime", "figure"] ["upper", "lower", "prime"] (defScope s_quotient) := ⟨rfl, rfl, rfl, by decide +kernel, rfl, by decide +kernel, by decide +kernel⟩
theorem ok_quotient (F : Fun K "quotient" "quotient" s_quotient f fd) : FnOk P w K mg base CX0 1 f fd ["upper", "lower", "prime"] spQuo := by
  refine F.ok sc_quotient (fun vs H Q E h => ?_) (fun cdv A outer s H vs Q E hr h => ?_)
  · obtain ⟨u, l, p, x, rfl, _⟩ := h
    rfl
  obtain ⟨u, l, p, x, rfl, h2, h97, x0, x1, ex, un, q⟩ := h
  have hpos : (0 : Int) < (p : Int) := by omega
  have nd := sc_quotient.nd
  refine ⟨_, pss_consE rfl (ps_set (i := 3) nd rfl (Or.inl rfl) pe_int)
    (pss_cons (ps_while PassesOwn.never (pt_cmpR op_ne (pe_op op_mod (pe_op op_mul (pv 3) (pv 1)) (pv 2)) (pv 0) (nomark _))
      (pss_one (ps_set (i := 3) nd rfl (Or.inl rfl) (pe_op op_add (pv 3) pe_int))))
    (pss_one (ps_ret (pv 3)))), ?_⟩
  refine ⟨fun m σ H' => ∃ a : Nat, m = x - a ∧ a ≤ x ∧ σ = [some (.int (u : Int)), some (.int (l : Int)), some (.int (p : Int)), some (.int (a : Int))] ∧ H' = H, ⟨x - 1, 1, rfl, by omega, rfl, rfl⟩, ?_⟩
  rintro m σ H' ⟨a, rfl, ha, rfl, rfl⟩
  refine ⟨_, rfl, _, rfl, _, _, rfl, rfl, .inl ⟨by omega, by omega⟩, _, rfl, _, _, rfl, rfl, hpos, _, rfl, rfl, _, rfl, ?_⟩
  refine iteD (fun c => ?_) (fun c => ?_)
  · have hne : a ≠ x := by
      intro z
      subst z
      have t : V.int (((a * l % p : Nat)) : Int) = V.int (u : Int) := by rw [ex]
      have c' : (!decide (V.int ((a * l % p : Nat) : Int) = V.int (u : Int))) = true := c
      rw [decide_eq_true t] at c'
      cases c'
    refine ⟨fun σ' H2 => ∃ m', m' < x - a ∧ ∃ a : Nat, m' = x - a ∧ a ≤ x ∧ σ' = [some (.int (u : Int)), some (.int (l : Int)), some (.int (p : Int)), some (.int (a : Int))] ∧ H2 = H', fun _ _ h => h, ?_⟩
    refine ⟨_, rfl, _, _, rfl, rfl, ?_⟩
    exact ⟨x - (a + 1), by omega, a + 1, rfl, by omega, rfl, rfl⟩
  · have e : a * l % p = u := by
      have c' : (!decide (V.int ((a * l % p : Nat) : Int) = V.int (u : Int))) = false := c
      have t : V.int ((a * l % p : Nat) : Int) = V.int (u : Int) := by
        by_cases t : V.int ((a * l % p : Nat) : Int) = V.int (u : Int)
        · exact t
        · rw [decide_eq_false t] at c'; cases c'
      injection t with t
      omega
    have := un a (by omega) e
    subst this
    exact ⟨_, rfl, q⟩

theorem sc_last : FnScope ["many", "some", "prime", "orders", "upper", "lower"] ["many", "some", "prime"] (defScope s_last) := ⟨rfl, rfl, rfl, by decide +kernel, rfl, by decide +kernel, by decide +kernel⟩
theorem ok_last (F : Fun K "last" "last" s_last f fd) (c_check_prime : Cal P w K mg base 2 "check_prime" ["prime"] spPr) (c_check_many : Cal P w K mg base 2 "check_many" ["number"] spMany) (c_has_choice : Cal P w K mg base 2 "has_choice" ["many", "some"] spHas)
    (c_figure_orders : Cal P w K mg base 2 "figure_orders" ["prime"] spFo) (c_order_last : Cal P w K mg base 2 "order_last" ["number", "prime", "orders"] (spOl K)) (c_quotient : Cal P w K mg base 2 "quotient" ["upper", "lower", "prime"] spQuo) : FnOk P w K mg base CX0 3 f fd ["many", "some", "prime"] spLast := by
  refine F.ok sc_last (fun vs H Q E h => ?_) (fun cdv A outer s H vs Q E hr h => ?_)
  · obtain ⟨n, s, p, rfl, _⟩ := h
    rfl
  obtain ⟨n, s, p, rfl, hp, hn, q⟩ := h
  have hb := pr_bd hp
  have hP := isPr_pr hp
  have nd := sc_last.nd
  refine ⟨_, pss_consE rfl (ps_expr (pe_c c_check_prime hr rfl (pa_cons (pv 2) pa_nil)))
    (pss_cons (ps_expr (pe_c c_check_many hr rfl (pa_cons (pv 0) pa_nil)))
    (pss_cons (ps_if (pt_not (pt_val (pe_c c_has_choice hr rfl (pa_cons (pv 0) (pa_cons (pv 1) pa_nil))))) (pss_one (ps_ret pe_non)) pss_nil)
    (pss_cons (ps_set (i := 3) nd rfl (Or.inl rfl) (pe_c c_figure_orders hr rfl (pa_cons (pv 2) pa_nil)))
    (pss_cons (ps_set (i := 4) nd rfl (Or.inl rfl) (pe_c c_order_last hr rfl (pa_cons (pv 0) (pa_cons (pv 2) (pa_cons (pv 3) pa_nil)))))
    (pss_cons (ps_set (i := 5) nd rfl (Or.inl rfl) (pe_op op_mul (pe_c c_order_last hr rfl (pa_cons (pv 1) (pa_cons (pv 2) (pa_cons (pv 3) pa_nil)))) (pe_c c_order_last hr rfl (pa_cons (pe_op op_sub (pv 0) (pv 1)) (pa_cons (pv 2) (pa_cons (pv 3) pa_nil))))))
    (pss_one (ps_ret (pe_c c_quotient hr rfl (pa_cons (pv 4) (pa_cons (pv 5) (pa_cons (pv 2) pa_nil))))))))))), ?_⟩
  refine ⟨_, rfl, p, rfl, hp, ?_⟩
  refine ⟨_, rfl, n, rfl, hn, ?_⟩
  refine ⟨_, rfl, _, rfl, _, _, rfl, _, rfl, ?_⟩
  refine iteD (fun c => ?_) (fun c => ?_)
  · unfold lastV at q
    rw [has_ifN c] at q
    exact q _ same_refl
  have h01 := has_yes c
  unfold lastV at q
  rw [if_pos h01] at q
  obtain ⟨k, rfl⟩ := Int.eq_ofNat_of_zero_le h01.1
  have hk : k ≤ n := by omega
  rw [Cz_nat] at q
  have e : (n : Int) - (k : Int) = ((n - k : Nat) : Int) := by omega
  refine ⟨_, rfl, p, rfl, hp, fun l hl => ?_⟩
  refine ⟨_, rfl, _, rfl, _, rfl, n, p, l, rfl, hp, SqL.of upd_same, ?_⟩
  have m1 := Nat.mod_lt (up p (fac k)) (show 0 < p by omega)
  have m2 := Nat.mod_lt (up p (fac (n - k))) (show 0 < p by omega)
  refine ⟨_, rfl, _, rfl, _, rfl, k, p, l, rfl, hp, SqL.of upd_same, ?_⟩
  refine ⟨_, rfl, _, rfl, _, _, rfl, rfl, _, rfl, _, rfl, n - k, p, l, congrArg (fun z => [V.int z, V.int (p : Int), V.ref l]) e, hp, SqL.of upd_same, _, _, rfl, rfl, .inl ⟨by omega, by omega⟩, ?_⟩
  have hx := (vp_up hb.1 (C n k) (C_pos hk)).2
  have hq := last_quot hP hk
  have hl' : (up p (fac k) % p) * (up p (fac (n - k)) % p) % p ≠ 0 := by
    rw [← Nat.mul_mod]
    exact hP.mul_mod (fac_up_ne hP k) (fac_up_ne hP (n - k))
  have hxl := Nat.mod_lt (up p (C n k)) (show 0 < p by omega)
  refine ⟨_, rfl, _, rfl, _, rfl, up p (fac n) % p, (up p (fac k) % p) * (up p (fac (n - k)) % p), p, up p (C n k) % p, rfl, hb.1, hb.2, by omega, hxl, hq, fun y hy ey => ?_, ?_⟩
  · exact quot_one hP hl' hy hxl (ey.trans hq.symm)
  · exact q _ (same_new hl _)

theorem sc_free : FnScope ["many", "prime", "count", "figure"] ["many", "prime"] (defScope s_free) := ⟨rfl, rfl, rfl, by decide +kernel, rfl, by decide +kernel, by decide +kernel⟩
theorem ok_free (F : Fun K "free" "free" s_free f fd) (c_figures : Cal P w K mg base 2 "figures" ["number", "prime"] spFig) : FnOk P w K mg base CX0 3 f fd ["many", "prime"] spFree := by
  refine F.ok sc_free (fun vs H Q E h => ?_) (fun cdv A outer s H vs Q E hr h => ?_)
  · obtain ⟨n, p, rfl, _⟩ := h
    rfl
  obtain ⟨n, p, rfl, hp, hn, q⟩ := h
  have hb := pr_bd hp
  have hP := isPr_pr hp
  have nd := sc_free.nd
  refine ⟨_, pss_consE rfl (ps_set (i := 2) nd rfl (Or.inl rfl) pe_int)
    (pss_cons (ps_for PassesOwn.never rfl (pi_list (pe_c c_figures hr rfl (pa_cons (pv 0) (pa_cons (pv 1) pa_nil)))) (pg_name (i := 3) nd rfl (Or.inl rfl))
      (pss_one (ps_set (i := 2) nd rfl (Or.inl rfl) (pe_op op_mul (pv 2) (pe_op op_add (pv 3) pe_int)))))
    (pss_one (ps_ret (pv 2)))), ?_⟩
  refine ⟨_, rfl, _, rfl, n, p, rfl, hp, hn, fun l hl => ?_⟩
  refine ⟨l, rfl, ⟨_, SqL.of upd_same⟩, ?_⟩
  refine for_list (xs := iv (digs p n)) (fun i σ H' => ∃ (c : Nat) (t : Option V), σ = [some (.int (n : Int)), some (.int (p : Int)), some (.int (c : Int)), t] ∧ H' = upd H l (.lst (iv (digs p n))) ∧ c * tot p (n / p ^ i) = tot p n) ?_ ?_ ?_ ?_
  · exact ⟨1, none, rfl, rfl, by rw [Nat.pow_zero, Nat.div_one, Nat.one_mul]⟩
  · rintro i σ H' _ ⟨c, t, rfl, rfl, e⟩
    exact SqL.of upd_same
  · rintro i x σ H' hx ⟨c, t, rfl, rfl, e⟩
    obtain ⟨rfl, hi, hu⟩ := iv_dig hb.1 hx
    have hm := Nat.mod_lt (n / p ^ i) (show 0 < p by omega)
    refine ⟨_, rfl, _, rfl, _, _, rfl, rfl, _, _, rfl, rfl, .inr ⟨by omega, by omega⟩, ?_⟩
    refine ⟨c * (n / p ^ i % p + 1), _, rfl, rfl, ?_⟩
    rw [tot_step hP (n / p ^ i)] at e
    rw [div_pow_succ, Nat.mul_assoc]
    exact e
  · rintro σ H' ⟨c, t, rfl, rfl, e⟩
    rw [iv_len, digs_out hb.1, tot_zero hP, Nat.mul_one] at e
    refine ⟨_, rfl, ?_⟩
    rw [e]
    exact q _ (same_new hl _)

-- opts L:unit
theorem sc_next_free : FnScope ["many", "place", "prime", "bounds", "found", "unit", "bound", "above"] ["many", "place", "prime"] (defScope s_next_free) := ⟨rfl, rfl, rfl, by decide +kernel, rfl, by decide +kernel, by decide +kernel⟩
theorem ok_next_free (F : Fun K "next_free" "next_free" s_next_free f fd) (c_figures : Cal P w K mg base 2 "figures" ["number", "prime"] spFig) (z_max : mg "max" = none) : FnOk P w K mg base CX0 3 f fd ["many", "place", "prime"] spNext := by
  refine F.ok sc_next_free (fun vs H Q E h => ?_) (fun cdv A outer s H vs Q E hr h => ?_)
  · obtain ⟨n, k, p, rfl, _⟩ := h
    rfl
  obtain ⟨n, k, p, rfl, hp, hn, q⟩ := h
  have hb := pr_bd hp
  have hP := isPr_pr hp
  have hp0 : 0 < p := by omega
  have nd := sc_next_free.nd
  refine ⟨_, pss_consE rfl (ps_set (i := 3) nd rfl (Or.inl rfl) (pe_c c_figures hr rfl (pa_cons (pv 0) (pa_cons (pv 2) pa_nil))))
    (pss_cons (ps_if (pt_cmpR op_gt (pv 1) (pv 0) (nomark _)) (pss_one (ps_ret pe_non)) pss_nil)
    (pss_cons (ps_set (i := 4) nd rfl (Or.inl rfl) (pe_callB (call_max2 rfl) rfl z_max PyProof.Rows.boot_max (pa_cons (pv 1) (pa_cons pe_int pa_nil))))
    (pss_cons (ps_set (i := 5) nd rfl (Or.inl rfl) pe_int)
    (pss_cons (ps_for PassesOwn.never rfl (pi_list (pv 3)) (pg_name (i := 6) nd rfl (Or.inl rfl))
      (pss_cons (ps_set (i := 7) nd rfl (Or.inl rfl) (pe_op op_mul (pv 5) (pv 2)))
      (pss_cons (ps_join (ps_if (pt_cmpR op_gt (pe_op op_fdivL (pe_op op_mod (pv 4) (pv 7)) (pv 5)) (pv 6) (nomark _)) (pss_one (ps_set (i := 4) nd rfl (Or.inl rfl) (pe_op op_add (pe_op op_sub (pv 4) (pe_op op_mod (pv 4) (pv 7))) (pv 7)))) pss_nil))
      (pss_one (ps_set (i := 5) nd rfl (Or.inl rfl) (pv 7))))))
    (pss_one (ps_ret (pv 4))))))), ?_⟩
  refine ⟨_, rfl, _, rfl, n, p, rfl, hp, hn, fun l hl => ?_⟩
  obtain ⟨q1, q2⟩ := q _ (same_new hl (.lst (iv (digs p n))))
  refine ⟨_, rfl, _, rfl, _, _, rfl, rfl, _, rfl, ?_⟩
  refine iteD (fun c => ?_) (fun c => ?_)
  · exact q1 (of_decide_eq_true c)
  have hkn : k ≤ n := by
    have := of_decide_eq_false c
    omega
  have q2 := q2 hkn
  refine ⟨_, rfl, _, _, rfl, ?_⟩
  have eM : (if (0 : Int) > k then (0 : Int) else k) = ((k.toNat : Nat) : Int) := by split <;> omega
  rw [eM]
  refine ⟨_, rfl, l, rfl, ⟨_, SqL.of upd_same⟩, ?_⟩
  refine for_list (xs := iv (digs p n)) (fun i σ H' => ∃ (g : Nat) (t u : Option V), σ = [some (.int (n : Int)), some (.int k), some (.int (p : Int)), some (.ref l), some (.int (g : Int)), some (.int ((p ^ i : Nat) : Int)), t, u] ∧ H' = upd H l (.lst (iv (digs p n))) ∧
      k ≤ g ∧ (∀ z : Nat, k ≤ z → z < g → ¬ Fr p n z) ∧ ∀ j < i, g / p ^ j % p ≤ n / p ^ j % p) ?_ ?_ ?_ ?_
  · exact ⟨k.toNat, none, none, rfl, rfl, by omega, fun z h1 h2 => by omega, fun j hj => by omega⟩
  · rintro i σ H' _ ⟨g, t, u, rfl, rfl, _⟩
    exact SqL.of upd_same
  · rintro i x σ H' hx ⟨g, t, u, rfl, rfl, h1, h2, h3⟩
    obtain ⟨rfl, hi, hu⟩ := iv_dig hb.1 hx
    have hup : 0 < p ^ i := Nat.pow_pos hp0
    have hup1 : p ^ (i + 1) = p ^ i * p := Nat.pow_succ ..
    have hab : ((p ^ i : Nat) : Int) * (p : Int) = ((p ^ (i + 1) : Nat) : Int) := by rw [hup1, Int.natCast_mul]
    have habp : 0 < p ^ (i + 1) := Nat.pow_pos hp0
    have hbig : p ^ i < 2 ^ 200 := by
      have : (1000000000000000000000000000000 : Nat) < 2 ^ 200 := by decide
      omega
    have hbig2 : ((p ^ i : Nat) : Int) < 2 ^ 200 := by
      have e : ((2 ^ 200 : Nat) : Int) = 2 ^ 200 := by decide
      omega
    refine ⟨_, rfl, _, rfl, _, _, rfl, rfl, .inr ⟨by omega, by omega⟩, ?_⟩
    dsimp only
    rw [hab]
    refine ⟨fun σ' H2 => ∃ (g' : Nat), σ' = [some (.int (n : Int)), some (.int k), some (.int (p : Int)), some (.ref l), some (.int (g' : Int)), some (.int ((p ^ i : Nat) : Int)), some (.int ((n / p ^ i % p : Nat) : Int)), some (.int ((p ^ (i + 1) : Nat) : Int))] ∧ H2 = upd H l (.lst (iv (digs p n))) ∧
      k ≤ g' ∧ (∀ z : Nat, k ≤ z → z < g' → ¬ Fr p n z) ∧ ∀ j < i + 1, g' / p ^ j % p ≤ n / p ^ j % p, ?_, ?_⟩
    · refine ⟨_, rfl, _, rfl, _, _, rfl, rfl, (show (0 : Int) < ((p ^ (i + 1) : Nat) : Int) by omega), _, rfl, _, _, rfl, rfl, ⟨(by omega), hbig2⟩, _, rfl, _, _, rfl, rfl, _, rfl, ?_⟩
      refine iteD (fun c => ?_) (fun c => ?_)
      · have c1 := of_decide_eq_true c
        have c2 : n / p ^ i % p < g % p ^ (i + 1) / p ^ i := by
          have : ((n / p ^ i % p : Nat) : Int) < ((g % p ^ (i + 1) / p ^ i : Nat) : Int) := c1
          omega
        refine ⟨_, rfl, _, rfl, _, rfl, _, _, rfl, rfl, (show (0 : Int) < ((p ^ (i + 1) : Nat) : Int) by omega), _, _, rfl, rfl, _, rfl, _, _, rfl, rfl, ?_⟩
        have hle := Nat.mod_le g (p ^ (i + 1))
        refine ⟨g - g % p ^ (i + 1) + p ^ (i + 1), ?_, rfl, ?_, fun z z1 z2 => ?_, fun j hj => ?_⟩
        · have e : (g : Int) - (g : Int) % ((p ^ (i + 1) : Nat) : Int) + ((p ^ (i + 1) : Nat) : Int) = ((g - g % p ^ (i + 1) + p ^ (i + 1) : Nat) : Int) := by
            rw [← Int.natCast_emod]
            omega
          show [some (V.int (n : Int)), some (V.int k), some (V.int (p : Int)), some (V.ref l), some (V.int ((g : Int) - (g : Int) % ((p ^ (i + 1) : Nat) : Int) + ((p ^ (i + 1) : Nat) : Int))), some (V.int ((p ^ i : Nat) : Int)), some (V.int ((n / p ^ i % p : Nat) : Int)), some (V.int ((p ^ (i + 1) : Nat) : Int))] = _
          rw [e]
        · have := Nat.mod_lt g habp
          omega
        · rcases Nat.lt_or_ge z g with y | y
          · exact h2 z z1 y
          · exact gap hP c2 y z2
        · rw [up_digs hp0 hj]
          exact Nat.zero_le _
      · have c1 := of_decide_eq_false c
        have c2 : ¬ n / p ^ i % p < g % p ^ (i + 1) / p ^ i := fun z => c1 (by
          show ((n / p ^ i % p : Nat) : Int) < ((g % p ^ (i + 1) / p ^ i : Nat) : Int)
          omega)
        rw [dig_at] at c2
        refine ⟨g, rfl, rfl, h1, h2, fun j hj => ?_⟩
        rcases Nat.lt_or_ge j i with y | y
        · exact h3 j y
        · have e : j = i := by omega
          rw [e]
          omega
    · rintro σ2 H2 ⟨g', rfl, rfl, k1, k2, k3⟩
      exact ⟨_, rfl, g', _, _, rfl, rfl, k1, k2, k3⟩
  · rintro σ H' ⟨g, t, u, rfl, rfl, h1, h2, h3⟩
    have hgn : g ≤ n := by
      rcases Nat.lt_or_ge n g with y | y
      · exact absurd (fr_self hP n) (h2 n hkn y)
      · exact y
    rw [iv_len] at h3
    have hF : Fr p n g := by
      rw [fr_digs hP (digs p n).length n g]
      refine ⟨h3, ?_⟩
      have z := digs_out (p := p) (n := n) hb.1
      rw [z]
      have z2 : g / p ^ (digs p n).length = 0 := by
        have le := Nat.div_le_div_right (c := p ^ (digs p n).length) hgn
        rw [z] at le
        exact Nat.le_zero.mp le
      rw [z2]
      exact fr_zero hP 0
    exact ⟨_, rfl, q2 g h1 hgn hF h2⟩

theorem sc_free_ahead : FnScope ["many", "place", "prime", "bounds", "left", "ahead", "whole", "bound", "figure"] ["many", "place", "prime"] (defScope s_free_ahead) := ⟨rfl, rfl, rfl, by decide +kernel, rfl, by decide +kernel, by decide +kernel⟩
theorem ok_free_ahead (F : Fun K "free_ahead" "free_ahead" s_free_ahead f fd) (c_figures : Cal P w K mg base 3 "figures" ["number", "prime"] spFig) (c_free : Cal P w K mg base 3 "free" ["many", "prime"] spFree) (z_max : mg "max" = none) : FnOk P w K mg base CX0 4 f fd ["many", "place", "prime"] spAhead := by
  refine F.ok sc_free_ahead (fun vs H Q E h => ?_) (fun cdv A outer s H vs Q E hr h => ?_)
  · obtain ⟨n, k, p, rfl, _⟩ := h
    rfl
  obtain ⟨n, k, p, rfl, hp, hn, q⟩ := h
  have hb := pr_bd hp
  have hP := isPr_pr hp
  have hp0 : 0 < p := by omega
  have hpos : (0 : Int) < (p : Int) := by omega
  have nd := sc_free_ahead.nd
  refine ⟨_, pss_consE rfl (ps_set (i := 3) nd rfl (Or.inl rfl) (pe_c c_figures hr rfl (pa_cons (pv 0) (pa_cons (pv 2) pa_nil))))
    (pss_cons (ps_if (pt_cmpR op_gt (pv 1) (pv 0) (nomark _)) (pss_one (ps_ret (pe_c c_free hr rfl (pa_cons (pv 0) (pa_cons (pv 2) pa_nil))))) pss_nil)
    (pss_cons (ps_set (i := 4) nd rfl (Or.inl rfl) (pe_callB (call_max2 rfl) rfl z_max PyProof.Rows.boot_max (pa_cons (pv 1) (pa_cons pe_int pa_nil))))
    (pss_cons (ps_set (i := 5) nd rfl (Or.inl rfl) pe_int)
    (pss_cons (ps_set (i := 6) nd rfl (Or.inl rfl) pe_int)
    (pss_cons (ps_for PassesOwn.never rfl (pi_list (pv 3)) (pg_name (i := 7) nd rfl (Or.inl rfl))
      (pss_cons (ps_set (i := 8) nd rfl (Or.inl rfl) (pe_op op_mod (pv 4) (pv 2)))
      (pss_cons (ps_set (i := 4) nd rfl (Or.inl rfl) (pe_op op_fdiv (pv 4) (pv 2)))
      (pss_cons (ps_join (ps_if (pt_cmpR op_gt (pv 8) (pv 7) (nomark _)) (pss_one (ps_set (i := 5) nd rfl (Or.inl rfl) (pe_op op_mul (pv 6) (pe_op op_add (pv 7) pe_int)))) (pss_one (ps_set (i := 5) nd rfl (Or.inl rfl) (pe_op op_add (pe_op op_mul (pv 6) (pv 8)) (pv 5))))))
      (pss_one (ps_set (i := 6) nd rfl (Or.inl rfl) (pe_op op_mul (pv 6) (pe_op op_add (pv 7) pe_int))))))))
    (pss_one (ps_ret (pv 5)))))))), ?_⟩
  refine ⟨_, rfl, _, rfl, n, p, rfl, hp, hn, fun l hl => ?_⟩
  refine ⟨_, rfl, _, rfl, _, _, rfl, rfl, _, rfl, ?_⟩
  refine iteD (fun c => ?_) (fun c => ?_)
  · have c1 := of_decide_eq_true c
    refine ⟨_, rfl, _, rfl, n, p, rfl, hp, hn, fun H2 g2 => ?_⟩
    have q' := q H2 (same_tr (same_new hl _) g2)
    rw [cnt_beyond (show n < k.toNat by omega)] at q'
    exact q'
  have hkn : k ≤ n := by
    have := of_decide_eq_false c
    omega
  refine ⟨_, rfl, _, _, rfl, ?_⟩
  have eM : (if (0 : Int) > k then (0 : Int) else k) = ((k.toNat : Nat) : Int) := by split <;> omega
  rw [eM]
  have hK : k.toNat ≤ n := by omega
  generalize k.toNat = kk at *
  refine ⟨_, rfl, l, rfl, ⟨_, SqL.of upd_same⟩, ?_⟩
  refine for_list (xs := iv (digs p n)) (fun i σ H' => ∃ (a w : Nat) (t u : Option V), σ = [some (.int (n : Int)), some (.int k), some (.int (p : Int)), some (.ref l), some (.int ((kk / p ^ i : Nat) : Int)), some (.int (a : Int)), some (.int (w : Int)), t, u] ∧ H' = upd H l (.lst (iv (digs p n))) ∧
      w * cnt p (n / p ^ i) (kk / p ^ i) + (if Fr p (n / p ^ i) (kk / p ^ i) then a else 0) = cnt p n kk) ?_ ?_ ?_ ?_
  · refine ⟨0, 1, none, none, ?_, rfl, ?_⟩
    · rw [Nat.pow_zero, Nat.div_one]
      rfl
    · rw [Nat.pow_zero, Nat.div_one, Nat.div_one, Nat.one_mul]
      split <;> rfl
  · rintro i σ H' _ ⟨a, w, t, u, rfl, rfl, _⟩
    exact SqL.of upd_same
  · rintro i x σ H' hx ⟨a, w, t, u, rfl, rfl, e⟩
    obtain ⟨rfl, hi, hu⟩ := iv_dig hb.1 hx
    have hm := Nat.mod_lt (n / p ^ i) hp0
    have hm2 := Nat.mod_lt (kk / p ^ i) hp0
    rw [ahead_step hP, ← div_pow_succ, ← div_pow_succ] at e
    refine ⟨_, rfl, _, rfl, _, _, rfl, rfl, hpos, ?_⟩
    refine ⟨_, rfl, _, rfl, _, _, rfl, rfl, cdiv _ hb, ?_⟩
    refine ⟨fun σ' H2 => σ' = [some (.int (n : Int)), some (.int k), some (.int (p : Int)), some (.ref l), some (.int ((kk / p ^ (i + 1) : Nat) : Int)), some (.int (((if n / p ^ i % p < kk / p ^ i % p then w * (n / p ^ i % p + 1) else w * (kk / p ^ i % p) + a) : Nat) : Int)), some (.int (w : Int)), some (.int ((n / p ^ i % p : Nat) : Int)), some (.int ((kk / p ^ i % p : Nat) : Int))] ∧ H2 = upd H l (.lst (iv (digs p n))), ?_, ?_⟩
    · rw [div_pow_succ kk]
      refine ⟨_, rfl, _, rfl, _, _, rfl, rfl, _, rfl, ?_⟩
      refine iteD (fun c => ?_) (fun c => ?_)
      · have c1 : ((n / p ^ i % p : Nat) : Int) < ((kk / p ^ i % p : Nat) : Int) := of_decide_eq_true c
        rw [if_pos (by omega)]
        refine ⟨_, rfl, _, rfl, _, _, rfl, rfl, _, _, rfl, rfl, .inr ⟨by omega, by omega⟩, ?_⟩
        exact ⟨rfl, rfl⟩
      · have c1 : ¬ ((n / p ^ i % p : Nat) : Int) < ((kk / p ^ i % p : Nat) : Int) := of_decide_eq_false c
        rw [if_neg (by omega)]
        refine ⟨_, rfl, _, rfl, _, _, rfl, rfl, .inr ⟨by omega, by omega⟩, _, rfl, _, _, rfl, rfl, ?_⟩
        exact ⟨rfl, rfl⟩
    · rintro σ2 H2 ⟨rfl, rfl⟩
      refine ⟨_, rfl, _, rfl, _, _, rfl, rfl, _, _, rfl, rfl, .inr ⟨by omega, by omega⟩, ?_⟩
      exact ⟨_, w * (n / p ^ i % p + 1), _, _, rfl, rfl, e⟩
  · rintro σ H' ⟨a, w, t, u, rfl, rfl, e⟩
    rw [iv_len] at e
    have z := digs_out (p := p) (n := n) hb.1
    have z2 : kk / p ^ (digs p n).length = 0 := by
      have le := Nat.div_le_div_right (c := p ^ (digs p n).length) hK
      rw [z] at le
      exact Nat.le_zero.mp le
    rw [z, z2, if_pos (fr_zero hP 0)] at e
    have e' : a = cnt p n kk := by
      have : cnt p 0 0 = 0 := rfl
      rw [this, Nat.mul_zero, Nat.zero_add] at e
      exact e
    refine ⟨_, rfl, ?_⟩
    rw [e']
    exact q _ (same_new hl _)

theorem sc_free_at : FnScope ["many", "number", "prime", "bounds", "place", "unit", "left", "bound"] ["many", "number", "prime"] (defScope s_free_at) := ⟨rfl, rfl, rfl, by decide +kernel, rfl, by decide +kernel, by decide +kernel⟩
theorem ok_free_at (F : Fun K "free_at" "free_at" s_free_at f fd) (c_figures : Cal P w K mg base 3 "figures" ["number", "prime"] spFig) (c_free : Cal P w K mg base 3 "free" ["many", "prime"] spFree) : FnOk P w K mg base CX0 4 f fd ["many", "number", "prime"] spAt := by
  refine F.ok sc_free_at (fun vs H Q E h => ?_) (fun cdv A outer s H vs Q E hr h => ?_)
  · obtain ⟨n, m, p, rfl, _⟩ := h
    rfl
  obtain ⟨n, m, p, rfl, hp, hn, hm, q⟩ := h
  have hb := pr_bd hp
  have hP := isPr_pr hp
  have hp0 : 0 < p := by omega
  have nd := sc_free_at.nd
  refine ⟨_, pss_consE rfl (ps_set (i := 3) nd rfl (Or.inl rfl) (pe_c c_figures hr rfl (pa_cons (pv 0) (pa_cons (pv 2) pa_nil))))
    (pss_cons (ps_if (PW.pt (pw_or (pt_cmpR op_lt (pv 1) pe_int (nomark _)) (pw_or1 (pt_cmpR op_ge (pv 1) (pe_c c_free hr rfl (pa_cons (pv 0) (pa_cons (pv 2) pa_nil))) (nomark _))))) pss_never pss_nil)
    (pss_cons (ps_set (i := 4) nd rfl (Or.inl rfl) pe_int)
    (pss_cons (ps_set (i := 5) nd rfl (Or.inl rfl) pe_int)
    (pss_cons (ps_set (i := 6) nd rfl (Or.inl rfl) (pv 1))
    (pss_cons (ps_for PassesOwn.never rfl (pi_list (pv 3)) (pg_name (i := 7) nd rfl (Or.inl rfl))
      (pss_cons (ps_set (i := 4) nd rfl (Or.inl rfl) (pe_op op_add (pv 4) (pe_op op_mul (pe_op op_mod (pv 6) (pe_op op_add (pv 7) pe_int)) (pv 5))))
      (pss_cons (ps_set (i := 6) nd rfl (Or.inl rfl) (pe_op op_fdiv (pv 6) (pe_op op_add (pv 7) pe_int)))
      (pss_one (ps_set (i := 5) nd rfl (Or.inl rfl) (pe_op op_mul (pv 5) (pv 2)))))))
    (pss_one (ps_ret (pv 4)))))))), ?_⟩
  refine ⟨_, rfl, _, rfl, n, p, rfl, hp, hn, fun l hl => ?_⟩
  refine ⟨_, rfl, _, _, rfl, rfl, _, rfl, ?_⟩
  refine iteB (decide_eq_false (by omega)) ?_
  refine ⟨_, rfl, _, rfl, _, rfl, n, p, rfl, hp, hn, fun H2 g2 => ?_⟩
  refine ⟨_, _, rfl, rfl, _, rfl, ?_⟩
  refine iteB (decide_eq_false (by omega)) ?_
  have hL : H2 l = some (.lst (iv (digs p n))) := g2 _ _ upd_same
  have gS := same_tr (same_new hl _) g2
  refine ⟨_, rfl, ?_⟩
  refine ⟨_, rfl, l, rfl, ⟨_, SqL.of hL⟩, ?_⟩
  refine for_list (xs := iv (digs p n)) (fun i σ H' => ∃ (j m' : Nat) (t : Option V), σ = [some (.int (n : Int)), some (.int (m : Int)), some (.int (p : Int)), some (.ref l), some (.int (j : Int)), some (.int ((p ^ i : Nat) : Int)), some (.int (m' : Int)), t] ∧ H' = H2 ∧
      m' < tot p (n / p ^ i) ∧ ∀ J, Fr p (n / p ^ i) J → cnt p (n / p ^ i) J = m' → Fr p n (j + J * p ^ i) ∧ cnt p n (j + J * p ^ i) = m) ?_ ?_ ?_ ?_
  · refine ⟨0, m, none, rfl, rfl, ?_, fun J h1 h2 => ?_⟩
    · rw [Nat.pow_zero, Nat.div_one]; exact hm
    · rw [Nat.pow_zero, Nat.div_one] at h1 h2
      rw [Nat.pow_zero, Nat.mul_one, Nat.zero_add]
      exact ⟨h1, h2⟩
  · rintro i σ H' _ ⟨j, m', t, rfl, rfl, _⟩
    exact SqL.of hL
  · rintro i x σ H' hx ⟨j, m', t, rfl, rfl, h1, h2⟩
    obtain ⟨rfl, hi, hu⟩ := iv_dig hb.1 hx
    have hmd := Nat.mod_lt (n / p ^ i) hp0
    have hme := Nat.mod_lt m' (show 0 < n / p ^ i % p + 1 by omega)
    have em : (m' : Int) % (((n / p ^ i % p : Nat) : Int) + 1) = ((m' % (n / p ^ i % p + 1) : Nat) : Int) := rfl
    refine ⟨_, rfl, _, rfl, _, rfl, _, _, rfl, rfl, _, ((n / p ^ i % p : Nat) : Int) + 1, rfl, rfl, (by omega), _, rfl, ((m' % (n / p ^ i % p + 1) : Nat) : Int), _, rfl, rfl, .inl ⟨by omega, by omega⟩, _, _, rfl, rfl, ?_⟩
    refine ⟨_, rfl, _, rfl, _, _, rfl, rfl, _, ((n / p ^ i % p : Nat) : Int) + 1, rfl, rfl, ⟨by omega, by omega⟩, ?_⟩
    refine ⟨_, rfl, _, rfl, _, _, rfl, rfl, .inr ⟨by omega, by omega⟩, ?_⟩
    refine ⟨j + m' % (n / p ^ i % p + 1) * p ^ i, m' / (n / p ^ i % p + 1), some (.int ((n / p ^ i % p : Nat) : Int)), ?_, rfl, ?_, fun J k1 k2 => ?_⟩
    · rw [Nat.pow_succ]
      rfl
    · rw [tot_step hP] at h1
      rw [div_pow_succ]
      exact Nat.div_lt_of_lt_mul h1
    · rw [div_pow_succ] at k1 k2
      obtain ⟨a1, a2⟩ := at_step hP k1 k2
      obtain ⟨b1, b2⟩ := h2 _ a1 a2
      have e : j + (m' % (n / p ^ i % p + 1) + p * J) * p ^ i = j + m' % (n / p ^ i % p + 1) * p ^ i + J * p ^ (i + 1) := by
        rw [Nat.add_mul, Nat.pow_succ, Nat.mul_comm p J, Nat.mul_assoc, Nat.mul_comm p (p ^ i), Nat.add_assoc]
      rw [e] at b1 b2
      exact ⟨b1, b2⟩
  · rintro σ H' ⟨j, m', t, rfl, rfl, h1, h2⟩
    rw [iv_len, digs_out hb.1] at h1 h2
    rw [tot_zero hP] at h1
    have e : m' = 0 := by omega
    obtain ⟨b1, b2⟩ := h2 0 (fr_zero hP 0) (by rw [e]; rfl)
    rw [Nat.zero_mul, Nat.add_zero] at b1 b2
    exact ⟨_, rfl, q _ j gS b1 b2⟩

theorem sc_is_bare : FnScope ["many", "prime"] ["many", "prime"] (defScope s_is_bare) := ⟨rfl, rfl, rfl, by decide +kernel, rfl, by decide +kernel, by decide +kernel⟩
theorem ok_is_bare (F : Fun K "is_bare" "is_bare" s_is_bare f fd) (c_free : Cal P w K mg base 3 "free" ["many", "prime"] spFree) : FnOk P w K mg base CX0 4 f fd ["many", "prime"] spBare := by
  refine F.ok sc_is_bare (fun vs H Q E h => ?_) (fun cdv A outer s H vs Q E hr h => ?_)
  · obtain ⟨n, p, rfl, _⟩ := h
    rfl
  obtain ⟨n, p, rfl, hp, hn, q⟩ := h
  refine ⟨_, pss_oneE rfl (ps_ret (pe_cmpR op_eq (pe_c c_free hr rfl (pa_cons (pv 0) (pa_cons (pv 1) pa_nil))) (pe_op op_add (pv 0) pe_int) (nomark _))), ?_⟩
  refine ⟨_, rfl, _, rfl, n, p, rfl, hp, hn, fun H2 g2 => ?_⟩
  refine ⟨_, rfl, _, _, rfl, rfl, rfl, ?_⟩
  have e : decide (V.int ((tot p n : Nat) : Int) = V.int ((n : Int) + 1)) = decide (tot p n = n + 1) := by
    rw [Bool.eq_iff_iff, decide_eq_true_iff, decide_eq_true_iff]
    constructor
    · intro h
      injection h with h
      omega
    · intro h
      rw [h]
      rfl
  show Q (.bl (decide (V.int ((tot p n : Nat) : Int) = V.int ((n : Int) + 1)))) _
  rw [e]
  exact q _ g2

theorem sc_is_full : FnScope ["many", "prime"] ["many", "prime"] (defScope s_is_full) := ⟨rfl, rfl, rfl, by decide +kernel, rfl, by decide +kernel, by decide +kernel⟩
theorem ok_is_full (F : Fun K "is_full" "is_full" s_is_full f fd) (c_free : Cal P w K mg base 3 "free" ["many", "prime"] spFree) : FnOk P w K mg base CX0 4 f fd ["many", "prime"] spFull := by
  refine F.ok sc_is_full (fun vs H Q E h => ?_) (fun cdv A outer s H vs Q E hr h => ?_)
  · obtain ⟨n, p, rfl, _⟩ := h
    rfl
  obtain ⟨n, p, rfl, hp, hn, q⟩ := h
  refine ⟨_, pss_oneE rfl (ps_ret (pe_and (pe_cmpR op_eq (pe_c c_free hr rfl (pa_cons (pv 0) (pa_cons (pv 1) pa_nil))) pe_int (nomark _)) (pe_one (pe_cmpR op_ge (pv 0) pe_int (nomark _))))), ?_⟩
  refine ⟨_, rfl, _, rfl, n, p, rfl, hp, hn, fun H2 g2 => ?_⟩
  have e : decide (V.int ((tot p n : Nat) : Int) = V.int 2) = decide (tot p n = 2) := by
    rw [Bool.eq_iff_iff, decide_eq_true_iff, decide_eq_true_iff]
    constructor
    · intro h
      injection h with h
      omega
    · intro h
      rw [h]
      rfl
  refine ⟨rfl, _, congrArg V.bl e, ?_⟩
  have q' := q _ g2
  refine iteD (fun c => ?_) (fun c => ?_)
  · refine ⟨_, rfl, _, _, rfl, rfl, ?_⟩
    have e2 : decide ((2 : Int) ≤ (n : Int)) = decide (2 ≤ n) := by
      rw [Bool.eq_iff_iff, decide_eq_true_iff, decide_eq_true_iff]
      omega
    rw [c, Bool.true_and, ← e2] at q'
    exact q'
  · rw [c, Bool.false_and] at q'
    exact q'

theorem x_check_prime {pa cP : Addr} {ds : List Addr} (F : Fun K "check_prime" "check_prime" s_check_prime f fd) (hP : mg "PRIMES" = some (.ref pa)) (hT : ∀ H, SqT K H pa primesV) (mP : mg "NoPrime" = some (.ref cP)) (oP : OwnE K cP ds) : FnOk P w K mg base (CX1 P w) 1 f fd ["prime"] (spCP cP) := by
  refine F.okX sc_check_prime (fun vs H Q E h => ?_) (fun cdv A outer s H vs Q E hr h => ?_)
  · obtain ⟨p, rfl, _⟩ := h
    rfl
  obtain ⟨p, rfl, hf, q, hE⟩ := h
  refine ⟨_, pss_oneE rfl (ps_if (pt_cmpR op_notIn_seq (pv 0) (pe_glob (v := .ref pa) rfl hP rfl) (by with_unfolding_all rfl)) (pss_one (ps_raiseX rfl mP oP (pa_cons (pe_fstr (pcs_cons (pc_fmt (pv 0)) (pcs_cons (pc_txt (by decide)) pcs_nil)) (by decide)) pa_nil))) pss_nil), ?_⟩
  refine ⟨_, rfl, pa, primesV, rfl, .inr (hT _), rfl, pr_flat, _, rfl, ?_⟩
  refine iteD (fun c => ?_) (fun c => ?_)
  · have ng : ¬ GoodP p := fun g => by
      have c' : (!inV (.int p) primesV) = true := c
      rw [goodP_in.mp g] at c'
      cases c'
    refine ⟨fun c hc => ?_, fun x => ⟨⟨_, rfl⟩, hE ng⟩⟩
    rcases List.mem_cons.mp hc with rfl | hc
    · exact ⟨_, rfl, rfl, p, rfl, hf⟩
    · rw [List.mem_singleton.mp hc]
      trivial
  · refine q (goodP_in.mpr ?_)
    have c' : (!inV (.int p) primesV) = false := c
    cases h : inV (.int p) primesV with
    | true => rfl
    | false => rw [h] at c'; cases c'
theorem x_check_many {cM : Addr} {ds : List Addr} (F : Fun K "check_many" "check_many" s_check_many f fd) (mM : mg "NoMany" = some (.ref cM)) (oM : OwnE K cM ds) : FnOk P w K mg base (CX1 P w) 1 f fd ["number"] (spCM cM) := by
  refine F.okX sc_check_many (fun vs H Q E h => ?_) (fun cdv A outer s H vs Q E hr h => ?_)
  · obtain ⟨p, rfl, _⟩ := h
    rfl
  obtain ⟨n, rfl, hf, q, hE⟩ := h
  refine ⟨_, pss_oneE rfl (ps_if (PW.pt (pw_or (pt_cmpR op_lt (pv 0) pe_int (nomark _)) (pw_or1 (pt_cmpR op_gt (pv 0) (pe_op op_pow pe_int pe_int) (nomark _))))) (pss_one (ps_raiseX rfl mM oM (pa_cons (pe_fstr (pcs_cons (pc_fmt (pv 0)) (pcs_cons (pc_txt (by decide)) pcs_nil)) (by decide)) pa_nil))) pss_nil), ?_⟩
  have raise : ¬ GoodN n → (∀ c ∈ [(fun σ H => tVar 0 σ H fun v H1 => H1 = H ∧ ∃ i : Int, v = .int i ∧ i.natAbs < 2 ^ 1000 : St → Hp → Prop), fun _ _ => True], c (start ["number"] [V.int n]) H) ∧ E (.ref cM) none H := fun ng => by
    refine ⟨fun c hc => ?_, hE ng⟩
    rcases List.mem_cons.mp hc with rfl | hc
    · exact ⟨_, rfl, rfl, n, rfl, hf⟩
    · rw [List.mem_singleton.mp hc]
      trivial
  refine ⟨_, rfl, _, _, rfl, rfl, _, rfl, ?_⟩
  refine iteD (fun c => ?_) (fun c => ?_)
  · have c' : n < 0 := of_decide_eq_true c
    obtain ⟨r1, r2⟩ := raise (fun g => by have := g.1; omega)
    exact iteT ⟨r1, fun x => ⟨⟨_, rfl⟩, r2⟩⟩
  have c0 : ¬ n < 0 := of_decide_eq_false c
  refine ⟨_, rfl, _, _, rfl, rfl, cp30, _, _, rfl, rfl, _, rfl, ?_⟩
  refine iteD (fun c => ?_) (fun c => ?_)
  · have c' := of_decide_eq_true c
    rw [e30] at c'
    obtain ⟨r1, r2⟩ := raise (fun g => by have := g.2; omega)
    exact ⟨r1, fun x => ⟨⟨_, rfl⟩, r2⟩⟩
  · have c' := of_decide_eq_false c
    rw [e30] at c'
    exact q ⟨by omega, by omega⟩
section
variable {cP cM : Addr} (c_check_prime : CalX P w K mg base 1 "check_prime" ["prime"] (spCP cP)) (c_check_many : CalX P w K mg base 1 "check_many" ["number"] (spCM cM))
include c_check_prime c_check_many
theorem x_figures (F : Fun K "figures" "figures" s_figures f fd) : FnOk P w K mg base (CX1 P w) 2 f fd ["number", "prime"] (sB2 cP cM) := by
  refine F.okX sc_figures (fun vs H Q E h => ?_) (fun cdv A outer s H vs Q E hr h => ?_)
  · obtain ⟨n, p, rfl, _⟩ := h
    rfl
  obtain ⟨n, p, rfl, hp, hn, hb⟩ := h
  refine ⟨_, pss_consE rfl (ps_expr (pe_cX c_check_prime passX hr rfl (pa_cons (pv 1) pa_nil))) (pss_cons (ps_expr (pe_cX c_check_many passX hr rfl (pa_cons (pv 0) pa_nil))) pss_never), ?_⟩
  rcases hb with ⟨gP, hE⟩ | ⟨gP, gN, hE⟩
  · exact ⟨_, rfl, p, rfl, hp, fun g => absurd g gP, fun _ => hE⟩
  · exact ⟨_, rfl, p, rfl, hp, fun _ => ⟨_, rfl, n, rfl, hn, fun g => absurd g gN, fun _ => hE⟩, fun g => absurd gP g⟩
theorem x_order_power (F : Fun K "order_power" "order_power" s_order_power f fd) : FnOk P w K mg base (CX1 P w) 2 f fd ["number", "prime"] (sB2 cP cM) := by
  refine F.okX sc_order_power (fun vs H Q E h => ?_) (fun cdv A outer s H vs Q E hr h => ?_)
  · obtain ⟨n, p, rfl, _⟩ := h
    rfl
  obtain ⟨n, p, rfl, hp, hn, hb⟩ := h
  refine ⟨_, pss_consE rfl (ps_expr (pe_cX c_check_prime passX hr rfl (pa_cons (pv 1) pa_nil))) (pss_cons (ps_expr (pe_cX c_check_many passX hr rfl (pa_cons (pv 0) pa_nil))) pss_never), ?_⟩
  rcases hb with ⟨gP, hE⟩ | ⟨gP, gN, hE⟩
  · exact ⟨_, rfl, p, rfl, hp, fun g => absurd g gP, fun _ => hE⟩
  · exact ⟨_, rfl, p, rfl, hp, fun _ => ⟨_, rfl, n, rfl, hn, fun g => absurd g gN, fun _ => hE⟩, fun g => absurd gP g⟩
theorem x_carries (F : Fun K "carries" "carries" s_carries f fd) : FnOk P w K mg base (CX1 P w) 2 f fd ["one", "other", "prime"] (sBC cP cM) := by
  refine F.okX sc_carries (fun vs H Q E h => ?_) (fun cdv A outer s H vs Q E hr h => ?_)
  · obtain ⟨a, b, p, rfl, _⟩ := h
    rfl
  obtain ⟨a, b, p, rfl, hp, ha, hb', hb⟩ := h
  refine ⟨_, pss_consE rfl (ps_expr (pe_cX c_check_prime passX hr rfl (pa_cons (pv 2) pa_nil))) (pss_cons (ps_expr (pe_cX c_check_many passX hr rfl (pa_cons (pv 0) pa_nil))) (pss_cons (ps_expr (pe_cX c_check_many passX hr rfl (pa_cons (pv 1) pa_nil))) pss_never)), ?_⟩
  rcases hb with ⟨gP, hE⟩ | ⟨gP, gN, hE⟩
  · exact ⟨_, rfl, p, rfl, hp, fun g => absurd g gP, fun _ => hE⟩
  · exact ⟨_, rfl, p, rfl, hp, fun _ => ⟨_, rfl, a, rfl, ha, fun g => ⟨_, rfl, b, rfl, hb', fun g2 => absurd ⟨g, g2⟩ gN, fun _ => hE⟩, fun _ => hE⟩, fun g => absurd gP g⟩
theorem x_rest (F : Fun K "rest" "rest" s_rest f fd) : FnOk P w K mg base (CX1 P w) 2 f fd ["many", "some", "prime"] (sB3 cP cM) := by
  refine F.okX sc_rest (fun vs H Q E h => ?_) (fun cdv A outer s H vs Q E hr h => ?_)
  · obtain ⟨n, x, p, rfl, _⟩ := h
    rfl
  obtain ⟨n, x, p, rfl, hp, hn, hb⟩ := h
  refine ⟨_, pss_consE rfl (ps_expr (pe_cX c_check_prime passX hr rfl (pa_cons (pv 2) pa_nil))) (pss_cons (ps_expr (pe_cX c_check_many passX hr rfl (pa_cons (pv 0) pa_nil))) pss_never), ?_⟩
  rcases hb with ⟨gP, hE⟩ | ⟨gP, gN, hE⟩
  · exact ⟨_, rfl, p, rfl, hp, fun g => absurd g gP, fun _ => hE⟩
  · exact ⟨_, rfl, p, rfl, hp, fun _ => ⟨_, rfl, n, rfl, hn, fun g => absurd g gN, fun _ => hE⟩, fun g => absurd gP g⟩
theorem x_power (F : Fun K "power" "power" s_power f fd) : FnOk P w K mg base (CX1 P w) 2 f fd ["many", "some", "prime"] (sB3 cP cM) := by
  refine F.okX sc_power (fun vs H Q E h => ?_) (fun cdv A outer s H vs Q E hr h => ?_)
  · obtain ⟨n, x, p, rfl, _⟩ := h
    rfl
  obtain ⟨n, x, p, rfl, hp, hn, hb⟩ := h
  refine ⟨_, pss_consE rfl (ps_expr (pe_cX c_check_prime passX hr rfl (pa_cons (pv 2) pa_nil))) (pss_cons (ps_expr (pe_cX c_check_many passX hr rfl (pa_cons (pv 0) pa_nil))) pss_never), ?_⟩
  rcases hb with ⟨gP, hE⟩ | ⟨gP, gN, hE⟩
  · exact ⟨_, rfl, p, rfl, hp, fun g => absurd g gP, fun _ => hE⟩
  · exact ⟨_, rfl, p, rfl, hp, fun _ => ⟨_, rfl, n, rfl, hn, fun g => absurd g gN, fun _ => hE⟩, fun g => absurd gP g⟩
theorem x_last (F : Fun K "last" "last" s_last f fd) : FnOk P w K mg base (CX1 P w) 2 f fd ["many", "some", "prime"] (sB3 cP cM) := by
  refine F.okX sc_last (fun vs H Q E h => ?_) (fun cdv A outer s H vs Q E hr h => ?_)
  · obtain ⟨n, x, p, rfl, _⟩ := h
    rfl
  obtain ⟨n, x, p, rfl, hp, hn, hb⟩ := h
  refine ⟨_, pss_consE rfl (ps_expr (pe_cX c_check_prime passX hr rfl (pa_cons (pv 2) pa_nil))) (pss_cons (ps_expr (pe_cX c_check_many passX hr rfl (pa_cons (pv 0) pa_nil))) pss_never), ?_⟩
  rcases hb with ⟨gP, hE⟩ | ⟨gP, gN, hE⟩
  · exact ⟨_, rfl, p, rfl, hp, fun g => absurd g gP, fun _ => hE⟩
  · exact ⟨_, rfl, p, rfl, hp, fun _ => ⟨_, rfl, n, rfl, hn, fun g => absurd g gN, fun _ => hE⟩, fun g => absurd gP g⟩
end
theorem x_choices {cM cT : Addr} {ds : List Addr} {tM : Tok} (F : Fun K "choices" "choices" s_choices f fd) (hM : mg "MOST_THINGS" = some (.int 400 tM)) (c_check_many : CalX P w K mg base 1 "check_many" ["number"] (spCM cM)) (mT : mg "TooMany" = some (.ref cT)) (oT : OwnE K cT ds) :
    FnOk P w K mg base (CX1 P w) 2 f fd ["many", "some"] (sBH cM cT) := by
  refine F.okX sc_choices (fun vs H Q E h => ?_) (fun cdv A outer s H vs Q E hr h => ?_)
  · obtain ⟨n, x, rfl, _⟩ := h
    rfl
  obtain ⟨n, x, rfl, hn, hb⟩ := h
  refine ⟨_, pss_consE rfl (ps_expr (pe_cX c_check_many passX hr rfl (pa_cons (pv 0) pa_nil))) (pss_cons (ps_if (pt_cmpR op_gt (pv 0) (pe_glob (v := .int 400) rfl hM ⟨_, rfl⟩) (nomark _))
    (pss_one (ps_raiseX rfl mT oT (pa_cons (pe_fstr (pcs_cons (pc_fmt (pv 0)) (pcs_cons (pc_txt (by decide)) (pcs_cons (pc_fmt (pe_glob (v := .int 400) rfl hM ⟨_, rfl⟩)) pcs_nil))) (by decide)) pa_nil))) pss_nil) pss_never), ?_⟩
  rcases hb with ⟨gN, hE⟩ | ⟨gN, hgt, hE⟩
  · exact ⟨_, rfl, n, rfl, hn, fun g => absurd g gN, fun _ => hE⟩
  · refine ⟨_, rfl, n, rfl, hn, fun _ => ?_, fun g => absurd gN g⟩
    refine ⟨_, rfl, _, _, rfl, rfl, _, rfl, ?_⟩
    refine iteA (decide_eq_true hgt) ?_
    refine ⟨fun c hc => ?_, fun x => ⟨⟨_, rfl⟩, hE⟩⟩
    rcases List.mem_cons.mp hc with rfl | hc
    · exact ⟨_, rfl, rfl, n, rfl, hn⟩
    rcases List.mem_cons.mp hc with rfl | hc
    · trivial
    · rw [List.mem_singleton.mp hc]
      exact ⟨rfl, 400, rfl, fit_small (by decide)⟩
section
variable {cP cM : Addr} (c_figures : CalX P w K mg base 2 "figures" ["number", "prime"] (spOr spFig (sB2 cP cM)))
include c_figures
theorem x_free (F : Fun K "free" "free" s_free f fd) : FnOk P w K mg base (CX1 P w) 3 f fd ["many", "prime"] (sB2 cP cM) := by
  refine F.okX sc_free (fun vs H Q E h => ?_) (fun cdv A outer s H vs Q E hr h => ?_)
  · obtain ⟨n, p, rfl, _⟩ := h
    rfl
  obtain ⟨n, p, rfl, hb⟩ := h
  have nd := sc_free.nd
  refine ⟨_, pss_consE rfl (ps_set (i := 2) nd rfl (Or.inl rfl) pe_int) (pss_cons (ps_for PassesOwn.leaving rfl (pi_list (pe_cX c_figures passX hr rfl (pa_cons (pv 0) (pa_cons (pv 1) pa_nil)))) (pg_name (i := 3) nd rfl (Or.inl rfl)) pss_never) pss_never), ?_⟩
  exact ⟨_, rfl, _, rfl, .inr ⟨n, p, rfl, hb⟩⟩
theorem x_next_free (F : Fun K "next_free" "next_free" s_next_free f fd) : FnOk P w K mg base (CX1 P w) 3 f fd ["many", "place", "prime"] (sB3 cP cM) := by
  refine F.okX sc_next_free (fun vs H Q E h => ?_) (fun cdv A outer s H vs Q E hr h => ?_)
  · obtain ⟨n, x, p, rfl, _⟩ := h
    rfl
  obtain ⟨n, x, p, rfl, hb⟩ := h
  have nd := sc_next_free.nd
  refine ⟨_, pss_consE rfl (ps_set (i := 3) nd rfl (Or.inl rfl) (pe_cX c_figures passX hr rfl (pa_cons (pv 0) (pa_cons (pv 2) pa_nil)))) pss_never, ?_⟩
  exact ⟨_, rfl, _, rfl, .inr ⟨n, p, rfl, hb⟩⟩
theorem x_free_ahead (F : Fun K "free_ahead" "free_ahead" s_free_ahead f fd) : FnOk P w K mg base (CX1 P w) 3 f fd ["many", "place", "prime"] (sB3 cP cM) := by
  refine F.okX sc_free_ahead (fun vs H Q E h => ?_) (fun cdv A outer s H vs Q E hr h => ?_)
  · obtain ⟨n, x, p, rfl, _⟩ := h
    rfl
  obtain ⟨n, x, p, rfl, hb⟩ := h
  have nd := sc_free_ahead.nd
  refine ⟨_, pss_consE rfl (ps_set (i := 3) nd rfl (Or.inl rfl) (pe_cX c_figures passX hr rfl (pa_cons (pv 0) (pa_cons (pv 2) pa_nil)))) pss_never, ?_⟩
  exact ⟨_, rfl, _, rfl, .inr ⟨n, p, rfl, hb⟩⟩
theorem x_free_at (F : Fun K "free_at" "free_at" s_free_at f fd) : FnOk P w K mg base (CX1 P w) 3 f fd ["many", "number", "prime"] (sB3 cP cM) := by
  refine F.okX sc_free_at (fun vs H Q E h => ?_) (fun cdv A outer s H vs Q E hr h => ?_)
  · obtain ⟨n, x, p, rfl, _⟩ := h
    rfl
  obtain ⟨n, x, p, rfl, hb⟩ := h
  have nd := sc_free_at.nd
  refine ⟨_, pss_consE rfl (ps_set (i := 3) nd rfl (Or.inl rfl) (pe_cX c_figures passX hr rfl (pa_cons (pv 0) (pa_cons (pv 2) pa_nil)))) pss_never, ?_⟩
  exact ⟨_, rfl, _, rfl, .inr ⟨n, p, rfl, hb⟩⟩
end
section
variable {cP cM : Addr} (c_free : CalX P w K mg base 3 "free" ["many", "prime"] (spOr spFree (sB2 cP cM)))
include c_free
theorem x_is_bare (F : Fun K "is_bare" "is_bare" s_is_bare f fd) : FnOk P w K mg base (CX1 P w) 4 f fd ["many", "prime"] (sB2 cP cM) := by
  refine F.okX sc_is_bare (fun vs H Q E h => ?_) (fun cdv A outer s H vs Q E hr h => ?_)
  · obtain ⟨n, p, rfl, _⟩ := h
    rfl
  obtain ⟨n, p, rfl, hb⟩ := h
  refine ⟨_, pss_oneE rfl (ps_ret (pe_cmpR op_eq (pe_cX c_free passX hr rfl (pa_cons (pv 0) (pa_cons (pv 1) pa_nil))) (pe_op op_add (pv 0) pe_int) (nomark _))), ?_⟩
  exact ⟨_, rfl, _, rfl, .inr ⟨n, p, rfl, hb⟩⟩
theorem x_is_full (F : Fun K "is_full" "is_full" s_is_full f fd) : FnOk P w K mg base (CX1 P w) 4 f fd ["many", "prime"] (sB2 cP cM) := by
  refine F.okX sc_is_full (fun vs H Q E h => ?_) (fun cdv A outer s H vs Q E hr h => ?_)
  · obtain ⟨n, p, rfl, _⟩ := h
    rfl
  obtain ⟨n, p, rfl, hb⟩ := h
  refine ⟨_, pss_oneE rfl (ps_ret (pe_and (pe_cmpR op_eq (pe_cX c_free passX hr rfl (pa_cons (pv 0) (pa_cons (pv 1) pa_nil))) pe_int (nomark _)) (pe_one (pe_cmpR op_ge (pv 0) pe_int (nomark _))))), ?_⟩
  exact ⟨_, rfl, _, rfl, .inr ⟨n, p, rfl, hb⟩⟩
end
theorem x_free_atL {cL cP cM : Addr} {ds : List Addr} (F : Fun K "free_at" "free_at" s_free_at f fd) (c_figures : CalX P w K mg base 3 "figures" ["number", "prime"] (spOr spFig (sB2 cP cM))) (c_free : CalX P w K mg base 3 "free" ["many", "prime"] (spOr spFree (sB2 cP cM)))
    (mL : mg "NoPlace" = some (.ref cL)) (oL : OwnE K cL ds) : FnOk P w K mg base (CX1 P w) 4 f fd ["many", "number", "prime"] (sBA cL) := by
  refine F.okX sc_free_at (fun vs H Q E h => ?_) (fun cdv A outer s H vs Q E hr h => ?_)
  · obtain ⟨n, x, p, rfl, _⟩ := h
    rfl
  obtain ⟨n, m, p, rfl, hp, hn, hm, hbad, hE⟩ := h
  have nd := sc_free_at.nd
  refine ⟨_, pss_consE rfl (ps_set (i := 3) nd rfl (Or.inl rfl) (pe_cX c_figures passX hr rfl (pa_cons (pv 0) (pa_cons (pv 2) pa_nil))))
    (pss_cons (ps_if (PW.pt (pw_or (pt_cmpR op_lt (pv 1) pe_int (nomark _)) (pw_or1 (pt_cmpR op_ge (pv 1) (pe_cX c_free passX hr rfl (pa_cons (pv 0) (pa_cons (pv 2) pa_nil))) (nomark _)))))
      (pss_one (ps_raiseX rfl mL oL (pa_cons (pe_fstr (pcs_cons (pc_txt (by decide)) (pcs_cons (pc_fmt (pv 0)) (pcs_cons (pc_txt (by decide)) (pcs_cons (pc_fmt (pv 1)) pcs_nil)))) (by decide)) pa_nil))) pss_nil) pss_never), ?_⟩
  have hfn : Fit (n : Int) := fit_small (by
    have : (1000000000000000000000000000000 : Nat) ≤ 2 ^ 400 := by decide +kernel
    omega)
  refine ⟨_, rfl, _, rfl, .inl ⟨n, p, rfl, hp, hn, fun l hl => ?_⟩⟩
  refine ⟨_, rfl, _, _, rfl, rfl, _, rfl, ?_⟩
  refine iteD (fun c => ?_) (fun c => ?_)
  · refine iteT ⟨fun c hc => ?_, fun x => ⟨⟨_, rfl⟩, hE _ (same_new hl _)⟩⟩
    rcases List.mem_cons.mp hc with rfl | hc
    · trivial
    rcases List.mem_cons.mp hc with rfl | hc
    · exact ⟨_, rfl, rfl, _, rfl, hfn⟩
    rcases List.mem_cons.mp hc with rfl | hc
    · trivial
    · rw [List.mem_singleton.mp hc]
      exact ⟨_, rfl, rfl, m, rfl, hm⟩
  have c0 : ¬ m < 0 := of_decide_eq_false c
  refine ⟨_, rfl, _, rfl, _, rfl, .inl ⟨n, p, rfl, hp, hn, fun H2 g2 => ?_⟩⟩
  refine ⟨_, _, rfl, rfl, _, rfl, ?_⟩
  refine iteA (decide_eq_true (by omega)) ?_
  refine ⟨fun c hc => ?_, fun x => ⟨⟨_, rfl⟩, hE _ (same_tr (same_new hl _) g2)⟩⟩
  rcases List.mem_cons.mp hc with rfl | hc
  · trivial
  rcases List.mem_cons.mp hc with rfl | hc
  · exact ⟨_, rfl, rfl, _, rfl, hfn⟩
  rcases List.mem_cons.mp hc with rfl | hc
  · trivial
  · rw [List.mem_singleton.mp hc]
    exact ⟨_, rfl, rfl, m, rfl, hm⟩

theorem sc__law_word_of : FnScope ["e", "kinds"] ["e"] (defScope s__law_word_of) := ⟨rfl, rfl, rfl, by decide +kernel, rfl, by decide +kernel, by decide +kernel⟩
theorem u__law_word_of {cE cP cM cL cT : Addr} (F : Fun K "_law_word_of" "_law_word_of" s__law_word_of f fd) (R : Refs K mg cE cP cM cL cT) (z_isinstance : mg "isinstance" = none) (z_ValueError : mg "ValueError" = none) : FnOkU P w K mg base 1 f fd ["e"] (spWord cP cM cL cT) := by
  refine F.okU sc__law_word_of (fun vs H Q E h => ?_) (fun cdv A outer s H vs Q E hr h => ?_)
  · obtain ⟨a, c, x, rfl, _⟩ := h
    rfl
  obtain ⟨a, c, x, rfl, ha, hW, q⟩ := h
  have nd := sc__law_word_of.nd
  refine ⟨_, pss_consE rfl (ps_set (i := 1) nd rfl (Or.inl rfl) (pe_lst
      (pa_cons (pe_callB call_isinstX rfl z_isinstance PyProof.Rows.boot_isinstance (pa_cons (pv 0) (pa_cons (pe_glob (v := .ref cP) rfl R.mP rfl) pa_nil)))
      (pa_cons (pe_callB call_isinstX rfl z_isinstance PyProof.Rows.boot_isinstance (pa_cons (pv 0) (pa_cons (pe_glob (v := .ref cM) rfl R.mM rfl) pa_nil)))
      (pa_cons (pe_callB call_isinstX rfl z_isinstance PyProof.Rows.boot_isinstance (pa_cons (pv 0) (pa_cons (pe_glob (v := .ref cL) rfl R.mL rfl) pa_nil)))
      (pa_cons (pe_callB call_isinstX rfl z_isinstance PyProof.Rows.boot_isinstance (pa_cons (pv 0) (pa_cons (pe_glob (v := .ref cT) rfl R.mT rfl) pa_nil))) pa_nil))))))
    (pss_cons (ps_if (PW.pt (pw_or (pt_cmpR op_ne (pe_bm PySem.F.plainAttrs_list PySem.F.slot_list_count PySem.F.type_list_count mt_countB (pv 1) (pa_cons pe_bl pa_nil)) pe_int (nomark _))
        (pw_or1 (pt_not (pt_val (pe_callB call_isinstX rfl z_isinstance PyProof.Rows.boot_isinstance (pa_cons (pv 0) (pa_cons (pe_bltn (v := .ty "ValueError") rfl z_ValueError (u := .type "ValueError") (by decide +kernel) rfl) pa_nil)))))))) pss_never pss_nil)
    (pss_one (ps_ret (pe_ix ix_list (pe_lst (pa_cons pe_str (pa_cons pe_str (pa_cons pe_str (pa_cons pe_str pa_nil))))) (pe_bm PySem.F.plainAttrs_list PySem.F.slot_list_index PySem.F.type_list_index mt_indexB (pv 1) (pa_cons pe_bl pa_nil)) (fun _ _ => rfl))))), ?_⟩
  have hc : c ∈ [cP, cM, cL, cT] := by
    rcases hW with ⟨rfl, _⟩ | ⟨rfl, _⟩ | ⟨rfl, _⟩ | ⟨rfl, _⟩ <;> simp
  obtain ⟨b1, b2, b3, b4, j, e1, e2, e3, e4, hcnt, hj, hno, hw⟩ : ∃ (b1 b2 b3 b4 : Bool) (j : Nat), decide (c = cP) = b1 ∧ decide (c = cM) = b2 ∧ decide (c = cL) = b3 ∧ decide (c = cT) = b4 ∧ [b1, b2, b3, b4].count true = 1 ∧ [b1, b2, b3, b4][j]? = some true ∧ (∀ m, m < j → [b1, b2, b3, b4][m]? ≠ some true) ∧
      [V.str wP, V.str wM, V.str wL, V.str wT][j]? = some (V.str x) := by
    have nd4 := R.nd
    simp only [List.nodup_cons, List.mem_cons, List.not_mem_nil, or_false, not_or] at nd4
    obtain ⟨⟨n1, n2, n3⟩, ⟨n4, n5⟩, n6, _⟩ := nd4
    rcases hW with ⟨rfl, rfl⟩ | ⟨rfl, rfl⟩ | ⟨rfl, rfl⟩ | ⟨rfl, rfl⟩
    · exact ⟨true, false, false, false, 0, decide_eq_true rfl, decide_eq_false n1, decide_eq_false n2, decide_eq_false n3, rfl, rfl, fun m hm => by omega, rfl⟩
    · exact ⟨false, true, false, false, 1, decide_eq_false (Ne.symm n1), decide_eq_true rfl, decide_eq_false n4, decide_eq_false n5, rfl, rfl, fun m hm => by obtain rfl : m = 0 := (by omega); simp, rfl⟩
    · exact ⟨false, false, true, false, 2, decide_eq_false (Ne.symm n2), decide_eq_false (Ne.symm n4), decide_eq_true rfl, decide_eq_false n6, rfl, rfl, fun m hm => by rcases (show m = 0 ∨ m = 1 by omega) with rfl | rfl <;> simp, rfl⟩
    · exact ⟨false, false, false, true, 3, decide_eq_false (Ne.symm n3), decide_eq_false (Ne.symm n5), decide_eq_false (Ne.symm n6), decide_eq_true rfl, rfl, rfl, fun m hm => by rcases (show m = 0 ∨ m = 1 ∨ m = 2 by omega) with rfl | rfl | rfl <;> simp, rfl⟩
  have kP := R.kit c hc cP (by simp)
  have kM := R.kit c hc cM (by simp)
  have kL := R.kit c hc cL (by simp)
  have kT := R.kit c hc cT (by simp)
  rw [e1] at kP
  rw [e2] at kM
  rw [e3] at kL
  rw [e4] at kT
  have X := R.x c hc
  refine ⟨_, rfl, a, c, .ref cP, .ref cP, b1, rfl, ha, X, fun u r => r, kP, ?_⟩
  refine ⟨_, rfl, a, c, .ref cM, .ref cM, b2, rfl, ha, X, fun u r => r, kM, ?_⟩
  refine ⟨_, rfl, a, c, .ref cL, .ref cL, b3, rfl, ha, X, fun u r => r, kL, ?_⟩
  refine ⟨_, rfl, a, c, .ref cT, .ref cT, b4, rfl, ha, X, fun u r => r, kT, ?_⟩
  refine ⟨small (by show 4 ≤ 1000; decide), fun l hl => ?_⟩
  have ha' := same_upd (o := .lst [V.bl b1, V.bl b2, V.bl b3, V.bl b4]) hl ha
  refine ⟨_, rfl, .inl ⟨rfl, _, SqL.of upd_same⟩, l, [b1, b2, b3, b4], true, rfl, rfl, upd_same, rfl, _, rfl, ?_⟩
  refine iteB (neq_f (by rw [hcnt]; rfl)) ?_
  refine ⟨_, rfl, a, c, .ty "ValueError", .type "ValueError", true, rfl, ha', X, fun u r => r, R.kv c hc, _, rfl, ?_⟩
  refine iteB rfl ?_
  refine ⟨small (by show 4 ≤ 1000; decide), fun l2 hl2 => ?_⟩
  refine ⟨_, rfl, .inl ⟨rfl, _, SqL.of (same_upd hl2 upd_same)⟩, l, [b1, b2, b3, b4], true, j, rfl, rfl, same_upd hl2 upd_same, (by show 4 ≤ 1000; decide), hj, hno, ?_⟩
  exact ⟨l2, _, _, _, rfl, rfl, SqL.of upd_same, atI_nat hw, q _ (same_tr (same_new hl _) (same_new hl2 _))⟩

def Gd (n p : Int) : Prop := GoodP p ∧ GoodN n
instance (n p : Int) : Decidable (Gd n p) := inferInstanceAs (Decidable (_ ∧ _))
/-- a refusal with the prime's class, or with the number's, at any later heap -/
def BadL (cP cM : Addr) (n p : Int) (H : Hp) (E : XK) : Prop := ∀ H', Same H H' → (¬ GoodP p → E (.ref cP) none H') ∧ (GoodP p → ¬ GoodN n → E (.ref cM) none H')
theorem BadL.e {cP cM : Addr} {n p : Int} {H H' : Hp} {E : XK} (b : BadL cP cM n p H E) (hS : Same H H') (fp : Fit p) (fn : Fit n) (g : ¬ Gd n p) : BadE cP cM p n H' E := by
  refine ⟨fp, fn, ?_⟩
  by_cases gp : GoodP p
  · exact .inr ⟨gp, fun gn => g ⟨gp, gn⟩, (b H' hS).2 gp fun gn => g ⟨gp, gn⟩⟩
  · exact .inl ⟨gp, (b H' hS).1 gp⟩
def spFst (cP cM : Addr) : Sp := fun vs H Q E => ∃ (k : Nat) (n p : Int), vs = [.int k, .int n, .int p] ∧ Fit n ∧ Fit p ∧ (Gd n p ∨ 7 ≤ k → ∀ H', Same H H' → Q .non H') ∧ (k ≤ 6 → BadL cP cM n p H E)
def BadM (n p m : Int) : Prop := m < 0 ∨ ((tot p.toNat n.toNat : Nat) : Int) ≤ m
def spSnd (cP cM cL : Addr) : Sp := fun vs H Q E => ∃ (k : Nat) (n p m : Int), vs = [.int k, .int n, .int p, .int m] ∧ k ≤ 12 ∧ Fit n ∧ Fit p ∧ Fit m ∧ ((Gd n p ∧ ¬ (k = 12 ∧ BadM n p m)) ∨ k ≤ 6 → ∀ H', Same H H' → Q .non H') ∧ (7 ≤ k → BadL cP cM n p H E) ∧
  (Gd n p → k = 12 → BadM n p m → ∀ H', Same H H' → E (.ref cL) none H')
theorem fit5 : Fit 5 := fit_small (by decide)
theorem good5 : GoodN 5 := ⟨by decide, by decide⟩
theorem eqk {k i : Nat} (c : decide (V.int (k : Int) = V.int (i : Int)) = true) : k = i := by
  have c' := of_decide_eq_true c
  injection c' with c'
  omega
theorem nek {k i : Nat} (c : decide (V.int (k : Int) = V.int (i : Int)) = false) : k ≠ i := fun z => (of_decide_eq_false c) (by rw [z])
theorem sc__law_first : FnScope ["which", "many", "prime"] ["which", "many", "prime"] (defScope s__law_first) := ⟨rfl, rfl, rfl, by decide +kernel, rfl, by decide +kernel, by decide +kernel⟩
theorem x__law_first {cP cM : Addr} (F : Fun K "_law_first" "_law_first" s__law_first f fd) (c_figures : CalX P w K mg base 4 "figures" ["number", "prime"] (spOr spFig (sB2 cP cM))) (c_carries : CalX P w K mg base 4 "carries" ["one", "other", "prime"] (spOr spCar (sBC cP cM))) (c_order_power : CalX P w K mg base 4 "order_power" ["number", "prime"] (spOr spOrd (sB2 cP cM))) (c_rest : CalX P w K mg base 4 "rest" ["many", "some", "prime"] (spOr spRest (sB3 cP cM))) (c_power : CalX P w K mg base 4 "power" ["many", "some", "prime"] (spOr spPow (sB3 cP cM))) (c_last : CalX P w K mg base 4 "last" ["many", "some", "prime"] (spOr spLast (sB3 cP cM))) : FnOk P w K mg base (CX1 P w) 5 f fd ["which", "many", "prime"] (spFst cP cM) := by
  refine F.okX sc__law_first (fun vs H Q E h => ?_) (fun cdv A outer s H vs Q E hr h => ?_)
  · obtain ⟨k, n, p, rfl, _⟩ := h
    rfl
  obtain ⟨k, n, p, rfl, fn, fp, q, hE⟩ := h
  refine ⟨_, pss_consE rfl (ps_join (ps_if (pt_cmpR op_eq (pv 0) pe_int (nomark _)) (pss_one (ps_expr (pe_cX c_figures passX hr rfl (pa_cons (pv 1) (pa_cons (pv 2) pa_nil))))) pss_nil))
    (pss_cons (ps_join (ps_if (pt_cmpR op_eq (pv 0) pe_int (nomark _)) (pss_one (ps_expr (pe_cX c_carries passX hr rfl (pa_cons (pv 1) (pa_cons pe_int (pa_cons (pv 2) pa_nil)))))) pss_nil))
    (pss_cons (ps_join (ps_if (pt_cmpR op_eq (pv 0) pe_int (nomark _)) (pss_one (ps_expr (pe_cX c_carries passX hr rfl (pa_cons pe_int (pa_cons (pv 1) (pa_cons (pv 2) pa_nil)))))) pss_nil))
    (pss_cons (ps_join (ps_if (pt_cmpR op_eq (pv 0) pe_int (nomark _)) (pss_one (ps_expr (pe_cX c_order_power passX hr rfl (pa_cons (pv 1) (pa_cons (pv 2) pa_nil))))) pss_nil))
    (pss_cons (ps_join (ps_if (pt_cmpR op_eq (pv 0) pe_int (nomark _)) (pss_one (ps_expr (pe_cX c_rest passX hr rfl (pa_cons (pv 1) (pa_cons pe_int (pa_cons (pv 2) pa_nil)))))) pss_nil))
    (pss_cons (ps_join (ps_if (pt_cmpR op_eq (pv 0) pe_int (nomark _)) (pss_one (ps_expr (pe_cX c_power passX hr rfl (pa_cons (pv 1) (pa_cons (pe_un un_neg pe_int) (pa_cons (pv 2) pa_nil)))))) pss_nil))
    (pss_one (ps_join (ps_if (pt_cmpR op_eq (pv 0) pe_int (nomark _)) (pss_one (ps_expr (pe_cX c_last passX hr rfl (pa_cons (pv 1) (pa_cons pe_int (pa_cons (pv 2) pa_nil)))))) pss_nil)))))))), ?_⟩
  refine ⟨fun σ' H' => σ' = [some (.int (k : Int)), some (.int n), some (.int p)] ∧ Same H H' ∧ (Gd n p ∨ 0 < k), ?_, ?_⟩
  · refine ⟨_, rfl, rfl, _, rfl, ?_⟩
    refine iteD (fun c => ?_) (fun c => ?_)
    · have hk := eqk (i := 0) c
      by_cases g : Gd n p
      · obtain ⟨n1, rfl, hn⟩ := goodN_nat g.2
        obtain ⟨p1, rfl, hp⟩ := g.1
        exact ⟨_, rfl, _, rfl, .inl ⟨n1, p1, rfl, hp, hn, fun l hl => ⟨rfl, same_tr same_refl (same_new hl _), .inl g⟩⟩⟩
      · have be := (hE (by omega)).e same_refl fp fn g
        exact ⟨_, rfl, _, rfl, .inr ⟨n, p, rfl, be⟩⟩
    · have hk := nek (i := 0) c
      exact ⟨rfl, same_refl, by by_cases g : Gd n p; exact .inl g; exact .inr (by omega)⟩
  rintro σ1 H1 ⟨rfl, g1, a1⟩
  refine ⟨fun σ' H' => σ' = [some (.int (k : Int)), some (.int n), some (.int p)] ∧ Same H H' ∧ (Gd n p ∨ 1 < k), ?_, ?_⟩
  · refine ⟨_, rfl, rfl, _, rfl, ?_⟩
    refine iteD (fun c => ?_) (fun c => ?_)
    · have hk := eqk (i := 1) c
      by_cases g : Gd n p
      · obtain ⟨n1, rfl, hn⟩ := goodN_nat g.2
        obtain ⟨p1, rfl, hp⟩ := g.1
        exact ⟨_, rfl, _, rfl, .inl ⟨n1, 5, p1, rfl, hp, hn, by decide, ⟨rfl, g1, .inl g⟩⟩⟩
      · have be := (hE (by omega)).e g1 fp fn g
        obtain ⟨_, _, be⟩ := be
        exact ⟨_, rfl, _, rfl, .inr ⟨n, 5, p, rfl, fp, fn, fit5, be.imp id fun ⟨x1, x2, x3⟩ => ⟨x1, fun z => x2 z.1, x3⟩⟩⟩
    · have hk := nek (i := 1) c
      exact ⟨rfl, g1, a1.imp id fun z => by omega⟩
  rintro σ2 H2 ⟨rfl, g2, a2⟩
  refine ⟨fun σ' H' => σ' = [some (.int (k : Int)), some (.int n), some (.int p)] ∧ Same H H' ∧ (Gd n p ∨ 2 < k), ?_, ?_⟩
  · refine ⟨_, rfl, rfl, _, rfl, ?_⟩
    refine iteD (fun c => ?_) (fun c => ?_)
    · have hk := eqk (i := 2) c
      by_cases g : Gd n p
      · obtain ⟨n1, rfl, hn⟩ := goodN_nat g.2
        obtain ⟨p1, rfl, hp⟩ := g.1
        exact ⟨_, rfl, _, rfl, .inl ⟨5, n1, p1, rfl, hp, by decide, hn, ⟨rfl, g2, .inl g⟩⟩⟩
      · have be := (hE (by omega)).e g2 fp fn g
        obtain ⟨_, _, be⟩ := be
        exact ⟨_, rfl, _, rfl, .inr ⟨5, n, p, rfl, fp, fit5, fn, be.imp id fun ⟨x1, x2, x3⟩ => ⟨x1, fun z => x2 z.2, x3⟩⟩⟩
    · have hk := nek (i := 2) c
      exact ⟨rfl, g2, a2.imp id fun z => by omega⟩
  rintro σ3 H3 ⟨rfl, g3, a3⟩
  refine ⟨fun σ' H' => σ' = [some (.int (k : Int)), some (.int n), some (.int p)] ∧ Same H H' ∧ (Gd n p ∨ 3 < k), ?_, ?_⟩
  · refine ⟨_, rfl, rfl, _, rfl, ?_⟩
    refine iteD (fun c => ?_) (fun c => ?_)
    · have hk := eqk (i := 3) c
      by_cases g : Gd n p
      · obtain ⟨n1, rfl, hn⟩ := goodN_nat g.2
        obtain ⟨p1, rfl, hp⟩ := g.1
        exact ⟨_, rfl, _, rfl, .inl ⟨n1, p1, rfl, hp, hn, ⟨rfl, g3, .inl g⟩⟩⟩
      · have be := (hE (by omega)).e g3 fp fn g
        exact ⟨_, rfl, _, rfl, .inr ⟨n, p, rfl, be⟩⟩
    · have hk := nek (i := 3) c
      exact ⟨rfl, g3, a3.imp id fun z => by omega⟩
  rintro σ4 H4 ⟨rfl, g4, a4⟩
  refine ⟨fun σ' H' => σ' = [some (.int (k : Int)), some (.int n), some (.int p)] ∧ Same H H' ∧ (Gd n p ∨ 4 < k), ?_, ?_⟩
  · refine ⟨_, rfl, rfl, _, rfl, ?_⟩
    refine iteD (fun c => ?_) (fun c => ?_)
    · have hk := eqk (i := 4) c
      by_cases g : Gd n p
      · obtain ⟨n1, rfl, hn⟩ := goodN_nat g.2
        obtain ⟨p1, rfl, hp⟩ := g.1
        exact ⟨_, rfl, _, rfl, .inl ⟨n1, 3, p1, rfl, hp, hn, ⟨rfl, g4, .inl g⟩⟩⟩
      · have be := (hE (by omega)).e g4 fp fn g
        exact ⟨_, rfl, _, rfl, .inr ⟨n, 3, p, rfl, be⟩⟩
    · have hk := nek (i := 4) c
      exact ⟨rfl, g4, a4.imp id fun z => by omega⟩
  rintro σ5 H5 ⟨rfl, g5, a5⟩
  refine ⟨fun σ' H' => σ' = [some (.int (k : Int)), some (.int n), some (.int p)] ∧ Same H H' ∧ (Gd n p ∨ 5 < k), ?_, ?_⟩
  · refine ⟨_, rfl, rfl, _, rfl, ?_⟩
    refine iteD (fun c => ?_) (fun c => ?_)
    · have hk := eqk (i := 5) c
      by_cases g : Gd n p
      · obtain ⟨n1, rfl, hn⟩ := goodN_nat g.2
        obtain ⟨p1, rfl, hp⟩ := g.1
        exact ⟨_, rfl, _, rfl, _, rfl, .inl ⟨n1, -1, p1, rfl, hp, hn, ⟨rfl, g5, .inl g⟩⟩⟩
      · have be := (hE (by omega)).e g5 fp fn g
        exact ⟨_, rfl, _, rfl, _, rfl, .inr ⟨n, -1, p, rfl, be⟩⟩
    · have hk := nek (i := 5) c
      exact ⟨rfl, g5, a5.imp id fun z => by omega⟩
  rintro σ6 H6 ⟨rfl, g6, a6⟩
  refine ⟨fun σ' H' => σ' = [some (.int (k : Int)), some (.int n), some (.int p)] ∧ Same H H' ∧ (Gd n p ∨ 6 < k), ?_, ?_⟩
  · refine ⟨_, rfl, rfl, _, rfl, ?_⟩
    refine iteD (fun c => ?_) (fun c => ?_)
    · have hk := eqk (i := 6) c
      by_cases g : Gd n p
      · obtain ⟨n1, rfl, hn⟩ := goodN_nat g.2
        obtain ⟨p1, rfl, hp⟩ := g.1
        exact ⟨_, rfl, _, rfl, .inl ⟨n1, 3, p1, rfl, hp, hn, fun H9 g9 => ⟨rfl, same_tr g6 g9, .inl g⟩⟩⟩
      · have be := (hE (by omega)).e g6 fp fn g
        exact ⟨_, rfl, _, rfl, .inr ⟨n, 3, p, rfl, be⟩⟩
    · have hk := nek (i := 6) c
      exact ⟨rfl, g6, a6.imp id fun z => by omega⟩
  rintro σ7 H7 ⟨rfl, g7, a7⟩
  exact q (a7.imp id fun z => by omega) H7 g7
theorem sc__law_second : FnScope ["which", "many", "prime", "number"] ["which", "many", "prime", "number"] (defScope s__law_second) := ⟨rfl, rfl, rfl, by decide +kernel, rfl, by decide +kernel, by decide +kernel⟩
theorem cp31 : CPow 10 31 := ⟨by decide, by decide, by decide⟩
theorem x__law_second {cP cM cL : Addr} (F : Fun K "_law_second" "_law_second" s__law_second f fd) (c_free : CalX P w K mg base 4 "free" ["many", "prime"] (spOr spFree (sB2 cP cM))) (c_next_free : CalX P w K mg base 4 "next_free" ["many", "place", "prime"] (spOr spNext (sB3 cP cM))) (c_free_ahead : CalX P w K mg base 4 "free_ahead" ["many", "place", "prime"] (spOr spAhead (sB3 cP cM))) (c_is_bare : CalX P w K mg base 4 "is_bare" ["many", "prime"] (spOr spBare (sB2 cP cM))) (c_is_full : CalX P w K mg base 4 "is_full" ["many", "prime"] (spOr spFull (sB2 cP cM))) (c_free_at : CalX P w K mg base 4 "free_at" ["many", "number", "prime"] (spOr spAt (spOr (sB3 cP cM) (sBA cL)))) : FnOk P w K mg base (CX1 P w) 5 f fd ["which", "many", "prime", "number"] (spSnd cP cM cL) := by
  refine F.okX sc__law_second (fun vs H Q E h => ?_) (fun cdv A outer s H vs Q E hr h => ?_)
  · obtain ⟨k, n, p, m, rfl, _⟩ := h
    rfl
  obtain ⟨k, n, p, m, rfl, hk12, fn, fp, fm, q, hE, hL⟩ := h
  refine ⟨_, pss_consE rfl (ps_join (ps_if (pt_cmpR op_eq (pv 0) pe_int (nomark _)) (pss_one (ps_expr (pe_cX c_free passX hr rfl (pa_cons (pv 1) (pa_cons (pv 2) pa_nil))))) pss_nil))
    (pss_cons (ps_join (ps_if (pt_cmpR op_eq (pv 0) pe_int (nomark _)) (pss_one (ps_expr (pe_cX c_next_free passX hr rfl (pa_cons (pv 1) (pa_cons (pe_un un_neg pe_int) (pa_cons (pv 2) pa_nil)))))) pss_nil))
    (pss_cons (ps_join (ps_if (pt_cmpR op_eq (pv 0) pe_int (nomark _)) (pss_one (ps_expr (pe_cX c_free_ahead passX hr rfl (pa_cons (pv 1) (pa_cons (pe_op op_pow pe_int pe_int) (pa_cons (pv 2) pa_nil)))))) pss_nil))
    (pss_cons (ps_join (ps_if (pt_cmpR op_eq (pv 0) pe_int (nomark _)) (pss_one (ps_expr (pe_cX c_is_bare passX hr rfl (pa_cons (pv 1) (pa_cons (pv 2) pa_nil))))) pss_nil))
    (pss_cons (ps_join (ps_if (pt_cmpR op_eq (pv 0) pe_int (nomark _)) (pss_one (ps_expr (pe_cX c_is_full passX hr rfl (pa_cons (pv 1) (pa_cons (pv 2) pa_nil))))) pss_nil))
    (pss_one (ps_join (ps_if (pt_cmpR op_eq (pv 0) pe_int (nomark _)) (pss_one (ps_expr (pe_cX c_free_at passX hr rfl (pa_cons (pv 1) (pa_cons (pv 3) (pa_cons (pv 2) pa_nil)))))) pss_nil))))))), ?_⟩
  refine ⟨fun σ' H' => σ' = [some (.int (k : Int)), some (.int n), some (.int p), some (.int m)] ∧ Same H H' ∧ (Gd n p ∨ k ≤ 6 ∨ 7 < k), ?_, ?_⟩
  · refine ⟨_, rfl, rfl, _, rfl, ?_⟩
    refine iteD (fun c => ?_) (fun c => ?_)
    · have hk := eqk (i := 7) c
      by_cases g : Gd n p
      · obtain ⟨n1, rfl, hn⟩ := goodN_nat g.2
        obtain ⟨p1, rfl, hp⟩ := g.1
        exact ⟨_, rfl, _, rfl, .inl ⟨n1, p1, rfl, hp, hn, fun H9 g9 => ⟨rfl, same_tr same_refl g9, .inl g⟩⟩⟩
      · have be := (hE (by omega)).e same_refl fp fn g
        exact ⟨_, rfl, _, rfl, .inr ⟨n, p, rfl, be⟩⟩
    · have hk := nek (i := 7) c
      exact ⟨rfl, same_refl, by by_cases g : Gd n p; exact .inl g; exact .inr (by omega)⟩
  rintro σ1 H1 ⟨rfl, g1, a1⟩
  refine ⟨fun σ' H' => σ' = [some (.int (k : Int)), some (.int n), some (.int p), some (.int m)] ∧ Same H H' ∧ (Gd n p ∨ k ≤ 6 ∨ 8 < k), ?_, ?_⟩
  · refine ⟨_, rfl, rfl, _, rfl, ?_⟩
    refine iteD (fun c => ?_) (fun c => ?_)
    · have hk := eqk (i := 8) c
      by_cases g : Gd n p
      · obtain ⟨n1, rfl, hn⟩ := goodN_nat g.2
        obtain ⟨p1, rfl, hp⟩ := g.1
        exact ⟨_, rfl, _, rfl, _, rfl, .inl ⟨n1, -4, p1, rfl, hp, hn, fun H9 g9 => ⟨fun _ => ⟨rfl, same_tr g1 g9, .inl g⟩, fun _ j _ _ _ _ => ⟨rfl, same_tr g1 g9, .inl g⟩⟩⟩⟩
      · have be := (hE (by omega)).e g1 fp fn g
        exact ⟨_, rfl, _, rfl, _, rfl, .inr ⟨n, -4, p, rfl, be⟩⟩
    · have hk := nek (i := 8) c
      exact ⟨rfl, g1, a1.imp id fun z => by omega⟩
  rintro σ2 H2 ⟨rfl, g2, a2⟩
  refine ⟨fun σ' H' => σ' = [some (.int (k : Int)), some (.int n), some (.int p), some (.int m)] ∧ Same H H' ∧ (Gd n p ∨ k ≤ 6 ∨ 9 < k), ?_, ?_⟩
  · refine ⟨_, rfl, rfl, _, rfl, ?_⟩
    refine iteD (fun c => ?_) (fun c => ?_)
    · have hk := eqk (i := 9) c
      by_cases g : Gd n p
      · obtain ⟨n1, rfl, hn⟩ := goodN_nat g.2
        obtain ⟨p1, rfl, hp⟩ := g.1
        exact ⟨_, rfl, _, _, rfl, rfl, cp31, _, rfl, .inl ⟨n1, 10 ^ (31 : Int).toNat, p1, rfl, hp, hn, fun H9 g9 => ⟨rfl, same_tr g2 g9, .inl g⟩⟩⟩
      · have be := (hE (by omega)).e g2 fp fn g
        exact ⟨_, rfl, _, _, rfl, rfl, cp31, _, rfl, .inr ⟨n, 10 ^ (31 : Int).toNat, p, rfl, be⟩⟩
    · have hk := nek (i := 9) c
      exact ⟨rfl, g2, a2.imp id fun z => by omega⟩
  rintro σ3 H3 ⟨rfl, g3, a3⟩
  refine ⟨fun σ' H' => σ' = [some (.int (k : Int)), some (.int n), some (.int p), some (.int m)] ∧ Same H H' ∧ (Gd n p ∨ k ≤ 6 ∨ 10 < k), ?_, ?_⟩
  · refine ⟨_, rfl, rfl, _, rfl, ?_⟩
    refine iteD (fun c => ?_) (fun c => ?_)
    · have hk := eqk (i := 10) c
      by_cases g : Gd n p
      · obtain ⟨n1, rfl, hn⟩ := goodN_nat g.2
        obtain ⟨p1, rfl, hp⟩ := g.1
        exact ⟨_, rfl, _, rfl, .inl ⟨n1, p1, rfl, hp, hn, fun H9 g9 => ⟨rfl, same_tr g3 g9, .inl g⟩⟩⟩
      · have be := (hE (by omega)).e g3 fp fn g
        exact ⟨_, rfl, _, rfl, .inr ⟨n, p, rfl, be⟩⟩
    · have hk := nek (i := 10) c
      exact ⟨rfl, g3, a3.imp id fun z => by omega⟩
  rintro σ4 H4 ⟨rfl, g4, a4⟩
  refine ⟨fun σ' H' => σ' = [some (.int (k : Int)), some (.int n), some (.int p), some (.int m)] ∧ Same H H' ∧ (Gd n p ∨ k ≤ 6 ∨ 11 < k), ?_, ?_⟩
  · refine ⟨_, rfl, rfl, _, rfl, ?_⟩
    refine iteD (fun c => ?_) (fun c => ?_)
    · have hk := eqk (i := 11) c
      by_cases g : Gd n p
      · obtain ⟨n1, rfl, hn⟩ := goodN_nat g.2
        obtain ⟨p1, rfl, hp⟩ := g.1
        exact ⟨_, rfl, _, rfl, .inl ⟨n1, p1, rfl, hp, hn, fun H9 g9 => ⟨rfl, same_tr g4 g9, .inl g⟩⟩⟩
      · have be := (hE (by omega)).e g4 fp fn g
        exact ⟨_, rfl, _, rfl, .inr ⟨n, p, rfl, be⟩⟩
    · have hk := nek (i := 11) c
      exact ⟨rfl, g4, a4.imp id fun z => by omega⟩
  rintro σ5 H5 ⟨rfl, g5, a5⟩
  refine ⟨fun σ' H' => σ' = [some (.int (k : Int)), some (.int n), some (.int p), some (.int m)] ∧ Same H H' ∧ ((Gd n p ∧ ¬ (k = 12 ∧ BadM n p m)) ∨ k ≤ 6), ?_, ?_⟩
  · refine ⟨_, rfl, rfl, _, rfl, ?_⟩
    refine iteD (fun c => ?_) (fun c => ?_)
    · have hk := eqk (i := 12) c
      by_cases g : Gd n p
      · by_cases bm : BadM n p m
        · obtain ⟨n1, rfl, hn⟩ := goodN_nat g.2
          obtain ⟨p1, rfl, hp⟩ := g.1
          exact ⟨_, rfl, _, rfl, _, rfl, .inr (.inr ⟨n1, m, p1, rfl, hp, hn, fm, bm, fun H9 g9 => hL g hk bm H9 (same_tr g5 g9)⟩)⟩
        · have nb : ¬ (k = 12 ∧ BadM n p m) := fun z => bm z.2
          have hm0 : 0 ≤ m := Int.not_lt.mp fun z => bm (.inl z)
          obtain ⟨n1, rfl, hn⟩ := goodN_nat g.2
          obtain ⟨p1, rfl, hp⟩ := g.1
          obtain ⟨m1, rfl⟩ := Int.eq_ofNat_of_zero_le hm0
          have hm1 : m1 < tot p1 n1 := by
            have z : ¬ ((tot ((p1 : Int)).toNat ((n1 : Int)).toNat : Nat) : Int) ≤ (m1 : Int) := fun z => bm (.inr z)
            rw [Int.toNat_natCast, Int.toNat_natCast] at z
            omega
          exact ⟨_, rfl, _, rfl, _, rfl, .inl ⟨n1, m1, p1, rfl, hp, hn, hm1, fun H9 j g9 _ _ => ⟨rfl, same_tr g5 g9, .inl ⟨g, nb⟩⟩⟩⟩
      · have be := (hE (by omega)).e g5 fp fn g
        exact ⟨_, rfl, _, rfl, _, rfl, .inr (.inl ⟨n, m, p, rfl, be⟩)⟩
    · have hk := nek (i := 12) c
      refine ⟨rfl, g5, ?_⟩
      rcases a5 with z | z
      · exact .inl ⟨z, fun y => hk y.1⟩
      · exact .inr (by omega)
  rintro σ6 H6 ⟨rfl, g6, a6⟩
  exact q a6 H6 g6

/-- what is asked of a call that is tried: the word of its refusal, or that it is done -/
def spTry (cP cM cL : Addr) : Sp := fun vs H Q _ => ∃ (k : Nat) (n p m : Int) (x : Str), vs = [.int k, .int n, .int p, .int m] ∧ k ≤ 12 ∧ Fit n ∧ Fit p ∧ Fit m ∧ (¬ GoodP p → x = wP) ∧ (GoodP p → ¬ GoodN n → x = wM) ∧ (Gd n p → k = 12 → BadM n p m → x = wL) ∧ (Gd n p → ¬ (k = 12 ∧ BadM n p m) → x = wD) ∧
  ∀ H', Same H H' → Q (.str x) H'
def spChg : Sp := fun vs H Q _ => ∃ (n y : Int) (x : Str), vs = [.int n, .int y] ∧ Fit n ∧ (¬ GoodN n → x = wM) ∧ (GoodN n → 400 < n → x = wT) ∧ (0 ≤ n → n ≤ 400 → x = wD) ∧ ∀ H', Same H H' → Q (.str x) H'
theorem sc__law_tried : FnScope ["which", "many", "prime", "number", "e"] ["which", "many", "prime", "number"] (defScope s__law_tried) := ⟨rfl, rfl, rfl, by decide +kernel, rfl, by decide +kernel, by decide +kernel⟩
theorem ok__law_tried {cE cP cM cL cT : Addr} (F : Fun K "_law_tried" "_law_tried" s__law_tried f fd) (R : Refs K mg cE cP cM cL cT) (c_first : CalX P w K mg base 5 "_law_first" ["which", "many", "prime"] (spFst cP cM)) (c_second : CalX P w K mg base 5 "_law_second" ["which", "many", "prime", "number"] (spSnd cP cM cL))
    (c_word : CalU P w K mg base 5 "_law_word_of" ["e"] (spWord cP cM cL cT)) : FnOk P w K mg base CX0 6 f fd ["which", "many", "prime", "number"] (spTry cP cM cL) := by
  refine F.ok sc__law_tried (fun vs H Q E h => ?_) (fun cdv A outer s H vs Q E hr h => ?_)
  · obtain ⟨k, n, p, m, x, rfl, _⟩ := h
    rfl
  obtain ⟨k, n, p, m, x, rfl, hk, fn, fp, fm, x1, x2, x3, x4, q⟩ := h
  have nd := sc__law_tried.nd
  refine ⟨_, pss_consE rfl (ps_tryX (i := 4) rfl rfl (fun pinsO Ec => pss_cons (ps_expr (pe_cX c_first passT hr rfl (pa_cons (pv 0) (pa_cons (pv 1) (pa_cons (pv 2) pa_nil))))) (pss_one (ps_expr (pe_cX c_second passT hr rfl (pa_cons (pv 0) (pa_cons (pv 1) (pa_cons (pv 2) (pa_cons (pv 3) pa_nil))))))))
      (fun a => pss_one (ps_ret (pe_cU c_word ⟨hr.dp, hr.un⟩ rfl (pa_cons (pv 4) pa_nil)))) nd rfl rfl rfl R.mE R.oE)
    (pss_one (ps_ret pe_str)), ?_⟩
  refine ⟨fun cls _ H' => Same H H' ∧ ∃ c, cls = .ref c ∧ WordOf cP cM cL cT c x, ?_, ?_⟩
  · have bad : ∀ H1, Same H H1 → BadL cP cM n p H1 (fun cls _ H' => Same H H' ∧ ∃ c, cls = .ref c ∧ WordOf cP cM cL cT c x) := fun H1 s1 H2 s2 =>
      ⟨fun g => ⟨same_tr s1 s2, cP, rfl, .inl ⟨rfl, x1 g⟩⟩, fun g1 g2 => ⟨same_tr s1 s2, cM, rfl, .inr (.inl ⟨rfl, x2 g1 g2⟩)⟩⟩
    refine ⟨_, rfl, _, rfl, _, rfl, k, n, p, rfl, fn, fp, fun g H1 s1 => ?_, fun _ => bad H same_refl⟩
    refine ⟨_, rfl, _, rfl, _, rfl, _, rfl, k, n, p, m, rfl, hk, fn, fp, fm, fun g' H2 s2 => ?_, fun _ => bad H1 s1, fun g1 g2 g3 H2 s2 => ⟨same_tr s1 s2, cL, rfl, .inr (.inr (.inl ⟨rfl, x3 g1 g2 g3⟩))⟩⟩
    have gd : Gd n p ∧ ¬ (k = 12 ∧ BadM n p m) := by
      rcases g' with g' | g'
      · exact g'
      · rcases g with g | g
        · exact ⟨g, fun z => by have := z.1; omega⟩
        · omega
    have e := x4 gd.1 gd.2
    subst e
    exact q _ (same_tr s1 s2)
  · rintro C dx H' ⟨sH, c, rfl, hW⟩
    have hc : c ∈ [cP, cM, cL, cT] := by
      rcases hW with ⟨rfl, _⟩ | ⟨rfl, _⟩ | ⟨rfl, _⟩ | ⟨rfl, _⟩ <;> simp
    refine ⟨⟨c, rfl, R.o c hc⟩, fun σ0 a hl ha => ?_⟩
    have hl' : 4 < σ0.length := by rw [hl]; exact (by decide : 4 < 5)
    exact ⟨.ref a, List.getElem?_set_self hl', a, c, x, rfl, upd_same, hW, fun H'' s'' => q H'' (same_tr sH (same_tr (same_new ha _) s''))⟩
theorem sc__law_choosing : FnScope ["many", "some", "e"] ["many", "some"] (defScope s__law_choosing) := ⟨rfl, rfl, rfl, by decide +kernel, rfl, by decide +kernel, by decide +kernel⟩
theorem ok__law_choosing {cE cP cM cL cT : Addr} (F : Fun K "_law_choosing" "_law_choosing" s__law_choosing f fd) (R : Refs K mg cE cP cM cL cT) (c_choices : CalX P w K mg base 5 "choices" ["many", "some"] (spOr spCho (sBH cM cT)))
    (c_word : CalU P w K mg base 5 "_law_word_of" ["e"] (spWord cP cM cL cT)) : FnOk P w K mg base CX0 6 f fd ["many", "some"] spChg := by
  refine F.ok sc__law_choosing (fun vs H Q E h => ?_) (fun cdv A outer s H vs Q E hr h => ?_)
  · obtain ⟨n, y, x, rfl, _⟩ := h
    rfl
  obtain ⟨n, y, x, rfl, fn, x1, x2, x3, q⟩ := h
  have nd := sc__law_choosing.nd
  refine ⟨_, pss_consE rfl (ps_tryX (i := 2) rfl rfl (fun pinsO Ec => pss_one (ps_expr (pe_cX c_choices passT hr rfl (pa_cons (pv 0) (pa_cons (pv 1) pa_nil)))))
      (fun a => pss_one (ps_ret (pe_cU c_word ⟨hr.dp, hr.un⟩ rfl (pa_cons (pv 2) pa_nil)))) nd rfl rfl rfl R.mE R.oE)
    (pss_one (ps_ret pe_str)), ?_⟩
  refine ⟨fun cls _ H' => Same H H' ∧ ∃ c, cls = .ref c ∧ WordOf cP cM cL cT c x, ?_, ?_⟩
  · refine ⟨_, rfl, _, rfl, ?_⟩
    by_cases g : GoodN n
    · by_cases g4 : 400 < n
      · exact .inr ⟨n, y, rfl, fn, .inr ⟨g, g4, same_refl, cT, rfl, .inr (.inr (.inr ⟨rfl, x2 g g4⟩))⟩⟩
      · have e := x3 g.1 (by omega)
        subst e
        obtain ⟨n1, rfl⟩ := Int.eq_ofNat_of_zero_le g.1
        exact .inl ⟨n1, y, rfl, (by omega), q _ same_refl⟩
    · exact .inr ⟨n, y, rfl, fn, .inl ⟨g, same_refl, cM, rfl, .inr (.inl ⟨rfl, x1 g⟩)⟩⟩
  · rintro C dx H' ⟨sH, c, rfl, hW⟩
    have hc : c ∈ [cP, cM, cL, cT] := by
      rcases hW with ⟨rfl, _⟩ | ⟨rfl, _⟩ | ⟨rfl, _⟩ | ⟨rfl, _⟩ <;> simp
    refine ⟨⟨c, rfl, R.o c hc⟩, fun σ0 a hl ha => ?_⟩
    have hl' : 2 < σ0.length := by rw [hl]; exact (by decide : 2 < 3)
    exact ⟨.ref a, List.getElem?_set_self hl', a, c, x, rfl, upd_same, hW, fun H'' s'' => q H'' (same_tr sH (same_tr (same_new ha _) s''))⟩

/-- what the text's part of the heap says of a class of refusals -/
structure ClsP (K : PySem.W.Frag) (c cE : Addr) : Prop where
  q : PySem.W.excIn K c VE "ValueError.__new__" = true
  e : PySem.W.mroIn K c (.ref cE) = some true
  t : PySem.W.typeIn K (.ref c) = some (.type "type")
  i : PySem.W.isClsIn K c = true
  f1 : PySem.W.findIn K (.ref c) "__class__" = some (some (.builtin "object.__class__"))
  f2 : PySem.W.findIn K (.ref c) "__getattribute__" = some (some (.builtin "BaseException.__getattribute__"))
  f3 : PySem.W.findIn K (.ref c) "__getattr__" = some none
  o : PySem.W.mroIn K c (.type "object") = some true
  b : PySem.W.mroIn K c (.type "BaseException") = some true
  v : PySem.W.mroIn K c (.type "ValueError") = some true
structure Apart (K : PySem.W.Frag) (c d : Addr) : Prop where
  l : PySem.W.mroIn K c (.ref d) = some false
  r : PySem.W.mroIn K d (.ref c) = some false
theorem ClsP.x {c cE : Addr} (p : ClsP K c cE) : XcK K c := ⟨p.f1, p.f2, p.f3, p.o, p.b, by
  have h := p.i
  unfold PySem.W.isClsIn PySem.W.clsIn at h
  split at h
  · rename_i c d cd sl ho
    exact ⟨c, d, cd, sl, ho⟩
  · cases h⟩
theorem kit_self {v : Value} : PySem.W.kitOne K v v = some true := by
  unfold PySem.W.kitOne
  rw [if_pos (beq_self_eq_true v)]
theorem kit_ref {c d cE : Addr} {k : Bool} (p : ClsP K d cE) (n : c ≠ d) (m : PySem.W.mroIn K c (.ref d) = some k) : PySem.W.kitOne K (.ref c) (.ref d) = some k := by
  unfold PySem.W.kitOne
  rw [if_neg (fun z => n (Value.ref.inj (beq_iff_eq.mp z)))]
  show (if ((PySem.W.clsIn K d).isSome && PySem.W.typeIn K (.ref d) == some (.type "type")) = true then PySem.W.subIn K (.ref c) (.ref d) else none) = some k
  have i : (PySem.W.clsIn K d).isSome = true := p.i
  rw [if_pos (by rw [i, p.t]; exact beq_self_eq_true _)]
  exact m
theorem kit_ve {c cE : Addr} (p : ClsP K c cE) : PySem.W.kitOne K (.ref c) (.type "ValueError") = some true := by
  have e : PySem.W.kitOne K (.ref c) (.type "ValueError") = if PySem.W.kitMeta "ValueError" = true then PySem.W.mroIn K c (.type "ValueError") else none := rfl
  rw [e, if_pos (by decide +kernel)]
  exact p.v
theorem refs_mk {h : Heap} {cE cP cM cL cT : Addr} (X : K.In h) (G : h.Ns mainGlobals mg) (mE : PySem.W.nsIn K mainGlobals "ChoiceError" = some (some (.ref cE))) (mP : PySem.W.nsIn K mainGlobals "NoPrime" = some (some (.ref cP))) (mM : PySem.W.nsIn K mainGlobals "NoMany" = some (some (.ref cM)))
    (mL : PySem.W.nsIn K mainGlobals "NoPlace" = some (some (.ref cL))) (mT : PySem.W.nsIn K mainGlobals "TooMany" = some (some (.ref cT))) (qE : PySem.W.excIn K cE VE "ValueError.__new__" = true) (pP : ClsP K cP cE) (pM : ClsP K cM cE) (pL : ClsP K cL cE) (pT : ClsP K cT cE)
    (aPM : Apart K cP cM) (aPL : Apart K cP cL) (aPT : Apart K cP cT) (aML : Apart K cM cL) (aMT : Apart K cM cT) (aLT : Apart K cL cT) (nd : [cE, cP, cM, cL, cT].Nodup) : Refs K mg cE cP cM cL cT := by
  have all : ∀ c ∈ [cP, cM, cL, cT], ClsP K c cE := by
    intro c hc
    simp only [List.mem_cons, List.not_mem_nil, or_false] at hc
    rcases hc with rfl | rfl | rfl | rfl <;> assumption
  have nE : cE ∉ [cP, cM, cL, cT] := (List.nodup_cons.mp nd).1
  have n4 : [cP, cM, cL, cT].Nodup := (List.nodup_cons.mp nd).2
  have apart : ∀ c ∈ [cP, cM, cL, cT], ∀ d ∈ [cP, cM, cL, cT], c ≠ d → PySem.W.mroIn K c (.ref d) = some false := by
    intro c hc d hd n
    simp only [List.mem_cons, List.not_mem_nil, or_false] at hc hd
    rcases hc with rfl | rfl | rfl | rfl <;> rcases hd with rfl | rfl | rfl | rfl
    · exact absurd rfl n
    · exact aPM.l
    · exact aPL.l
    · exact aPT.l
    · exact aPM.r
    · exact absurd rfl n
    · exact aML.l
    · exact aMT.l
    · exact aPL.r
    · exact aML.r
    · exact absurd rfl n
    · exact aLT.l
    · exact aPT.r
    · exact aMT.r
    · exact aLT.r
    · exact absurd rfl n
  refine ⟨PySem.W.mg_of X G mE, PySem.W.mg_of X G mP, PySem.W.mg_of X G mM, PySem.W.mg_of X G mL, PySem.W.mg_of X G mT, own_mk qE (fun d z => nomatch z), fun c hc => own_mk (all c hc).q fun d hd => ?_, fun c hc => (all c hc).x, fun c hc d hd => ?_, fun c hc => kit_ve (all c hc), n4⟩
  · rw [List.mem_singleton.mp hd]
    exact ⟨(all c hc).e, fun z => nE (by rw [z]; exact hc)⟩
  · by_cases n : c = d
    · subst n
      rw [decide_eq_true rfl]
      exact kit_self
    · rw [decide_eq_false n]
      exact kit_ref (all d hd) n (apart c hc d hd n)
theorem CalU.mono {j n : Nat} {x : Str} {ps : List Str} {sp : Sp} (C : CalU P w K mg base j x ps sp) (h : j ≤ n) : CalU P w K mg base n x ps sp := by
  obtain ⟨f, fd, F, b, k, m⟩ := C.ex
  exact ⟨f, fd, ⟨F.len, fun A outer s H args us vs Q E hr => F.run A outer s H args us vs Q E ⟨by have := hr.dp; omega, by have := hr.un; omega⟩⟩, b, k, m⟩

theorem at_int {ns : List Int} {i : Int} (h0 : 0 ≤ i) (h1 : i < ns.length) : ∃ x ∈ ns, atI (ns.map V.int) i = some (.int x) := by
  obtain ⟨j, rfl⟩ := Int.eq_ofNat_of_zero_le h0
  have hj : j < ns.length := by omega
  refine ⟨ns[j], List.getElem_mem hj, atI_nat ?_⟩
  rw [List.getElem?_map, List.getElem?_eq_getElem hj]
  rfl
theorem fit_b {i : Int} (h0 : -10000000000000000000000000000000 ≤ i) (h1 : i ≤ 10000000000000000000000000000000) : Fit i := by
  refine fit_small (Nat.le_trans (show i.natAbs ≤ 10000000000000000000000000000000 by omega) ?_)
  exact Nat.le_trans (show 10000000000000000000000000000000 ≤ 2 ^ 104 by decide) (Nat.pow_le_pow_right (by decide) (by decide))
theorem goodP_bd {p : Int} (h : GoodP p) : 2 ≤ p ∧ p ≤ 97 := by
  obtain ⟨n, rfl, hn⟩ := h
  have := pr_bd hn
  omega
theorem deq {x y : Str} (h : x = y) : decide (V.str x = V.str y) = true := decide_eq_true (by rw [h])
theorem sc_law : FnScope ["script", "prime", "good", "many", "far", "number", "due", "place", "some", "which", "wanted"] ["script"] (defScope s_law) := ⟨rfl, rfl, rfl, by decide +kernel, rfl, by decide +kernel, by decide +kernel⟩
theorem ok_law (F : Fun K "law" "law" s_law f fd) {cP cM cL : Addr} (c__law_cell_at : Cal P w K mg base 6 "_law_cell_at" ["script", "k"] (spCell K)) (c__law_prime_by : Cal P w K mg base 6 "_law_prime_by" ["cell"] spPb)
    (c__law_many_by : Cal P w K mg base 6 "_law_many_by" ["script", "first", "prime"] (spMb K)) (c_free : Cal P w K mg base 6 "free" ["many", "prime"] spFree)
    (c__law_tried : Cal P w K mg base 6 "_law_tried" ["which", "many", "prime", "number"] (spTry cP cM cL)) (c__law_choosing : Cal P w K mg base 6 "_law_choosing" ["many", "some"] spChg) (z_range : mg "range" = none) :
    FnOk P w K mg base CX0 7 f fd ["script"] (spLaw K) := by
  refine F.ok sc_law (fun vs H Q E h => ?_) (fun cdv A outer s H vs Q E hr h => ?_)
  · obtain ⟨a, ns, rfl, _⟩ := h
    rfl
  obtain ⟨sa, ns, rfl, hS, h63, q⟩ := h
  have nd := sc_law.nd
  refine ⟨_, pss_consE rfl (ps_set (i := 1) nd rfl (Or.inl rfl) (pe_c c__law_prime_by hr rfl (pa_cons (pe_c c__law_cell_at hr rfl (pa_cons (pv 0) (pa_cons pe_int pa_nil))) pa_nil)))
    (pss_cons (ps_set (i := 2) nd rfl (Or.inl rfl) (pe_c c__law_many_by hr rfl (pa_cons (pv 0) (pa_cons pe_int (pa_cons (pv 1) pa_nil)))))
    (pss_cons (ps_set (i := 3) nd rfl (Or.inl rfl) (pv 2))
    (pss_cons (ps_set (i := 4) nd rfl (Or.inl rfl) (pe_op op_mod (pe_c c__law_cell_at hr rfl (pa_cons (pv 0) (pa_cons pe_int pa_nil))) (pe_op op_pow pe_int pe_int)))
    (pss_cons (ps_set (i := 5) nd rfl (Or.inl rfl) (pe_op op_mod (pe_c c__law_cell_at hr rfl (pa_cons (pv 0) (pa_cons pe_int pa_nil))) (pe_c c_free hr rfl (pa_cons (pv 3) (pa_cons (pv 1) pa_nil)))))
    (pss_cons (ps_set (i := 6) nd rfl (Or.inl rfl) pe_str)
    (pss_cons (ps_set (i := 7) nd rfl (Or.inl rfl) pe_str)
    (pss_cons (ps_join (ps_if (pt_cmpR op_eq (pe_op op_mod (pe_c c__law_cell_at hr rfl (pa_cons (pv 0) (pa_cons pe_int pa_nil))) pe_int) pe_int (nomark _)) (pss_cons (ps_set (i := 5) nd rfl (Or.inl rfl) (pe_ix ix_list (pe_lst (pa_cons (pe_un un_neg pe_int) (pa_cons (pe_c c_free hr rfl (pa_cons (pv 3) (pa_cons (pv 1) pa_nil))) (pa_cons (pe_op op_sub (pe_un un_neg pe_int) (pv 4)) (pa_cons (pe_op op_add (pe_c c_free hr rfl (pa_cons (pv 3) (pa_cons (pv 1) pa_nil))) (pv 4)) pa_nil))))) (pe_op op_mod (pe_op op_fdiv (pe_c c__law_cell_at hr rfl (pa_cons (pv 0) (pa_cons pe_int pa_nil))) pe_int) pe_int) (fun _ _ => rfl)))
      (pss_one (ps_set (i := 7) nd rfl (Or.inl rfl) pe_str))) pss_nil))
    (pss_cons (ps_join (ps_if (pt_cmpR op_eq (pe_op op_mod (pe_c c__law_cell_at hr rfl (pa_cons (pv 0) (pa_cons pe_int pa_nil))) pe_int) pe_int (nomark _)) (pss_cons (ps_set (i := 3) nd rfl (Or.inl rfl) (pe_ix ix_list (pe_lst (pa_cons (pe_un un_neg pe_int) (pa_cons (pe_op op_add (pe_op op_pow pe_int pe_int) pe_int) (pa_cons (pe_op op_sub (pe_un un_neg pe_int) (pv 4)) (pa_cons (pe_op op_add (pe_op op_add (pe_op op_pow pe_int pe_int) pe_int) (pv 4)) pa_nil))))) (pe_op op_mod (pe_op op_fdiv (pe_c c__law_cell_at hr rfl (pa_cons (pv 0) (pa_cons pe_int pa_nil))) pe_int) pe_int) (fun _ _ => rfl)))
      (pss_one (ps_set (i := 6) nd rfl (Or.inl rfl) pe_str))) pss_nil))
    (pss_cons (ps_join (ps_if (pt_cmpR op_eq (pe_op op_mod (pe_c c__law_cell_at hr rfl (pa_cons (pv 0) (pa_cons pe_int pa_nil))) pe_int) pe_int (nomark _)) (pss_cons (ps_set (i := 8) nd rfl (Or.inl rfl) (pe_lst (pa_cons pe_int (pa_cons pe_int (pa_cons (pe_un un_neg pe_int) (pa_cons pe_int (pa_cons pe_int (pa_cons pe_int (pa_cons pe_int (pa_cons pe_int (pa_cons pe_int (pa_cons (pe_op op_sub pe_int (pv 4)) (pa_cons (pe_op op_add pe_int (pv 4)) (pa_cons (pe_op op_sub pe_int (pv 1)) pa_nil))))))))))))))
      (pss_cons (ps_set (i := 1) nd rfl (Or.inl rfl) (pe_ix ix_list (pv 8) (pe_op op_mod (pe_op op_fdiv (pe_c c__law_cell_at hr rfl (pa_cons (pv 0) (pa_cons pe_int pa_nil))) pe_int) pe_int) (fun _ _ => rfl)))
      (pss_one (ps_set (i := 6) nd rfl (Or.inl rfl) pe_str)))) pss_nil))
    (pss_cons (ps_for PassesOwn.never rfl (pi_range1 rfl z_range (pa_cons pe_int pa_nil)) (pg_name (i := 9) nd rfl (Or.inl rfl))
      (pss_cons (ps_set (i := 10) nd rfl (Or.inl rfl) (pv 6))
      (pss_cons (ps_join (ps_if (PW.pt (pw_and (pt_cmpR op_eq (pv 9) pe_int (nomark _)) (pw_and1 (pt_cmpR op_eq (pv 6) pe_str (nomark _))))) (pss_one (ps_set (i := 10) nd rfl (Or.inl rfl) (pv 7))) pss_nil))
      (pss_one (ps_if (pt_cmpR op_ne (pe_c c__law_tried hr rfl (pa_cons (pv 9) (pa_cons (pv 3) (pa_cons (pv 1) (pa_cons (pv 5) pa_nil))))) (pv 10) (nomark _)) pss_never pss_nil)))))
    (pss_cons (ps_if (PW.pt (pw_or (pt_cmpR op_lt (pv 3) pe_int (nomark _)) (pw_or1 (pt_cmpR op_gt (pv 3) (pe_op op_pow pe_int pe_int) (nomark _))))) (pss_one (ps_ret (pe_cmpR op_eq (pe_c c__law_choosing hr rfl (pa_cons (pv 3) (pa_cons pe_int pa_nil))) pe_str (nomark _)))) pss_nil)
    (pss_cons (ps_if (pt_cmpR op_gt (pv 3) pe_int (nomark _)) (pss_one (ps_ret (pe_cmpR op_eq (pe_c c__law_choosing hr rfl (pa_cons (pv 3) (pa_cons pe_int pa_nil))) pe_str (nomark _)))) pss_nil)
    (pss_one (ps_ret (pe_and (pe_cmpR op_eq (pe_c c__law_choosing hr rfl (pa_cons (pv 3) (pa_cons pe_int pa_nil))) pe_str (nomark _)) (pe_and (pe_cmpR op_eq (pe_c c__law_choosing hr rfl (pa_cons pe_int (pa_cons pe_int pa_nil))) pe_str (nomark _)) (pe_one (pe_cmpR op_eq (pe_c c__law_choosing hr rfl (pa_cons pe_int (pa_cons pe_int pa_nil))) pe_str (nomark _))))))))))))))))))), ?_⟩
  have qD : ∀ {x y : Str}, x = y → ∀ H', Q (.bl (decide (V.str x = V.str y))) H' := fun {x y} e H' => by
    rw [deq e]
    exact q _
  have p3 : (0 : Int) < 3 := by decide
  have p4 : (0 : Int) < 4 := by decide
  have p12 : (0 : Int) < 12 := by decide
  have d3 : ∀ x : Int, CDiv x 3 := fun x => ⟨by decide, by decide⟩
  refine ⟨_, rfl, sa, ns, 0, rfl, hS, _, rfl, fun p H1 hp g1 => ?_⟩
  have hb := pr_bd hp
  have hP := isPr_pr hp
  have hS1 := g1.seq hS
  refine ⟨_, rfl, _, rfl, sa, ns, 1, p, rfl, hS1, hb.1, hb.2, fun x hx0 hx1 => ?_⟩
  obtain ⟨n, rfl⟩ := Int.eq_ofNat_of_zero_le hx0
  have hn : n ≤ 1000000000000000000000000000000 := by omega
  have gP : GoodP (p : Int) := ⟨p, rfl, hp⟩
  have gN : GoodN (n : Int) := ⟨by omega, by omega⟩
  have tp := tot_pos hP n
  have tle := tot_le hP n
  refine ⟨_, rfl, ?_⟩
  refine ⟨_, rfl, sa, ns, 5, rfl, hS1, _, _, rfl, rfl, cp30, _, _, rfl, rfl, p30, ?_⟩
  have f0 := Int.emod_nonneg (cellI ns 5) (show ((10 : Int) ^ (30 : Int).toNat) ≠ 0 by rw [e30]; decide)
  have f1 := Int.emod_lt_of_pos (cellI ns 5) p30
  rw [e30] at f0 f1
  dsimp only
  rw [e30]
  generalize cellI ns 5 % 1000000000000000000000000000000 = far at *
  refine ⟨_, rfl, sa, ns, 6, rfl, hS1, _, rfl, _, rfl, n, p, rfl, hp, hn, fun H2 g2 => ⟨_, _, rfl, rfl, (show (0 : Int) < ((tot p n : Nat) : Int) by omega), ?_⟩⟩
  have m0 := Int.emod_nonneg (cellI ns 6) (show ((tot p n : Nat) : Int) ≠ 0 by omega)
  have m1 := Int.emod_lt_of_pos (cellI ns 6) (show (0 : Int) < ((tot p n : Nat) : Int) by omega)
  dsimp only
  generalize cellI ns 6 % ((tot p n : Nat) : Int) = num at *
  have hS2 := g2.seq hS1
  -- the number of a free place
  refine ⟨fun σ' H' => ∃ (m : Int) (pl : Str), σ' = [some (.ref sa), some (.int (p : Int)), some (.int (n : Int)), some (.int (n : Int)), some (.int far), some (.int m), some (.str wD), some (.str pl), none, none, none] ∧ Same H2 H' ∧ Fit m ∧ (BadM n p m → pl = wL) ∧ (¬ BadM n p m → pl = wD), ?_, ?_⟩
  · refine ⟨_, rfl, sa, ns, 7, rfl, hS2, _, _, rfl, rfl, p3, rfl, _, rfl, ?_⟩
    refine iteD (fun c => ?_) (fun c => ?_)
    · refine ⟨_, rfl, _, rfl, _, rfl, n, p, rfl, hp, hn, fun H3 g3 => ?_⟩
      refine ⟨_, rfl, _, rfl, _, _, rfl, rfl, _, rfl, _, rfl, n, p, rfl, hp, hn, fun H4 g4 => ?_⟩
      refine ⟨_, rfl, _, _, rfl, rfl, small (by show 4 ≤ 1000; decide), fun l hl => ?_⟩
      have g5 := same_tr g3 (same_tr g4 (same_new hl (.lst [V.int (-1), V.int ((tot p n : Nat) : Int), V.int (-1 - far), V.int (((tot p n : Nat) : Int) + far)])))
      have j0 := Int.emod_nonneg (cellI ns 7 / 3) (show (4 : Int) ≠ 0 by decide)
      have j1 := Int.emod_lt_of_pos (cellI ns 7 / 3) p4
      obtain ⟨m, hm, e⟩ := at_int (ns := [-1, ((tot p n : Nat) : Int), -1 - far, ((tot p n : Nat) : Int) + far]) j0 j1
      refine ⟨_, rfl, sa, ns, 7, rfl, g5.seq hS2, _, _, rfl, rfl, d3 _, _, _, rfl, rfl, p4, l, _, _, _, rfl, rfl, SqL.of upd_same, e, ?_⟩
      have bd : (m < 0 ∨ ((tot p n : Nat) : Int) ≤ m) ∧ -10000000000000000000000000000000 ≤ m ∧ m ≤ 10000000000000000000000000000000 := by
        simp only [List.mem_cons, List.not_mem_nil, or_false] at hm
        rcases hm with rfl | rfl | rfl | rfl <;> omega
      have bm : BadM n p m := by
        unfold BadM
        rw [Int.toNat_natCast, Int.toNat_natCast]
        exact bd.1
      exact ⟨m, wL, rfl, g5, fit_b bd.2.1 bd.2.2, fun _ => rfl, fun z => absurd bm z⟩
    · refine ⟨num, wD, rfl, same_refl, fit_b (by omega) (by omega), fun z => ?_, fun _ => rfl⟩
      unfold BadM at z
      rw [Int.toNat_natCast, Int.toNat_natCast] at z
      omega
  rintro σ3 H3 ⟨m, pl, rfl, g3, fm, bm1, bm2⟩
  have hS3 := g3.seq hS2
  -- how many
  refine ⟨fun σ' H' => ∃ (N : Int) (du : Str), σ' = [some (.ref sa), some (.int (p : Int)), some (.int (n : Int)), some (.int N), some (.int far), some (.int m), some (.str du), some (.str pl), none, none, none] ∧ Same H3 H' ∧ Fit N ∧ ((N = n ∧ du = wD) ∨ (¬ GoodN N ∧ du = wM)), ?_, ?_⟩
  · refine ⟨_, rfl, sa, ns, 8, rfl, hS3, _, _, rfl, rfl, p3, rfl, _, rfl, ?_⟩
    refine iteD (fun c => ?_) (fun c => ?_)
    · refine ⟨_, rfl, _, _, rfl, rfl, cp30, _, _, rfl, rfl, _, rfl, _, rfl, _, _, rfl, rfl, _, _, rfl, rfl, cp30, _, _, rfl, rfl, _, rfl, _, _, rfl, rfl, small (by show 4 ≤ 1000; decide), fun l hl => ?_⟩
      have j0 := Int.emod_nonneg (cellI ns 8 / 3) (show (4 : Int) ≠ 0 by decide)
      have j1 := Int.emod_lt_of_pos (cellI ns 8 / 3) p4
      obtain ⟨N, hN, e⟩ := at_int (ns := [-1, (10 : Int) ^ (30 : Int).toNat + 1, -1 - far, (10 : Int) ^ (30 : Int).toNat + 1 + far]) j0 j1
      refine ⟨_, rfl, sa, ns, 8, rfl, (same_new hl _).seq hS3, _, _, rfl, rfl, d3 _, _, _, rfl, rfl, p4, l, _, _, _, rfl, rfl, SqL.of upd_same, e, ?_⟩
      rw [e30] at hN
      have bd : (N < 0 ∨ 1000000000000000000000000000000 < N) ∧ -10000000000000000000000000000000 ≤ N ∧ N ≤ 10000000000000000000000000000000 := by
        simp only [List.mem_cons, List.not_mem_nil, or_false] at hN
        rcases hN with rfl | rfl | rfl | rfl <;> omega
      exact ⟨N, wM, rfl, same_new hl _, fit_b bd.2.1 bd.2.2, .inr ⟨fun z => by have := z.1; have := z.2; omega, rfl⟩⟩
    · exact ⟨(n : Int), wD, rfl, same_refl, fit_b (by omega) (by omega), .inl ⟨rfl, rfl⟩⟩
  rintro σ4 H4 ⟨N, du, rfl, g4, fN, hN⟩
  have hS4 := g4.seq hS3
  -- the prime
  refine ⟨fun σ' H' => ∃ (pp : Int) (du' : Str) (so : Option V), σ' = [some (.ref sa), some (.int pp), some (.int (n : Int)), some (.int N), some (.int far), some (.int m), some (.str du'), some (.str pl), so, none, none] ∧ Same H4 H' ∧ Fit pp ∧ ((pp = p ∧ du' = du) ∨ (¬ GoodP pp ∧ du' = wP)), ?_, ?_⟩
  · refine ⟨_, rfl, sa, ns, 9, rfl, hS4, _, _, rfl, rfl, p3, rfl, _, rfl, ?_⟩
    refine iteD (fun c => ?_) (fun c => ?_)
    · refine ⟨_, rfl, _, rfl, _, _, rfl, rfl, _, rfl, _, _, rfl, rfl, _, rfl, _, _, rfl, rfl, small (by show 12 ≤ 1000; decide), fun l hl => ?_⟩
      have j0 := Int.emod_nonneg (cellI ns 9 / 3) (show (12 : Int) ≠ 0 by decide)
      have j1 := Int.emod_lt_of_pos (cellI ns 9 / 3) p12
      obtain ⟨pp, hpp, e⟩ := at_int (ns := [0, 1, -2, 4, 9, 49, 91, 99, 101, 1 - far, 98 + far, 0 - (p : Int)]) j0 j1
      refine ⟨_, rfl, _, rfl, sa, ns, 9, rfl, (same_new hl _).seq hS4, _, _, rfl, rfl, d3 _, _, _, rfl, rfl, p12, l, _, _, _, rfl, rfl, SqL.of upd_same, e, ?_⟩
      have bd : ¬ GoodP pp ∧ -10000000000000000000000000000000 ≤ pp ∧ pp ≤ 10000000000000000000000000000000 := by
        simp only [List.mem_cons, List.not_mem_nil, or_false] at hpp
        rcases hpp with rfl | rfl | rfl | rfl | rfl | rfl | rfl | rfl | rfl | rfl | rfl | rfl
        · exact ⟨by decide, by decide, by decide⟩
        · exact ⟨by decide, by decide, by decide⟩
        · exact ⟨by decide, by decide, by decide⟩
        · exact ⟨by decide, by decide, by decide⟩
        · exact ⟨by decide, by decide, by decide⟩
        · exact ⟨by decide, by decide, by decide⟩
        · exact ⟨by decide, by decide, by decide⟩
        · exact ⟨by decide, by decide, by decide⟩
        · exact ⟨by decide, by decide, by decide⟩
        · exact ⟨fun z => by have := goodP_bd z; omega, by omega, by omega⟩
        · exact ⟨fun z => by have := goodP_bd z; omega, by omega, by omega⟩
        · exact ⟨fun z => by have := goodP_bd z; omega, by omega, by omega⟩
      exact ⟨pp, wP, _, rfl, same_new hl _, fit_b bd.2.1 bd.2.2, .inr ⟨bd.1, rfl⟩⟩
    · exact ⟨(p : Int), du, none, rfl, same_refl, fit_b (by omega) (by omega), .inl ⟨rfl, rfl⟩⟩
  rintro σ5 H5 ⟨pp, du', so, rfl, g5, fp, hp5⟩
  -- what is due
  have dA : ¬ GoodP pp → du' = wP := fun z => by
    rcases hp5 with ⟨rfl, _⟩ | ⟨_, h⟩
    · exact absurd gP z
    · exact h
  have dB : GoodP pp → ¬ GoodN N → du' = wM := fun y z => by
    rcases hp5 with ⟨rfl, rfl⟩ | ⟨h, _⟩
    · rcases hN with ⟨rfl, _⟩ | ⟨_, h⟩
      · exact absurd gN z
      · exact h
    · exact absurd y h
  have dC : Gd N pp → du' = wD ∧ (BadM N pp m → pl = wL) ∧ (¬ BadM N pp m → pl = wD) := fun z => by
    rcases hp5 with ⟨rfl, rfl⟩ | ⟨h, _⟩
    · rcases hN with ⟨rfl, h⟩ | ⟨h, _⟩
      · exact ⟨h, bm1, bm2⟩
      · exact absurd z.2 h
    · exact absurd z.1 h
  clear hp5 hN bm1 bm2
  refine ⟨13, rfl, by decide, by decide, ?_⟩
  refine for_range (n := 13) (fun i σ H' => ∃ w1 w2, σ = [some (.ref sa), some (.int pp), some (.int (n : Int)), some (.int N), some (.int far), some (.int m), some (.str du'), some (.str pl), so, w1, w2]) ⟨none, none, rfl⟩ ?_ ?_
  · rintro i σ H6 hi ⟨w1, w2, rfl⟩
    refine ⟨_, rfl, ?_⟩
    refine ⟨fun σ' H' => ∃ x : Str, σ' = [some (.ref sa), some (.int pp), some (.int (n : Int)), some (.int N), some (.int far), some (.int m), some (.str du'), some (.str pl), so, some (.int (0 + (i : Int))), some (.str x)] ∧ ((i = 12 ∧ du' = wD ∧ x = pl) ∨ (¬ (i = 12 ∧ du' = wD) ∧ x = du')), ?_, ?_⟩
    · refine ⟨_, rfl, rfl, _, rfl, ?_⟩
      refine iteD (fun c => ?_) (fun c => ?_)
      · have hi12 : i = 12 := by
          have c' := of_decide_eq_true c
          injection c' with c'
          omega
        refine ⟨_, rfl, rfl, _, rfl, ?_⟩
        refine iteD (fun c2 => ?_) (fun c2 => ?_)
        · have hd : du' = wD := by
            have c' := of_decide_eq_true c2
            injection c' with c'
          exact ⟨_, rfl, pl, rfl, .inl ⟨hi12, hd, rfl⟩⟩
        · exact ⟨du', rfl, .inr ⟨fun z => (of_decide_eq_false c2) (by rw [z.2]; rfl), rfl⟩⟩
      · refine iteF ⟨du', rfl, .inr ⟨fun z => (of_decide_eq_false c) (by rw [z.1]; rfl), rfl⟩⟩
    rintro σ7 H7 ⟨x, rfl, hx⟩
    refine ⟨_, rfl, _, rfl, _, rfl, _, rfl, i, N, pp, m, x, ?_, by omega, fN, fp, fm, fun z => ?_, fun y z => ?_, fun y z b => ?_, fun y z => ?_, fun H8 g8 => ?_⟩
    · rw [Int.zero_add]
      rfl
    · have e := dA z
      subst e
      rcases hx with ⟨_, h, _⟩ | ⟨_, h⟩
      · exact absurd h (by decide)
      · exact h
    · have e := dB y z
      subst e
      rcases hx with ⟨_, h, _⟩ | ⟨_, h⟩
      · exact absurd h (by decide)
      · exact h
    · obtain ⟨e, b1, b2⟩ := dC y
      rcases hx with ⟨_, _, h⟩ | ⟨h, _⟩
      · exact h.trans (b1 b)
      · exact absurd ⟨z, e⟩ h
    · obtain ⟨e, b1, b2⟩ := dC y
      rcases hx with ⟨h, _, h2⟩ | ⟨_, h⟩
      · exact h2.trans (b2 fun b => z ⟨h, b⟩)
      · exact h.trans e
    · refine ⟨_, rfl, rfl, _, rfl, ?_⟩
      refine iteB (neq_f rfl) ?_
      exact ⟨_, _, rfl⟩
  · rintro σ H6 ⟨w1, w2, rfl⟩
    refine ⟨_, rfl, _, _, rfl, rfl, _, rfl, ?_⟩
    refine iteD (fun c => ?_) (fun c => ?_)
    · have c' := of_decide_eq_true c
      have g : ¬ GoodN N := fun z => by have := z.1; omega
      refine iteT ⟨_, rfl, N, 3, wM, rfl, fN, fun _ => rfl, fun z => absurd z g, fun z1 z2 => absurd z1 (by omega), fun H7 g7 => ⟨rfl, ?_⟩⟩
      exact qD rfl _
    have c0 := of_decide_eq_false c
    refine ⟨_, rfl, _, _, rfl, rfl, cp30, _, _, rfl, rfl, _, rfl, ?_⟩
    refine iteD (fun c => ?_) (fun c => ?_)
    · have c' := of_decide_eq_true c
      rw [e30] at c'
      have g : ¬ GoodN N := fun z => by have := z.2; omega
      refine ⟨_, rfl, N, 3, wM, rfl, fN, fun _ => rfl, fun z => absurd z g, fun z1 z2 => absurd z2 (by omega), fun H7 g7 => ⟨rfl, ?_⟩⟩
      exact qD rfl _
    have c1 := of_decide_eq_false c
    rw [e30] at c1
    have g : GoodN N := ⟨by omega, by omega⟩
    refine ⟨_, rfl, _, _, rfl, rfl, _, rfl, ?_⟩
    refine iteD (fun c => ?_) (fun c => ?_)
    · have c' := of_decide_eq_true c
      refine ⟨_, rfl, N, 3, wT, rfl, fN, fun z => absurd g z, fun _ _ => rfl, fun z1 z2 => absurd z2 (by omega), fun H7 g7 => ⟨rfl, ?_⟩⟩
      exact qD rfl _
    have c2 := of_decide_eq_false c
    refine ⟨_, rfl, N, 3, wD, rfl, fN, fun z => absurd g z, fun _ z => absurd z (by omega), fun _ _ => rfl, fun H7 g7 => ⟨rfl, _, rfl, ?_⟩⟩
    refine iteA (deq rfl) ?_
    refine ⟨400, 401, wD, rfl, fit_b (by decide) (by decide), fun z => absurd ⟨by decide, by decide⟩ z, fun _ z => absurd z (by decide), fun _ _ => rfl, fun H8 g8 => ⟨rfl, _, rfl, ?_⟩⟩
    refine iteA (deq rfl) ?_
    refine ⟨401, 0, wT, rfl, fit_b (by decide) (by decide), fun z => absurd ⟨by decide, by decide⟩ z, fun _ _ => rfl, fun _ z => absurd z (by decide), fun H9 g9 => ⟨rfl, ?_⟩⟩
    exact qD rfl _

end
theorem all_mk {l : PySem.W.OpenLaw} {w : World} {K : PySem.W.Frag} {h : Heap} {mg : Str → Option Value} {fa f1 f2 f3 f4 f5 f6 f7 f8 f9 f10 f11 f12 f13 f14 f15 f16 f17 f18 f19 f20 f21 f22 f23 f24 f25 f26 f27 f28 pa : Addr} (X : K.In h) (G : h.Ns mainGlobals mg) (hfa : mg "law" = some (.ref fa))
    {od1 an1 od2 an2 od3 an3 od4 an4 od5 an5 od6 an6 od7 an7 od8 an8 od9 an9 od10 an10 od11 an11 od12 an12 od13 an13 od14 an14 od15 an15 od16 an16 od17 an17 od18 an18 od19 an19 od20 an20 od21 an21 od22 an22 od23 an23 od24 an24 od25 an25 od26 an26 od27 an27 od28 an28 : Option Addr} {sl1 sl2 sl3 sl4 sl5 sl6 sl7 sl8 sl9 sl10 sl11 sl12 sl13 sl14 sl15 sl16 sl17 sl18 sl19 sl20 sl21 sl22 sl23 sl24 sl25 sl26 sl27 sl28 : Array (Option Value)} {oc1 kV1 dc1 pm1 cd1 ct1 oc2 kV2 dc2 pm2 cd2 ct2 oc3 kV3 dc3 pm3 cd3 ct3 oc4 kV4 dc4 pm4 cd4 ct4 oc5 kV5 dc5 pm5 cd5 ct5 oc6 kV6 dc6 pm6 cd6 ct6 oc7 kV7 dc7 pm7 cd7 ct7 oc8 kV8 dc8 pm8 cd8 ct8 oc9 kV9 dc9 pm9 cd9 ct9 oc10 kV10 dc10 pm10 cd10 ct10 oc11 kV11 dc11 pm11 cd11 ct11 oc12 kV12 dc12 pm12 cd12 ct12 oc13 kV13 dc13 pm13 cd13 ct13 oc14 kV14 dc14 pm14 cd14 ct14 oc15 kV15 dc15 pm15 cd15 ct15 oc16 kV16 dc16 pm16 cd16 ct16 oc17 kV17 dc17 pm17 cd17 ct17 oc18 kV18 dc18 pm18 cd18 ct18 oc19 kV19 dc19 pm19 cd19 ct19 oc20 kV20 dc20 pm20 cd20 ct20 oc21 kV21 dc21 pm21 cd21 ct21 oc22 kV22 dc22 pm22 cd22 ct22 oc23 kV23 dc23 pm23 cd23 ct23 oc24 kV24 dc24 pm24 cd24 ct24 oc25 kV25 dc25 pm25 cd25 ct25 oc26 kV26 dc26 pm26 cd26 ct26 oc27 kV27 dc27 pm27 cd27 ct27 oc28 kV28 dc28 pm28 cd28 ct28 : Value}
    {tM : Tok}
    {oc : Value} {od : Option Addr} {its : Array Value} {nn : Nat} {sl : Array (Option Value)}
    (a1 : PySem.W.nsIn K mainGlobals "_law_cell_at" = some (some (.ref f1))) (l1 : K.lookup f1 = some ⟨oc1, od1, .func (PySem.W.fnOf "_law_cell_at" "_law_cell_at" (defArgs s__law_cell_at) (defBody s__law_cell_at) (defScope s__law_cell_at) .none kV1 dc1 pm1 an1 cd1 ct1), sl1⟩) (c1 : PySem.W.codeIn K cd1 "_law_cell_at" = true) (k1 : PySem.W.keepIn K (.ref f1) = true)
    (a2 : PySem.W.nsIn K mainGlobals "_law_prime_by" = some (some (.ref f2))) (l2 : K.lookup f2 = some ⟨oc2, od2, .func (PySem.W.fnOf "_law_prime_by" "_law_prime_by" (defArgs s__law_prime_by) (defBody s__law_prime_by) (defScope s__law_prime_by) .none kV2 dc2 pm2 an2 cd2 ct2), sl2⟩) (c2 : PySem.W.codeIn K cd2 "_law_prime_by" = true) (k2 : PySem.W.keepIn K (.ref f2) = true)
    (a3 : PySem.W.nsIn K mainGlobals "_law_many_by" = some (some (.ref f3))) (l3 : K.lookup f3 = some ⟨oc3, od3, .func (PySem.W.fnOf "_law_many_by" "_law_many_by" (defArgs s__law_many_by) (defBody s__law_many_by) (defScope s__law_many_by) .none kV3 dc3 pm3 an3 cd3 ct3), sl3⟩) (c3 : PySem.W.codeIn K cd3 "_law_many_by" = true) (k3 : PySem.W.keepIn K (.ref f3) = true)
    (a4 : PySem.W.nsIn K mainGlobals "check_prime" = some (some (.ref f4))) (l4 : K.lookup f4 = some ⟨oc4, od4, .func (PySem.W.fnOf "check_prime" "check_prime" (defArgs s_check_prime) (defBody s_check_prime) (defScope s_check_prime) .none kV4 dc4 pm4 an4 cd4 ct4), sl4⟩) (c4 : PySem.W.codeIn K cd4 "check_prime" = true) (k4 : PySem.W.keepIn K (.ref f4) = true)
    (a5 : PySem.W.nsIn K mainGlobals "check_many" = some (some (.ref f5))) (l5 : K.lookup f5 = some ⟨oc5, od5, .func (PySem.W.fnOf "check_many" "check_many" (defArgs s_check_many) (defBody s_check_many) (defScope s_check_many) .none kV5 dc5 pm5 an5 cd5 ct5), sl5⟩) (c5 : PySem.W.codeIn K cd5 "check_many" = true) (k5 : PySem.W.keepIn K (.ref f5) = true)
    (a6 : PySem.W.nsIn K mainGlobals "figures" = some (some (.ref f6))) (l6 : K.lookup f6 = some ⟨oc6, od6, .func (PySem.W.fnOf "figures" "figures" (defArgs s_figures) (defBody s_figures) (defScope s_figures) .none kV6 dc6 pm6 an6 cd6 ct6), sl6⟩) (c6 : PySem.W.codeIn K cd6 "figures" = true) (k6 : PySem.W.keepIn K (.ref f6) = true)
    (a7 : PySem.W.nsIn K mainGlobals "carries" = some (some (.ref f7))) (l7 : K.lookup f7 = some ⟨oc7, od7, .func (PySem.W.fnOf "carries" "carries" (defArgs s_carries) (defBody s_carries) (defScope s_carries) .none kV7 dc7 pm7 an7 cd7 ct7), sl7⟩) (c7 : PySem.W.codeIn K cd7 "carries" = true) (k7 : PySem.W.keepIn K (.ref f7) = true)
    (a8 : PySem.W.nsIn K mainGlobals "order_power" = some (some (.ref f8))) (l8 : K.lookup f8 = some ⟨oc8, od8, .func (PySem.W.fnOf "order_power" "order_power" (defArgs s_order_power) (defBody s_order_power) (defScope s_order_power) .none kV8 dc8 pm8 an8 cd8 ct8), sl8⟩) (c8 : PySem.W.codeIn K cd8 "order_power" = true) (k8 : PySem.W.keepIn K (.ref f8) = true)
    (a9 : PySem.W.nsIn K mainGlobals "has_choice" = some (some (.ref f9))) (l9 : K.lookup f9 = some ⟨oc9, od9, .func (PySem.W.fnOf "has_choice" "has_choice" (defArgs s_has_choice) (defBody s_has_choice) (defScope s_has_choice) .none kV9 dc9 pm9 an9 cd9 ct9), sl9⟩) (c9 : PySem.W.codeIn K cd9 "has_choice" = true) (k9 : PySem.W.keepIn K (.ref f9) = true)
    (a10 : PySem.W.nsIn K mainGlobals "choices" = some (some (.ref f10))) (l10 : K.lookup f10 = some ⟨oc10, od10, .func (PySem.W.fnOf "choices" "choices" (defArgs s_choices) (defBody s_choices) (defScope s_choices) .none kV10 dc10 pm10 an10 cd10 ct10), sl10⟩) (c10 : PySem.W.codeIn K cd10 "choices" = true) (k10 : PySem.W.keepIn K (.ref f10) = true)
    (a11 : PySem.W.nsIn K mainGlobals "rest" = some (some (.ref f11))) (l11 : K.lookup f11 = some ⟨oc11, od11, .func (PySem.W.fnOf "rest" "rest" (defArgs s_rest) (defBody s_rest) (defScope s_rest) .none kV11 dc11 pm11 an11 cd11 ct11), sl11⟩) (c11 : PySem.W.codeIn K cd11 "rest" = true) (k11 : PySem.W.keepIn K (.ref f11) = true)
    (a12 : PySem.W.nsIn K mainGlobals "power" = some (some (.ref f12))) (l12 : K.lookup f12 = some ⟨oc12, od12, .func (PySem.W.fnOf "power" "power" (defArgs s_power) (defBody s_power) (defScope s_power) .none kV12 dc12 pm12 an12 cd12 ct12), sl12⟩) (c12 : PySem.W.codeIn K cd12 "power" = true) (k12 : PySem.W.keepIn K (.ref f12) = true)
    (a13 : PySem.W.nsIn K mainGlobals "figure_orders" = some (some (.ref f13))) (l13 : K.lookup f13 = some ⟨oc13, od13, .func (PySem.W.fnOf "figure_orders" "figure_orders" (defArgs s_figure_orders) (defBody s_figure_orders) (defScope s_figure_orders) .none kV13 dc13 pm13 an13 cd13 ct13), sl13⟩) (c13 : PySem.W.codeIn K cd13 "figure_orders" = true) (k13 : PySem.W.keepIn K (.ref f13) = true)
    (a14 : PySem.W.nsIn K mainGlobals "order_last" = some (some (.ref f14))) (l14 : K.lookup f14 = some ⟨oc14, od14, .func (PySem.W.fnOf "order_last" "order_last" (defArgs s_order_last) (defBody s_order_last) (defScope s_order_last) .none kV14 dc14 pm14 an14 cd14 ct14), sl14⟩) (c14 : PySem.W.codeIn K cd14 "order_last" = true) (k14 : PySem.W.keepIn K (.ref f14) = true)
    (a15 : PySem.W.nsIn K mainGlobals "quotient" = some (some (.ref f15))) (l15 : K.lookup f15 = some ⟨oc15, od15, .func (PySem.W.fnOf "quotient" "quotient" (defArgs s_quotient) (defBody s_quotient) (defScope s_quotient) .none kV15 dc15 pm15 an15 cd15 ct15), sl15⟩) (c15 : PySem.W.codeIn K cd15 "quotient" = true) (k15 : PySem.W.keepIn K (.ref f15) = true)
    (a16 : PySem.W.nsIn K mainGlobals "last" = some (some (.ref f16))) (l16 : K.lookup f16 = some ⟨oc16, od16, .func (PySem.W.fnOf "last" "last" (defArgs s_last) (defBody s_last) (defScope s_last) .none kV16 dc16 pm16 an16 cd16 ct16), sl16⟩) (c16 : PySem.W.codeIn K cd16 "last" = true) (k16 : PySem.W.keepIn K (.ref f16) = true)
    (a17 : PySem.W.nsIn K mainGlobals "free" = some (some (.ref f17))) (l17 : K.lookup f17 = some ⟨oc17, od17, .func (PySem.W.fnOf "free" "free" (defArgs s_free) (defBody s_free) (defScope s_free) .none kV17 dc17 pm17 an17 cd17 ct17), sl17⟩) (c17 : PySem.W.codeIn K cd17 "free" = true) (k17 : PySem.W.keepIn K (.ref f17) = true)
    (a18 : PySem.W.nsIn K mainGlobals "next_free" = some (some (.ref f18))) (l18 : K.lookup f18 = some ⟨oc18, od18, .func (PySem.W.fnOf "next_free" "next_free" (defArgs s_next_free) (defBody s_next_free) (defScope s_next_free) .none kV18 dc18 pm18 an18 cd18 ct18), sl18⟩) (c18 : PySem.W.codeIn K cd18 "next_free" = true) (k18 : PySem.W.keepIn K (.ref f18) = true)
    (a19 : PySem.W.nsIn K mainGlobals "free_ahead" = some (some (.ref f19))) (l19 : K.lookup f19 = some ⟨oc19, od19, .func (PySem.W.fnOf "free_ahead" "free_ahead" (defArgs s_free_ahead) (defBody s_free_ahead) (defScope s_free_ahead) .none kV19 dc19 pm19 an19 cd19 ct19), sl19⟩) (c19 : PySem.W.codeIn K cd19 "free_ahead" = true) (k19 : PySem.W.keepIn K (.ref f19) = true)
    (a20 : PySem.W.nsIn K mainGlobals "free_at" = some (some (.ref f20))) (l20 : K.lookup f20 = some ⟨oc20, od20, .func (PySem.W.fnOf "free_at" "free_at" (defArgs s_free_at) (defBody s_free_at) (defScope s_free_at) .none kV20 dc20 pm20 an20 cd20 ct20), sl20⟩) (c20 : PySem.W.codeIn K cd20 "free_at" = true) (k20 : PySem.W.keepIn K (.ref f20) = true)
    (a21 : PySem.W.nsIn K mainGlobals "is_bare" = some (some (.ref f21))) (l21 : K.lookup f21 = some ⟨oc21, od21, .func (PySem.W.fnOf "is_bare" "is_bare" (defArgs s_is_bare) (defBody s_is_bare) (defScope s_is_bare) .none kV21 dc21 pm21 an21 cd21 ct21), sl21⟩) (c21 : PySem.W.codeIn K cd21 "is_bare" = true) (k21 : PySem.W.keepIn K (.ref f21) = true)
    (a22 : PySem.W.nsIn K mainGlobals "is_full" = some (some (.ref f22))) (l22 : K.lookup f22 = some ⟨oc22, od22, .func (PySem.W.fnOf "is_full" "is_full" (defArgs s_is_full) (defBody s_is_full) (defScope s_is_full) .none kV22 dc22 pm22 an22 cd22 ct22), sl22⟩) (c22 : PySem.W.codeIn K cd22 "is_full" = true) (k22 : PySem.W.keepIn K (.ref f22) = true)
    (a23 : PySem.W.nsIn K mainGlobals "_law_word_of" = some (some (.ref f23))) (l23 : K.lookup f23 = some ⟨oc23, od23, .func (PySem.W.fnOf "_law_word_of" "_law_word_of" (defArgs s__law_word_of) (defBody s__law_word_of) (defScope s__law_word_of) .none kV23 dc23 pm23 an23 cd23 ct23), sl23⟩) (c23 : PySem.W.codeIn K cd23 "_law_word_of" = true) (k23 : PySem.W.keepIn K (.ref f23) = true)
    (a24 : PySem.W.nsIn K mainGlobals "_law_first" = some (some (.ref f24))) (l24 : K.lookup f24 = some ⟨oc24, od24, .func (PySem.W.fnOf "_law_first" "_law_first" (defArgs s__law_first) (defBody s__law_first) (defScope s__law_first) .none kV24 dc24 pm24 an24 cd24 ct24), sl24⟩) (c24 : PySem.W.codeIn K cd24 "_law_first" = true) (k24 : PySem.W.keepIn K (.ref f24) = true)
    (a25 : PySem.W.nsIn K mainGlobals "_law_second" = some (some (.ref f25))) (l25 : K.lookup f25 = some ⟨oc25, od25, .func (PySem.W.fnOf "_law_second" "_law_second" (defArgs s__law_second) (defBody s__law_second) (defScope s__law_second) .none kV25 dc25 pm25 an25 cd25 ct25), sl25⟩) (c25 : PySem.W.codeIn K cd25 "_law_second" = true) (k25 : PySem.W.keepIn K (.ref f25) = true)
    (a26 : PySem.W.nsIn K mainGlobals "_law_tried" = some (some (.ref f26))) (l26 : K.lookup f26 = some ⟨oc26, od26, .func (PySem.W.fnOf "_law_tried" "_law_tried" (defArgs s__law_tried) (defBody s__law_tried) (defScope s__law_tried) .none kV26 dc26 pm26 an26 cd26 ct26), sl26⟩) (c26 : PySem.W.codeIn K cd26 "_law_tried" = true) (k26 : PySem.W.keepIn K (.ref f26) = true)
    (a27 : PySem.W.nsIn K mainGlobals "_law_choosing" = some (some (.ref f27))) (l27 : K.lookup f27 = some ⟨oc27, od27, .func (PySem.W.fnOf "_law_choosing" "_law_choosing" (defArgs s__law_choosing) (defBody s__law_choosing) (defScope s__law_choosing) .none kV27 dc27 pm27 an27 cd27 ct27), sl27⟩) (c27 : PySem.W.codeIn K cd27 "_law_choosing" = true) (k27 : PySem.W.keepIn K (.ref f27) = true)
    (a28 : PySem.W.nsIn K mainGlobals "law" = some (some (.ref f28))) (l28 : K.lookup f28 = some ⟨oc28, od28, .func (PySem.W.fnOf "law" "law" (defArgs s_law) (defBody s_law) (defScope s_law) .none kV28 dc28 pm28 an28 cd28 ct28), sl28⟩) (c28 : PySem.W.codeIn K cd28 "law" = true) (k28 : PySem.W.keepIn K (.ref f28) = true)
    (aP : PySem.W.nsIn K mainGlobals "PRIMES" = some (some (.ref pa))) (lP : K.lookup pa = some ⟨oc, od, .seq its nn, sl⟩) (tP : oc = .type "tuple") (zP : its.size ≤ sizeLine) (vP : Vals primesV its.toList)
    (aM : PySem.W.nsIn K mainGlobals "MOST_THINGS" = some (some (.int 400 tM)))
    {cE cP cM cL cT : Addr} (n_cE : PySem.W.nsIn K mainGlobals "ChoiceError" = some (some (.ref cE))) (n_cP : PySem.W.nsIn K mainGlobals "NoPrime" = some (some (.ref cP))) (n_cM : PySem.W.nsIn K mainGlobals "NoMany" = some (some (.ref cM))) (n_cL : PySem.W.nsIn K mainGlobals "NoPlace" = some (some (.ref cL))) (n_cT : PySem.W.nsIn K mainGlobals "TooMany" = some (some (.ref cT)))
    (q_cE : PySem.W.excIn K cE VE "ValueError.__new__" = true) (p_cP : ClsP K cP cE) (p_cM : ClsP K cM cE) (p_cL : ClsP K cL cE) (p_cT : ClsP K cT cE) (p_cPcM : Apart K cP cM) (p_cPcL : Apart K cP cL) (p_cPcT : Apart K cP cT) (p_cMcL : Apart K cM cL) (p_cMcT : Apart K cM cT) (p_cLcT : Apart K cL cT) (p_nd : [cE, cP, cM, cL, cT].Nodup)
    (y_len : PySem.W.nsIn K mainGlobals "len" = some none)
    (y_range : PySem.W.nsIn K mainGlobals "range" = some none)
    (y_min : PySem.W.nsIn K mainGlobals "min" = some none)
    (y_max : PySem.W.nsIn K mainGlobals "max" = some none)
    (y_isinstance : PySem.W.nsIn K mainGlobals "isinstance" = some none)
    (y_ValueError : PySem.W.nsIn K mainGlobals "ValueError" = some none)
    : ∃ fd : FuncData, (∀ (s : Shared) (v : Value), BindsTo s fd ⟨[v], []⟩ [("script", v)]) ∧ ∀ base : Heap, K.In base → base.Ns mainGlobals mg → FnOk l.prog w K mg base CX0 65 fa fd ["script"] (spLaw K) := by
  have e := hfa.symm.trans (PySem.W.mg_of X G a28)
  cases e
  have F1 := fun_mk (st := s__law_cell_at) l1 c1 k1
  have F2 := fun_mk (st := s__law_prime_by) l2 c2 k2
  have F3 := fun_mk (st := s__law_many_by) l3 c3 k3
  have F4 := fun_mk (st := s_check_prime) l4 c4 k4
  have F5 := fun_mk (st := s_check_many) l5 c5 k5
  have F6 := fun_mk (st := s_figures) l6 c6 k6
  have F7 := fun_mk (st := s_carries) l7 c7 k7
  have F8 := fun_mk (st := s_order_power) l8 c8 k8
  have F9 := fun_mk (st := s_has_choice) l9 c9 k9
  have F10 := fun_mk (st := s_choices) l10 c10 k10
  have F11 := fun_mk (st := s_rest) l11 c11 k11
  have F12 := fun_mk (st := s_power) l12 c12 k12
  have F13 := fun_mk (st := s_figure_orders) l13 c13 k13
  have F14 := fun_mk (st := s_order_last) l14 c14 k14
  have F15 := fun_mk (st := s_quotient) l15 c15 k15
  have F16 := fun_mk (st := s_last) l16 c16 k16
  have F17 := fun_mk (st := s_free) l17 c17 k17
  have F18 := fun_mk (st := s_next_free) l18 c18 k18
  have F19 := fun_mk (st := s_free_ahead) l19 c19 k19
  have F20 := fun_mk (st := s_free_at) l20 c20 k20
  have F21 := fun_mk (st := s_is_bare) l21 c21 k21
  have F22 := fun_mk (st := s_is_full) l22 c22 k22
  have F23 := fun_mk (st := s__law_word_of) l23 c23 k23
  have F24 := fun_mk (st := s__law_first) l24 c24 k24
  have F25 := fun_mk (st := s__law_second) l25 c25 k25
  have F26 := fun_mk (st := s__law_tried) l26 c26 k26
  have F27 := fun_mk (st := s__law_choosing) l27 c27 k27
  have F28 := fun_mk (st := s_law) l28 c28 k28
  have b1 := F1.binds (ps := ["script", "k"]) fun _ _ _ _ _ _ us hl => match us, hl with | [_, _], _ => rfl
  have b2 := F2.binds (ps := ["cell"]) fun _ _ _ _ _ _ us hl => match us, hl with | [_], _ => rfl
  have b3 := F3.binds (ps := ["script", "first", "prime"]) fun _ _ _ _ _ _ us hl => match us, hl with | [_, _, _], _ => rfl
  have b4 := F4.binds (ps := ["prime"]) fun _ _ _ _ _ _ us hl => match us, hl with | [_], _ => rfl
  have b5 := F5.binds (ps := ["number"]) fun _ _ _ _ _ _ us hl => match us, hl with | [_], _ => rfl
  have b6 := F6.binds (ps := ["number", "prime"]) fun _ _ _ _ _ _ us hl => match us, hl with | [_, _], _ => rfl
  have b7 := F7.binds (ps := ["one", "other", "prime"]) fun _ _ _ _ _ _ us hl => match us, hl with | [_, _, _], _ => rfl
  have b8 := F8.binds (ps := ["number", "prime"]) fun _ _ _ _ _ _ us hl => match us, hl with | [_, _], _ => rfl
  have b9 := F9.binds (ps := ["many", "some"]) fun _ _ _ _ _ _ us hl => match us, hl with | [_, _], _ => rfl
  have b10 := F10.binds (ps := ["many", "some"]) fun _ _ _ _ _ _ us hl => match us, hl with | [_, _], _ => rfl
  have b11 := F11.binds (ps := ["many", "some", "prime"]) fun _ _ _ _ _ _ us hl => match us, hl with | [_, _, _], _ => rfl
  have b12 := F12.binds (ps := ["many", "some", "prime"]) fun _ _ _ _ _ _ us hl => match us, hl with | [_, _, _], _ => rfl
  have b13 := F13.binds (ps := ["prime"]) fun _ _ _ _ _ _ us hl => match us, hl with | [_], _ => rfl
  have b14 := F14.binds (ps := ["number", "prime", "orders"]) fun _ _ _ _ _ _ us hl => match us, hl with | [_, _, _], _ => rfl
  have b15 := F15.binds (ps := ["upper", "lower", "prime"]) fun _ _ _ _ _ _ us hl => match us, hl with | [_, _, _], _ => rfl
  have b16 := F16.binds (ps := ["many", "some", "prime"]) fun _ _ _ _ _ _ us hl => match us, hl with | [_, _, _], _ => rfl
  have b17 := F17.binds (ps := ["many", "prime"]) fun _ _ _ _ _ _ us hl => match us, hl with | [_, _], _ => rfl
  have b18 := F18.binds (ps := ["many", "place", "prime"]) fun _ _ _ _ _ _ us hl => match us, hl with | [_, _, _], _ => rfl
  have b19 := F19.binds (ps := ["many", "place", "prime"]) fun _ _ _ _ _ _ us hl => match us, hl with | [_, _, _], _ => rfl
  have b20 := F20.binds (ps := ["many", "number", "prime"]) fun _ _ _ _ _ _ us hl => match us, hl with | [_, _, _], _ => rfl
  have b21 := F21.binds (ps := ["many", "prime"]) fun _ _ _ _ _ _ us hl => match us, hl with | [_, _], _ => rfl
  have b22 := F22.binds (ps := ["many", "prime"]) fun _ _ _ _ _ _ us hl => match us, hl with | [_, _], _ => rfl
  have b23 := F23.binds (ps := ["e"]) fun _ _ _ _ _ _ us hl => match us, hl with | [_], _ => rfl
  have b24 := F24.binds (ps := ["which", "many", "prime"]) fun _ _ _ _ _ _ us hl => match us, hl with | [_, _, _], _ => rfl
  have b25 := F25.binds (ps := ["which", "many", "prime", "number"]) fun _ _ _ _ _ _ us hl => match us, hl with | [_, _, _, _], _ => rfl
  have b26 := F26.binds (ps := ["which", "many", "prime", "number"]) fun _ _ _ _ _ _ us hl => match us, hl with | [_, _, _, _], _ => rfl
  have b27 := F27.binds (ps := ["many", "some"]) fun _ _ _ _ _ _ us hl => match us, hl with | [_, _], _ => rfl
  have R : Refs K mg cE cP cM cL cT := refs_mk X G n_cE n_cP n_cM n_cL n_cT q_cE p_cP p_cM p_cL p_cT p_cPcM p_cPcL p_cPcT p_cMcL p_cMcT p_cLcT p_nd
  have z_len := PySem.W.mg_none_of X G y_len
  have z_range := PySem.W.mg_none_of X G y_range
  have z_min := PySem.W.mg_none_of X G y_min
  have z_max := PySem.W.mg_none_of X G y_max
  have z_isinstance := PySem.W.mg_none_of X G y_isinstance
  have z_ValueError := PySem.W.mg_none_of X G y_ValueError
  have hM := PySem.W.mg_of X G aM
  have hP := PySem.W.mg_of X G aP
  have hT : ∀ H : Hp, SqT K H pa primesV := fun H => .inr ⟨_, its, nn, lP, tP, rfl, zP, vP⟩
  refine ⟨PySem.W.fnOf "law" "law" (defArgs s_law) (defBody s_law) (defScope s_law) .none kV28 dc28 pm28 an28 cd28 ct28, fun s v => .of_eq rfl, fun base _ _ => ?_⟩
  have O1 : FnOk l.prog w K mg base CX0 1 f1 _ ["script", "k"] (spCell K) := ok__law_cell_at F1 z_len
  have C1 : Cal l.prog w K mg base 1 "_law_cell_at" ["script", "k"] (spCell K) := cal_mk F1 b1 (PySem.W.mg_of X G a1) O1
  have O2 : FnOk l.prog w K mg base CX0 1 f2 _ ["cell"] spPb := ok__law_prime_by F2
  have C2 : Cal l.prog w K mg base 1 "_law_prime_by" ["cell"] spPb := cal_mk F2 b2 (PySem.W.mg_of X G a2) O2
  have O3 : FnOk l.prog w K mg base CX0 2 f3 _ ["script", "first", "prime"] (spMb K) := ok__law_many_by F3 (C1.mono (by decide)) z_range
  have C3 : Cal l.prog w K mg base 2 "_law_many_by" ["script", "first", "prime"] (spMb K) := cal_mk F3 b3 (PySem.W.mg_of X G a3) O3
  have O4 : FnOk l.prog w K mg base CX0 1 f4 _ ["prime"] spPr := ok_check_prime F4 hP hT
  have C4 : Cal l.prog w K mg base 1 "check_prime" ["prime"] spPr := cal_mk F4 b4 (PySem.W.mg_of X G a4) O4
  have O5 : FnOk l.prog w K mg base CX0 1 f5 _ ["number"] spMany := ok_check_many F5
  have C5 : Cal l.prog w K mg base 1 "check_many" ["number"] spMany := cal_mk F5 b5 (PySem.W.mg_of X G a5) O5
  have O6 : FnOk l.prog w K mg base CX0 2 f6 _ ["number", "prime"] spFig := ok_figures F6 (C4.mono (by decide)) (C5.mono (by decide))
  have C6 : Cal l.prog w K mg base 2 "figures" ["number", "prime"] spFig := cal_mk F6 b6 (PySem.W.mg_of X G a6) O6
  have O7 : FnOk l.prog w K mg base CX0 2 f7 _ ["one", "other", "prime"] spCar := ok_carries F7 (C4.mono (by decide)) (C5.mono (by decide))
  have C7 : Cal l.prog w K mg base 2 "carries" ["one", "other", "prime"] spCar := cal_mk F7 b7 (PySem.W.mg_of X G a7) O7
  have O8 : FnOk l.prog w K mg base CX0 2 f8 _ ["number", "prime"] spOrd := ok_order_power F8 (C4.mono (by decide)) (C5.mono (by decide))
  have C8 : Cal l.prog w K mg base 2 "order_power" ["number", "prime"] spOrd := cal_mk F8 b8 (PySem.W.mg_of X G a8) O8
  have O9 : FnOk l.prog w K mg base CX0 1 f9 _ ["many", "some"] spHas := ok_has_choice F9
  have C9 : Cal l.prog w K mg base 1 "has_choice" ["many", "some"] spHas := cal_mk F9 b9 (PySem.W.mg_of X G a9) O9
  have O10 : FnOk l.prog w K mg base CX0 2 f10 _ ["many", "some"] spCho := ok_choices F10 hM (C5.mono (by decide)) (C9.mono (by decide)) z_range z_min
  have C10 : Cal l.prog w K mg base 2 "choices" ["many", "some"] spCho := cal_mk F10 b10 (PySem.W.mg_of X G a10) O10
  have O11 : FnOk l.prog w K mg base CX0 3 f11 _ ["many", "some", "prime"] spRest := ok_rest F11 (C4.mono (by decide)) (C5.mono (by decide)) (C9.mono (by decide)) (C10.mono (by decide))
  have C11 : Cal l.prog w K mg base 3 "rest" ["many", "some", "prime"] spRest := cal_mk F11 b11 (PySem.W.mg_of X G a11) O11
  have O12 : FnOk l.prog w K mg base CX0 3 f12 _ ["many", "some", "prime"] spPow := ok_power F12 (C4.mono (by decide)) (C5.mono (by decide)) (C9.mono (by decide)) (C7.mono (by decide))
  have C12 : Cal l.prog w K mg base 3 "power" ["many", "some", "prime"] spPow := cal_mk F12 b12 (PySem.W.mg_of X G a12) O12
  have O13 : FnOk l.prog w K mg base CX0 1 f13 _ ["prime"] spFo := ok_figure_orders F13 z_range
  have C13 : Cal l.prog w K mg base 1 "figure_orders" ["prime"] spFo := cal_mk F13 b13 (PySem.W.mg_of X G a13) O13
  have O14 : FnOk l.prog w K mg base CX0 1 f14 _ ["number", "prime", "orders"] (spOl K) := ok_order_last F14
  have C14 : Cal l.prog w K mg base 1 "order_last" ["number", "prime", "orders"] (spOl K) := cal_mk F14 b14 (PySem.W.mg_of X G a14) O14
  have O15 : FnOk l.prog w K mg base CX0 1 f15 _ ["upper", "lower", "prime"] spQuo := ok_quotient F15
  have C15 : Cal l.prog w K mg base 1 "quotient" ["upper", "lower", "prime"] spQuo := cal_mk F15 b15 (PySem.W.mg_of X G a15) O15
  have O16 : FnOk l.prog w K mg base CX0 3 f16 _ ["many", "some", "prime"] spLast := ok_last F16 (C4.mono (by decide)) (C5.mono (by decide)) (C9.mono (by decide)) (C13.mono (by decide)) (C14.mono (by decide)) (C15.mono (by decide))
  have C16 : Cal l.prog w K mg base 3 "last" ["many", "some", "prime"] spLast := cal_mk F16 b16 (PySem.W.mg_of X G a16) O16
  have O17 : FnOk l.prog w K mg base CX0 3 f17 _ ["many", "prime"] spFree := ok_free F17 (C6.mono (by decide))
  have C17 : Cal l.prog w K mg base 3 "free" ["many", "prime"] spFree := cal_mk F17 b17 (PySem.W.mg_of X G a17) O17
  have O18 : FnOk l.prog w K mg base CX0 3 f18 _ ["many", "place", "prime"] spNext := ok_next_free F18 (C6.mono (by decide)) z_max
  have C18 : Cal l.prog w K mg base 3 "next_free" ["many", "place", "prime"] spNext := cal_mk F18 b18 (PySem.W.mg_of X G a18) O18
  have O19 : FnOk l.prog w K mg base CX0 4 f19 _ ["many", "place", "prime"] spAhead := ok_free_ahead F19 (C6.mono (by decide)) (C17.mono (by decide)) z_max
  have C19 : Cal l.prog w K mg base 4 "free_ahead" ["many", "place", "prime"] spAhead := cal_mk F19 b19 (PySem.W.mg_of X G a19) O19
  have O20 : FnOk l.prog w K mg base CX0 4 f20 _ ["many", "number", "prime"] spAt := ok_free_at F20 (C6.mono (by decide)) (C17.mono (by decide))
  have C20 : Cal l.prog w K mg base 4 "free_at" ["many", "number", "prime"] spAt := cal_mk F20 b20 (PySem.W.mg_of X G a20) O20
  have O21 : FnOk l.prog w K mg base CX0 4 f21 _ ["many", "prime"] spBare := ok_is_bare F21 (C17.mono (by decide))
  have C21 : Cal l.prog w K mg base 4 "is_bare" ["many", "prime"] spBare := cal_mk F21 b21 (PySem.W.mg_of X G a21) O21
  have O22 : FnOk l.prog w K mg base CX0 4 f22 _ ["many", "prime"] spFull := ok_is_full F22 (C17.mono (by decide))
  have C22 : Cal l.prog w K mg base 4 "is_full" ["many", "prime"] spFull := cal_mk F22 b22 (PySem.W.mg_of X G a22) O22
  have Y4 : CalX l.prog w K mg base 1 "check_prime" ["prime"] (spCP cP) := calX_mk F4 b4 (PySem.W.mg_of X G a4) (x_check_prime F4 hP hT R.mP (R.o cP (by simp)))
  have Y5 : CalX l.prog w K mg base 1 "check_many" ["number"] (spCM cM) := calX_mk F5 b5 (PySem.W.mg_of X G a5) (x_check_many F5 R.mM (R.o cM (by simp)))
  have Y6 : CalX l.prog w K mg base 2 "figures" ["number", "prime"] (spOr spFig (sB2 cP cM)) := calX_mk F6 b6 (PySem.W.mg_of X G a6) (FnOk.or O6.up ((x_figures (Y4.mono (by decide)) (Y5.mono (by decide)) F6).mono (by decide)))
  have Y7 : CalX l.prog w K mg base 2 "carries" ["one", "other", "prime"] (spOr spCar (sBC cP cM)) := calX_mk F7 b7 (PySem.W.mg_of X G a7) (FnOk.or O7.up ((x_carries (Y4.mono (by decide)) (Y5.mono (by decide)) F7).mono (by decide)))
  have Y8 : CalX l.prog w K mg base 2 "order_power" ["number", "prime"] (spOr spOrd (sB2 cP cM)) := calX_mk F8 b8 (PySem.W.mg_of X G a8) (FnOk.or O8.up ((x_order_power (Y4.mono (by decide)) (Y5.mono (by decide)) F8).mono (by decide)))
  have Y11 : CalX l.prog w K mg base 3 "rest" ["many", "some", "prime"] (spOr spRest (sB3 cP cM)) := calX_mk F11 b11 (PySem.W.mg_of X G a11) (FnOk.or O11.up ((x_rest (Y4.mono (by decide)) (Y5.mono (by decide)) F11).mono (by decide)))
  have Y12 : CalX l.prog w K mg base 3 "power" ["many", "some", "prime"] (spOr spPow (sB3 cP cM)) := calX_mk F12 b12 (PySem.W.mg_of X G a12) (FnOk.or O12.up ((x_power (Y4.mono (by decide)) (Y5.mono (by decide)) F12).mono (by decide)))
  have Y16 : CalX l.prog w K mg base 3 "last" ["many", "some", "prime"] (spOr spLast (sB3 cP cM)) := calX_mk F16 b16 (PySem.W.mg_of X G a16) (FnOk.or O16.up ((x_last (Y4.mono (by decide)) (Y5.mono (by decide)) F16).mono (by decide)))
  have Y17 : CalX l.prog w K mg base 3 "free" ["many", "prime"] (spOr spFree (sB2 cP cM)) := calX_mk F17 b17 (PySem.W.mg_of X G a17) (FnOk.or O17.up ((x_free (Y6.mono (by decide)) F17).mono (by decide)))
  have Y18 : CalX l.prog w K mg base 3 "next_free" ["many", "place", "prime"] (spOr spNext (sB3 cP cM)) := calX_mk F18 b18 (PySem.W.mg_of X G a18) (FnOk.or O18.up ((x_next_free (Y6.mono (by decide)) F18).mono (by decide)))
  have Y19 : CalX l.prog w K mg base 4 "free_ahead" ["many", "place", "prime"] (spOr spAhead (sB3 cP cM)) := calX_mk F19 b19 (PySem.W.mg_of X G a19) (FnOk.or O19.up ((x_free_ahead (Y6.mono (by decide)) F19).mono (by decide)))
  have Y21 : CalX l.prog w K mg base 4 "is_bare" ["many", "prime"] (spOr spBare (sB2 cP cM)) := calX_mk F21 b21 (PySem.W.mg_of X G a21) (FnOk.or O21.up ((x_is_bare (Y17.mono (by decide)) F21).mono (by decide)))
  have Y22 : CalX l.prog w K mg base 4 "is_full" ["many", "prime"] (spOr spFull (sB2 cP cM)) := calX_mk F22 b22 (PySem.W.mg_of X G a22) (FnOk.or O22.up ((x_is_full (Y17.mono (by decide)) F22).mono (by decide)))
  have Y20 : CalX l.prog w K mg base 4 "free_at" ["many", "number", "prime"] (spOr spAt (spOr (sB3 cP cM) (sBA cL))) := calX_mk F20 b20 (PySem.W.mg_of X G a20) (FnOk.or O20.up (FnOk.or ((x_free_at (Y6.mono (by decide)) F20).mono (by decide)) (x_free_atL F20 (Y6.mono (by decide)) (Y17.mono (by decide)) R.mL (R.o cL (by simp)))))
  have Y10 : CalX l.prog w K mg base 2 "choices" ["many", "some"] (spOr spCho (sBH cM cT)) := calX_mk F10 b10 (PySem.W.mg_of X G a10) (FnOk.or O10.up (x_choices F10 hM (Y5.mono (by decide)) R.mT (R.o cT (by simp))))
  have U23 : CalU l.prog w K mg base 1 "_law_word_of" ["e"] (spWord cP cM cL cT) := calU_mk F23 b23 (PySem.W.mg_of X G a23) (u__law_word_of F23 R z_isinstance z_ValueError)
  have Y24 : CalX l.prog w K mg base 5 "_law_first" ["which", "many", "prime"] (spFst cP cM) := calX_mk F24 b24 (PySem.W.mg_of X G a24) (x__law_first F24 (Y6.mono (by decide)) (Y7.mono (by decide)) (Y8.mono (by decide)) (Y11.mono (by decide)) (Y12.mono (by decide)) (Y16.mono (by decide)))
  have Y25 : CalX l.prog w K mg base 5 "_law_second" ["which", "many", "prime", "number"] (spSnd cP cM cL) := calX_mk F25 b25 (PySem.W.mg_of X G a25) (x__law_second F25 (Y17.mono (by decide)) (Y18.mono (by decide)) (Y19.mono (by decide)) (Y21.mono (by decide)) (Y22.mono (by decide)) (Y20.mono (by decide)))
  have C26 : Cal l.prog w K mg base 6 "_law_tried" ["which", "many", "prime", "number"] (spTry cP cM cL) := cal_mk F26 b26 (PySem.W.mg_of X G a26) (ok__law_tried F26 R (Y24.mono (by decide)) (Y25.mono (by decide)) (CalU.mono U23 (by decide)))
  have C27 : Cal l.prog w K mg base 6 "_law_choosing" ["many", "some"] spChg := cal_mk F27 b27 (PySem.W.mg_of X G a27) (ok__law_choosing F27 R (Y10.mono (by decide)) (CalU.mono U23 (by decide)))
  exact (ok_law F28 (C1.mono (by decide)) (C2.mono (by decide)) (C3.mono (by decide)) (C17.mono (by decide)) (C26.mono (by decide)) (C27.mono (by decide)) z_range).mono (by decide)
theorem walk {l : PySem.W.OpenLaw} {q : Program} {loose : List Str} {XP : (Str → Option Value) → Heap → Prop} {YP : World → Heap → Prop} {d : DefRec} {K : Params → PySem.W.Frag} (hn : l.most = some 63) (hdf : d.params.defaults = [])
    (hY : ∀ (w : World) (h : Heap), YP w h → (K w.params).In h)
    (F : ∀ (w : World) (mg : Str → Option Value) (fa : Addr) (h : Heap), (K w.params).In h → h.Ns mainGlobals mg → mg d.name = some (.ref fa) →
      ∃ fd : FuncData, (∀ (s : Shared) (u : Value), BindsTo s fd ⟨[u], []⟩ [("script", u)]) ∧ ∀ base : Heap, (K w.params).In base → base.Ns mainGlobals mg → FnOk l.prog w (K w.params) mg base CX0 65 fa fd ["script"] (spLaw (K w.params))) :
    PySem.W.WalkO q loose XP YP l.row.toRowW d [] (fun f vs => PySem.call f vs) :=
  L2.walk_of (n := 63) (k := 65) (x := "script") (CX := fun _ => CX0) (sp := fun w => spLaw (K w.params)) hn (by decide) hdf ⟨rfl, by decide, by decide⟩ hY F (fun _ _ a ns hl _ hS => ⟨a, ns, rfl, hS, hl, fun _ => rfl⟩) fun _ _ _ _ _ z => z
end CF
open PySem PySem.W PyProof.Rows
set_option maxRecDepth 100000 in
set_option maxHeartbeats 0 in
theorem PySem.Challenge.cw_choicefigures_k14_refused_holds : PySem.Challenge.rw_choicefigures_k14_refused.Holds := by
  w_on; o_law; k_head; (case hw => w_witness2)
  k_fill
  refine CF.walk (l := PySem.Challenge.rw_choicefigures_k14_refused) rfl rfl (fun w h Y => PySem.W.kIn_of Y) ?F
  case F =>
    intro w mg fa h KX G hmg
    refine' CF.all_mk KX G hmg ?a1 ?l1 ?c1 ?k1 ?a2 ?l2 ?c2 ?k2 ?a3 ?l3 ?c3 ?k3 ?a4 ?l4 ?c4 ?k4 ?a5 ?l5 ?c5 ?k5 ?a6 ?l6 ?c6 ?k6 ?a7 ?l7 ?c7 ?k7 ?a8 ?l8 ?c8 ?k8 ?a9 ?l9 ?c9 ?k9 ?a10 ?l10 ?c10 ?k10 ?a11 ?l11 ?c11 ?k11 ?a12 ?l12 ?c12 ?k12 ?a13 ?l13 ?c13 ?k13 ?a14 ?l14 ?c14 ?k14 ?a15 ?l15 ?c15 ?k15 ?a16 ?l16 ?c16 ?k16 ?a17 ?l17 ?c17 ?k17 ?a18 ?l18 ?c18 ?k18 ?a19 ?l19 ?c19 ?k19 ?a20 ?l20 ?c20 ?k20 ?a21 ?l21 ?c21 ?k21 ?a22 ?l22 ?c22 ?k22 ?a23 ?l23 ?c23 ?k23 ?a24 ?l24 ?c24 ?k24 ?a25 ?l25 ?c25 ?k25 ?a26 ?l26 ?c26 ?k26 ?a27 ?l27 ?c27 ?k27 ?a28 ?l28 ?c28 ?k28 ?aP ?lP ?tP ?zP ?vP ?aM ?n_cE ?n_cP ?n_cM ?n_cL ?n_cT ?q_cE ?p_cP ?p_cM ?p_cL ?p_cT ?p_cPcM ?p_cPcL ?p_cPcT ?p_cMcL ?p_cMcT ?p_cLcT ?p_nd ?y_len ?y_range ?y_min ?y_max ?y_isinstance ?y_ValueError
    (case a1 => k_is); (case l1 => k_is); (case c1 => k_is); (case k1 => k_is)
    (case a2 => k_is); (case l2 => k_is); (case c2 => k_is); (case k2 => k_is)
    (case a3 => k_is); (case l3 => k_is); (case c3 => k_is); (case k3 => k_is)
    (case a4 => k_is); (case l4 => k_is); (case c4 => k_is); (case k4 => k_is)
    (case a5 => k_is); (case l5 => k_is); (case c5 => k_is); (case k5 => k_is)
    (case a6 => k_is); (case l6 => k_is); (case c6 => k_is); (case k6 => k_is)
    (case a7 => k_is); (case l7 => k_is); (case c7 => k_is); (case k7 => k_is)
    (case a8 => k_is); (case l8 => k_is); (case c8 => k_is); (case k8 => k_is)
    (case a9 => k_is); (case l9 => k_is); (case c9 => k_is); (case k9 => k_is)
    (case a10 => k_is); (case l10 => k_is); (case c10 => k_is); (case k10 => k_is)
    (case a11 => k_is); (case l11 => k_is); (case c11 => k_is); (case k11 => k_is)
    (case a12 => k_is); (case l12 => k_is); (case c12 => k_is); (case k12 => k_is)
    (case a13 => k_is); (case l13 => k_is); (case c13 => k_is); (case k13 => k_is)
    (case a14 => k_is); (case l14 => k_is); (case c14 => k_is); (case k14 => k_is)
    (case a15 => k_is); (case l15 => k_is); (case c15 => k_is); (case k15 => k_is)
    (case a16 => k_is); (case l16 => k_is); (case c16 => k_is); (case k16 => k_is)
    (case a17 => k_is); (case l17 => k_is); (case c17 => k_is); (case k17 => k_is)
    (case a18 => k_is); (case l18 => k_is); (case c18 => k_is); (case k18 => k_is)
    (case a19 => k_is); (case l19 => k_is); (case c19 => k_is); (case k19 => k_is)
    (case a20 => k_is); (case l20 => k_is); (case c20 => k_is); (case k20 => k_is)
    (case a21 => k_is); (case l21 => k_is); (case c21 => k_is); (case k21 => k_is)
    (case a22 => k_is); (case l22 => k_is); (case c22 => k_is); (case k22 => k_is)
    (case a23 => k_is); (case l23 => k_is); (case c23 => k_is); (case k23 => k_is)
    (case a24 => k_is); (case l24 => k_is); (case c24 => k_is); (case k24 => k_is)
    (case a25 => k_is); (case l25 => k_is); (case c25 => k_is); (case k25 => k_is)
    (case a26 => k_is); (case l26 => k_is); (case c26 => k_is); (case k26 => k_is)
    (case a27 => k_is); (case l27 => k_is); (case c27 => k_is); (case k27 => k_is)
    (case a28 => k_is); (case l28 => k_is); (case c28 => k_is); (case k28 => k_is)
    (case aP => k_is); (case lP => k_is); (case tP => rfl); (case zP => decide)
    (case vP => exact (.cons ⟨_, rfl⟩ (.cons ⟨_, rfl⟩ (.cons ⟨_, rfl⟩ (.cons ⟨_, rfl⟩ (.cons ⟨_, rfl⟩ (.cons ⟨_, rfl⟩ (.cons ⟨_, rfl⟩ (.cons ⟨_, rfl⟩ (.cons ⟨_, rfl⟩ (.cons ⟨_, rfl⟩ (.cons ⟨_, rfl⟩ (.cons ⟨_, rfl⟩ (.cons ⟨_, rfl⟩ (.cons ⟨_, rfl⟩ (.cons ⟨_, rfl⟩ (.cons ⟨_, rfl⟩ (.cons ⟨_, rfl⟩ (.cons ⟨_, rfl⟩ (.cons ⟨_, rfl⟩ (.cons ⟨_, rfl⟩ (.cons ⟨_, rfl⟩ (.cons ⟨_, rfl⟩ (.cons ⟨_, rfl⟩ (.cons ⟨_, rfl⟩ (.cons ⟨_, rfl⟩ .nil))))))))))))))))))))))))))
    (case aM => k_is)
    (case n_cE => k_is)
    (case n_cP => k_is)
    (case n_cM => k_is)
    (case n_cL => k_is)
    (case n_cT => k_is)
    (case q_cE => k_exc)
    (case p_cP => exact ⟨by k_exc, by k_is, by k_is, by k_is, by k_is, by k_is, by k_is, by k_is, by k_is, by k_is⟩)
    (case p_cM => exact ⟨by k_exc, by k_is, by k_is, by k_is, by k_is, by k_is, by k_is, by k_is, by k_is, by k_is⟩)
    (case p_cL => exact ⟨by k_exc, by k_is, by k_is, by k_is, by k_is, by k_is, by k_is, by k_is, by k_is, by k_is⟩)
    (case p_cT => exact ⟨by k_exc, by k_is, by k_is, by k_is, by k_is, by k_is, by k_is, by k_is, by k_is, by k_is⟩)
    (case p_cPcM => exact ⟨by k_is, by k_is⟩)
    (case p_cPcL => exact ⟨by k_is, by k_is⟩)
    (case p_cPcT => exact ⟨by k_is, by k_is⟩)
    (case p_cMcL => exact ⟨by k_is, by k_is⟩)
    (case p_cMcT => exact ⟨by k_is, by k_is⟩)
    (case p_cLcT => exact ⟨by k_is, by k_is⟩)
    (case p_nd => decide)
    (case y_len => k_is); (case y_range => k_is); (case y_min => k_is); (case y_max => k_is); (case y_isinstance => k_is); (case y_ValueError => k_is)
#print axioms PySem.Challenge.cw_choicefigures_k14_refused_holds
