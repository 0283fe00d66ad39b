import PyProof.Rows.All
import Wide.All
import OpenK.AllK
import Wide.FinOn
import Lean
import PyProof.EqAt
import PyProof.EqKinds
import PyProof.TupleCall
import PySem.Challenge.RW_morethanhalf_k06_answers_that_can_be

-- CHANGE: your row's module here, as the last of these rows
set_option Elab.async false
set_option linter.all false
set_option maxRecDepth 100000
/-! THE HAND LAYER, for ints, bools, texts, own classes, LISTS and tuples (index, slices, in, append, pop ..), calls, loops. Paste it whole ahead of your own text; what your proof does not reach may be deleted. -/
namespace L2
open PySem PySem.Spec PyProof.Rows

/-- a key: an int or a str -/
abbrev Key := Sum Int Str
def keyIs : Key → Value → Bool
  | .inl k, v => Value.isInt k v
  | .inr x, v => Value.isStrOf x v
def keyH (w : World) : Key → Int
  | .inl k => hashInt k
  | .inr x => hashStr w x
theorem keyIs_shape : ∀ {k : Key} {v : Value}, keyIs k v = true → (∃ i t, k = Sum.inl i ∧ v = Value.int i t) ∨ (∃ x t, k = Sum.inr x ∧ v = Value.str x t)
  | .inl i, v, h => by
    obtain ⟨t, e⟩ := Value.isInt_shape (k := i) (v := v) h
    exact .inl ⟨i, t, rfl, e⟩
  | .inr x, v, h => by
    obtain ⟨t, e⟩ := Value.isStrOf_shape (x := x) (v := v) h
    exact .inr ⟨x, t, rfl, e⟩
theorem keyIs_int (i : Int) (t : Tok) : keyIs (.inl i) (.int i t) = true := by simp [keyIs, Value.isInt]
theorem keyIs_str (x : Str) (t : Tok) : keyIs (.inr x) (.str x t) = true := by simp [keyIs, Value.isStrOf]
theorem key_ll (a b : Int) : decide ((Sum.inl a : Key) = Sum.inl b) = (a == b) := by
  by_cases e : a = b
  · subst e; simp
  · have h : ¬ (Sum.inl a : Key) = Sum.inl b := fun q => e (Sum.inl.inj q)
    rw [decide_eq_false h]
    exact (beq_eq_false_iff_ne.mpr e).symm
theorem key_rr (a b : Str) : decide ((Sum.inr a : Key) = Sum.inr b) = decide (a = b) := by
  by_cases e : a = b
  · subst e; simp
  · have h : ¬ (Sum.inr a : Key) = Sum.inr b := fun q => e (Sum.inr.inj q)
    rw [decide_eq_false h, decide_eq_false e]
theorem key_lr (a : Int) (b : Str) : decide ((Sum.inl a : Key) = Sum.inr b) = false := decide_eq_false (fun q => nomatch q)
theorem key_rl (a : Str) (b : Int) : decide ((Sum.inr a : Key) = Sum.inl b) = false := decide_eq_false (fun q => nomatch q)

def mixKind (prog : Program) (w : World) : PySem.KeyKind prog w Key where
  is := keyIs
  hash := keyH w
  inj := fun v a b ha hb => by
    rcases keyIs_shape ha with ⟨i, t, rfl, rfl⟩ | ⟨x, t, rfl, rfl⟩
    · rcases keyIs_shape hb with ⟨j, u, rfl, e⟩ | ⟨y, u, rfl, e⟩
      · injection e with e1 _; rw [e1]
      · exact nomatch e
    · rcases keyIs_shape hb with ⟨j, u, rfl, e⟩ | ⟨y, u, rfl, e⟩
      · exact nomatch e
      · injection e with e1 _; rw [e1]
  byValue := fun k v h => by
    rcases keyIs_shape h with ⟨i, t, rfl, rfl⟩ | ⟨x, t, rfl, rfl⟩ <;> rfl
  pyHash := fun hv h => by
    rcases keyIs_shape hv with ⟨i, t, rfl, rfl⟩ | ⟨x, t, rfl, rfl⟩
    · exact wpAny_pyHash_int h
    · exact wpAny_pyHash_str h
  eqBool := fun hu hv h => by
    rcases keyIs_shape hu with ⟨i, t, rfl, rfl⟩ | ⟨x, t, rfl, rfl⟩
    · rcases keyIs_shape hv with ⟨j, u, rfl, rfl⟩ | ⟨y, u, rfl, rfl⟩
      · rw [key_ll] at h; exact wpAny_eqBool_int h
      · rw [key_lr] at h; exact SeqAt.EqAt.int_str i t y u _ _ _ _ h
    · rcases keyIs_shape hv with ⟨j, u, rfl, rfl⟩ | ⟨y, u, rfl, rfl⟩
      · rw [key_rl] at h; exact SeqAt.EqAt.str_int x t j u _ _ _ _ h
      · rw [key_rr] at h; exact wpAny_eqBool_str h
  «strs» := fun k x t v h => by
    rcases keyIs_shape h with ⟨i, u, rfl, e⟩ | ⟨y, u, rfl, e⟩
    · exact nomatch e
    · injection e with e1 _
      subst e1
      cases v <;> rfl

theorem mixKind_is (prog : Program) (w : World) (k : Key) (v : Value) : (mixKind prog w).is k v = keyIs k v := rfl
theorem mixKind_int (prog : Program) (w : World) (i : Int) (t : Tok) : (mixKind prog w).is (.inl i) (.int i t) = true := keyIs_int i t
theorem mixKind_str (prog : Program) (w : World) (x : Str) (t : Tok) : (mixKind prog w).is (.inr x) (.str x t) = true := keyIs_str x t
end L2

namespace L2
open PySem PySem.Spec PyProof.Rows

/-- a value, without the heap -/
inductive V where
  | non | bl (b : Bool) | int (i : Int) | str (x : Str) | byt (b : Array UInt8) | flt (b : UInt64) | ref (a : Addr) | ty (n : String)
  deriving DecidableEq

def RelV : V → Value → Prop
  | .non, u => u = Value.none
  | .bl b, u => u = Value.bool b
  | .int i, u => ∃ t, u = Value.int i t
  | .str x, u => ∃ t, u = Value.str x t
  | .byt b, u => ∃ t, u = Value.bytes b t
  | .flt b, u => ∃ t, u = Value.float b t
  | .ref a, u => u = Value.ref a
  | .ty n, u => u = Value.type n

abbrev Vals : List V → List Value → Prop := Paired RelV
theorem Vals.length {xs : List V} {us : List Value} (r : Vals xs us) : xs.length = us.length := Paired.length r
theorem Vals.get : ∀ {xs : List V} {us : List Value} {i : Nat} {x : V}, Vals xs us → xs[i]? = some x → ∃ u, us[i]? = some u ∧ RelV x u
  | _, _, _, _, .nil, e => by simp at e
  | _, _, 0, _, .cons r _, e => by simp at e; subst e; exact ⟨_, rfl, r⟩
  | _, _, i + 1, x, .cons _ t, e => by
    obtain ⟨u, h1, h2⟩ := Vals.get (i := i) (x := x) t (by simpa using e)
    exact ⟨u, by simpa using h1, h2⟩
theorem Vals.set {x : V} {u : Value} (r : RelV x u) : ∀ {xs : List V} {us : List Value} (i : Nat), Vals xs us → Vals (xs.set i x) (us.set i u)
  | _, _, _, .nil => .nil
  | _, _, 0, .cons _ t => .cons r t
  | _, _, i + 1, .cons q t => .cons q (Vals.set r i t)
theorem Vals.append : ∀ {xs ys : List V} {us ws : List Value}, Vals xs us → Vals ys ws → Vals (xs ++ ys) (us ++ ws)
  | _, _, _, _, .nil, s => s
  | _, _, _, _, .cons r t, s => .cons r (Vals.append t s)
theorem Vals.take : ∀ {xs : List V} {us : List Value} (n : Nat), Vals xs us → Vals (xs.take n) (us.take n)
  | _, _, 0, _ => .nil
  | _, _, _ + 1, .nil => .nil
  | _, _, n + 1, .cons r t => .cons r (Vals.take n t)
theorem Vals.drop : ∀ {xs : List V} {us : List Value} (n : Nat), Vals xs us → Vals (xs.drop n) (us.drop n)
  | _, _, 0, r => r
  | _, _, _ + 1, .nil => .nil
  | _, _, n + 1, .cons _ t => Vals.drop n t
theorem Vals.none_of : ∀ {xs : List V} {us : List Value} {i : Nat}, Vals xs us → xs[i]? = none → us[i]? = none := fun {xs us i} r e => by
  have h1 := r.length
  have h2 : xs.length ≤ i := List.getElem?_eq_none_iff.mp e
  exact List.getElem?_eq_none_iff.mpr (by omega)

def RelO : Option V → Option Value → Prop
  | some v, some u => RelV v u
  | none, none => True
  | _, _ => False
def KV {κ : Type} : List (κ × V) → List (κ × Value) → Prop := Paired fun (p : κ × V) (q : κ × Value) => p.1 = q.1 ∧ RelV p.2 q.2

/-- a key of a dict (00_mix): an int or a text -/
def kV : Key → V
  | .inl i => .int i
  | .inr x => .str x

/-- what stands at a tracked address -/
inductive HO where
  /-- a list -/
  | lst (xs : List V)
  /-- a tuple (never changes) -/
  | tup (xs : List V)
  /-- a dict whose keys are ints and texts; one whose keys are tuples of ints and texts (the empty one is both) -/
  | dK (kvs : List (Key × V)) | dT (kvs : List (List Key × V))
  /-- a set of ints: its members, its size -/
  | set (S : Int → Bool) (n : Nat)
  /-- an instance of the class at C, its dict at dx, its attributes -/
  | ins (C dx : Addr) (fs : List (Str × V))
  /-- the dict of the instance at x -/
  | own (x : Addr)
  /-- the dict of an exception -/
  | xd (fs : List (Str × V))
  /-- a bound method, f of x -/
  | met (f x : Addr)
  /-- a range object lo, lo + 1, .. below hi -/
  | rng (lo hi : Int)
  /-- a thing that is known to the object (the script; a dict while a loop walks it): read, never written while it is so -/
  | frz (o : Obj) (u : HO)
  /-- a code object's table -/
  | tbl (ps : Array Value)
  /-- any other thing, by what is true of its one object (a def of one's own: SetO a S n := HO.ext fun h => ..) -/
  | ext (φ : Heap → Prop)

abbrev Hp := Addr → Option HO
def upd (H : Hp) (a : Addr) (o : HO) : Hp := fun b => if b = a then some o else H b
theorem upd_same {H : Hp} {a : Addr} {o : HO} : upd H a o a = some o := by unfold upd; rw [if_pos rfl]
theorem upd_ne {H : Hp} {a b : Addr} {o : HO} (h : b ≠ a) : upd H a o b = H b := by unfold upd; rw [if_neg h]
theorem upd_upd {H : Hp} {a : Addr} {o u : HO} : upd (upd H a o) a u = upd H a u := by
  funext b; unfold upd; split <;> rfl
/-- two objects of different content stand apart -/
theorem ne_of {H : Hp} {a b : Addr} {o u : HO} (h : H a = some o) (h' : H b = some u) (d : o ≠ u) : a ≠ b := by
  intro e; subst e; rw [h] at h'; exact d (Option.some.inj h')
theorem ne_of_none {H : Hp} {a b : Addr} {o : HO} (h : H a = some o) (h' : H b = none) : a ≠ b := by
  intro e; subst e; rw [h] at h'; cases h'

section
variable (P : Program) (w : World)
def ObjOk (H : Hp) (h : Heap) (a : Addr) : HO → Prop
  | .lst xs => xs.length ≤ sizeLine ∧ ∃ (its : List Value) (n : Nat), Vals xs its ∧ h.get? a = some { cls := .type "list", data := .seq its.toArray n }
  | .tup xs => xs.length ≤ sizeLine ∧ ∃ its : List Value, Vals xs its ∧ IsTup h a its.toArray
  | .dK kvs => kvs.length ≤ sizeLine ∧ (a == sysModules) = false ∧ ∃ vs, KV kvs vs ∧ h.DictOf (mixKind P w) a vs
  | .dT kvs => kvs.length ≤ sizeLine ∧ (a == sysModules) = false ∧ ∃ xs : List (List Key × Addr × Value),
      Paired (fun (p : List Key × V) (q : List Key × Addr × Value) => p.1 = q.1 ∧ H q.2.1 = some (.tup (p.1.map kV)) ∧ RelV p.2 q.2.2) kvs xs ∧
      ∃ o es ep, h.get? a = some o ∧ o.ExactDict ∧ o.data = .dict es ep ∧ es.toList = xs.map (entryOfKey (tupleKind (mixKind P w))) ∧ (xs.map (·.1)).Nodup
  | .set S n => h.SetOf (intKind P w) a S n
  | .ins C dx fs => H dx = some (.own a) ∧ fs.length ≤ 1000 ∧ dx ≠ a ∧ h.get? a = some (PySem.W.instObj C dx) ∧
      ∃ mA, h.Ns1 dx mA ∧ (∀ f, RelO (fs.lookup f) (mA f)) ∧ PySem.Within mA (fs.map (·.1))
  | .own _ => ∃ o, h.get? a = some o
  | .xd fs => ∃ mA, h.Ns1 a mA ∧ ∀ f, RelO (fs.lookup f) (mA f)
  | .rng lo hi => ∃ t u v, h.get? a = some { cls := .type "range", data := .fields #[.int lo t, .int hi u, .int 1 v] }
  | .frz o u => h.get? a = some o ∧ ObjOk H h a u
  | .tbl ps => h.get? a = some { cls := .none, data := .fields ps }
  | .met f x => h.get? a = some (PySem.W.methodObj (.ref f) (.ref x))
  | .ext φ => φ h ∧ (∃ o, h.get? a = some o) ∧ ∀ h1 h2 : Heap, φ h1 → (∀ o, h1.get? a = some o → h2.get? a = some o) → φ h2
/-- the abstract heap is held -/
def HOk (H : Hp) (h : Heap) : Prop := ∀ a o, H a = some o → ObjOk P w H h a o
end

section
variable {P : Program} {w : World} {H H' : Hp} {h h' : Heap} {a : Addr} {o : HO}
theorem ObjOk.lt (x : ObjOk P w H h a o) : a < h.objs.size := by
  cases o with
  | lst xs => obtain ⟨_, _, _, _, e⟩ := x; exact Heap.lt_size e
  | tup xs => obtain ⟨_, _, _, p⟩ := x; exact p.lt
  | dK kvs => obtain ⟨_, _, _, _, o, _, _, e, _⟩ := x; exact Heap.lt_size e
  | dT kvs => obtain ⟨_, _, _, _, o, _, _, e, _⟩ := x; exact Heap.lt_size e
  | set S n => obtain ⟨o, _, _, _, e, _⟩ := x; exact Heap.lt_size e
  | ins C dx fs => obtain ⟨_, _, _, e, _⟩ := x; exact Heap.lt_size e
  | own y => obtain ⟨_, e⟩ := x; exact Heap.lt_size e
  | xd fs => obtain ⟨_, ⟨_, _, _, e, _⟩, _⟩ := x; exact Heap.lt_size e
  | rng lo hi => obtain ⟨_, _, _, e⟩ := x; exact Heap.lt_size e
  | frz ob u => obtain ⟨e, _⟩ := x; exact Heap.lt_size e
  | tbl ps => exact Heap.lt_size (show h.get? a = some _ from x)
  | met f y => exact Heap.lt_size (show h.get? a = some _ from x)
  | ext φ => obtain ⟨_, ⟨_, e⟩, _⟩ := x; exact Heap.lt_size e
theorem Paired.mapP {α β : Type} {F G : α → β → Prop} : ∀ {l₁ : List α} {l₂ : List β}, Paired F l₁ l₂ → (∀ a b, F a b → G a b) → Paired G l₁ l₂
  | _, _, .nil, _ => .nil
  | _, _, .cons r t, f => .cons (f _ _ r) (Paired.mapP t f)
theorem Paired.imp' {α β : Type} {F G : α → β → Prop} (f : ∀ a b, F a b → G a b) {l₁ : List α} {l₂ : List β} (r : Paired F l₁ l₂) : Paired G l₁ l₂ := Paired.mapP r f
/-- what an object's description leans on: its own object, its own dict, the tuples -/
theorem ObjOk.stay (x : ObjOk P w H h a o) (k : ∀ b u, (b = a ∨ H b = some (.own a)) → h.get? b = some u → h'.get? b = some u)
    (ho : ∀ b, H b = some (.own a) → H' b = some (.own a)) (ht : ∀ b xs, H b = some (.tup xs) → H' b = some (.tup xs)) : ObjOk P w H' h' a o := by
  induction o with
  | lst xs => obtain ⟨z, its, n, r, e⟩ := x; exact ⟨z, its, n, r, k _ _ (.inl rfl) e⟩
  | tup xs => obtain ⟨z, its, r, ob, e, c⟩ := x; exact ⟨z, its, r, ob, k _ _ (.inl rfl) e, c⟩
  | dK kvs => obtain ⟨z, y, vs, r, ob, es, ep, e, c⟩ := x; exact ⟨z, y, vs, r, ob, es, ep, k _ _ (.inl rfl) e, c⟩
  | dT kvs =>
    obtain ⟨z, y, xs, r, ob, es, ep, e, c⟩ := x
    exact ⟨z, y, xs, Paired.mapP r fun p q z => ⟨z.1, ht _ _ z.2.1, z.2.2⟩, ob, es, ep, k _ _ (.inl rfl) e, c⟩
  | set S n => obtain ⟨ob, es, ep, t, e, c⟩ := x; exact ⟨ob, es, ep, t, k _ _ (.inl rfl) e, c⟩
  | ins C dx fs =>
    obtain ⟨d, z, ne, e, mA, ⟨od, es, ep, e2, c⟩, r⟩ := x
    exact ⟨ho _ d, z, ne, k _ _ (.inl rfl) e, mA, ⟨od, es, ep, k _ _ (.inr d) e2, c⟩, r⟩
  | own y => obtain ⟨ob, e⟩ := x; exact ⟨ob, k _ _ (.inl rfl) e⟩
  | xd fs => obtain ⟨mA, ⟨od, es, ep, e, c⟩, r⟩ := x; exact ⟨mA, ⟨od, es, ep, k _ _ (.inl rfl) e, c⟩, r⟩
  | rng lo hi => obtain ⟨t, u, v, e⟩ := x; exact ⟨t, u, v, k _ _ (.inl rfl) e⟩
  | frz ob u ih => obtain ⟨e, q⟩ := x; exact ⟨k _ _ (.inl rfl) e, ih q⟩
  | tbl ps =>
    have e : h.get? a = some { cls := .none, data := .fields ps } := x
    show h'.get? a = some { cls := .none, data := .fields ps }
    exact k a _ (.inl rfl) e
  | met f y =>
    have e : h.get? a = some (PySem.W.methodObj (.ref f) (.ref y)) := x
    show h'.get? a = some (PySem.W.methodObj (.ref f) (.ref y))
    exact k a _ (.inl rfl) e
  | ext φ => obtain ⟨p, ⟨o, e⟩, st⟩ := x; exact ⟨st _ _ p fun o q => k _ _ (.inl rfl) q, ⟨o, k _ _ (.inl rfl) e⟩, st⟩
theorem HOk.lt (x : HOk P w H h) (e : H a = some o) : a < h.objs.size := (x a o e).lt
theorem HOk.fresh (x : HOk P w H h) (e : h.objs.size ≤ a) : H a = none := by
  cases q : H a with
  | none => rfl
  | some u => exact absurd (Nat.lt_of_lt_of_le (x.lt q) e) (Nat.lt_irrefl _)
/-- every object of the heap is kept -/
theorem HOk.kept (x : HOk P w H h) (k : ∀ b u, h.get? b = some u → h'.get? b = some u) : HOk P w H h' := fun a o e =>
  (x a o e).stay (fun b u _ q => k b u q) (fun _ q => q) fun _ _ q => q
/-- a new object is laid and tracked -/
theorem HOk.laid (x : HOk P w H h) (k : ∀ b u, h.get? b = some u → h'.get? b = some u) (hp : h.objs.size ≤ a) (new : ObjOk P w (upd H a o) h' a o) : HOk P w (upd H a o) h' := fun b u e => by
  have hn := x.fresh hp
  by_cases hb : b = a
  · subst hb; rw [upd_same] at e; cases e; exact new
  · rw [upd_ne hb] at e
    exact (x b u e).stay (fun c v _ q => k c v q) (fun c q => by rw [upd_ne (ne_of_none q hn)]; exact q) fun c xs q => by rw [upd_ne (ne_of_none q hn)]; exact q
end

/-- what may be read as u: it is u, or a known u -/
def Rd (H : Hp) (a : Addr) (u : HO) : Prop := H a = some u ∨ ∃ o, H a = some (.frz o u)
theorem Rd.of {H : Hp} {a : Addr} {u : HO} (h : H a = some u) : Rd H a u := .inl h
theorem Rd.ok {P : Program} {w : World} {H : Hp} {h : Heap} {a : Addr} {u : HO} (r : Rd H a u) (x : HOk P w H h) : ObjOk P w H h a u := by
  rcases r with r | ⟨o, r⟩
  · exact x a u r
  · obtain ⟨_, q⟩ := x a _ r
    exact q
/-- what may be written -/
def Mut : Option HO → Prop
  | some (.lst _) => True
  | some (.dK _) => True
  | some (.dT _) => True
  | some (.set _ _) => True
  | some (.ins _ _ _) => True
  | some (.ext _) => True
  | _ => False
section
variable {P : Program} {w : World} {H : Hp} {h h' : Heap} {x e : Addr} {o' : HO}
/-- the object at e is changed: x itself, or the dict of the instance x -/
theorem HOk.write (ok : HOk P w H h) (mu : Mut (H x)) (he : e = x ∨ H e = some (.own x)) (k : ∀ b u, b ≠ e → h.get? b = some u → h'.get? b = some u) (heo : ∃ u, h'.get? e = some u)
    (new : ObjOk P w (upd H x o') h' x o') : HOk P w (upd H x o') h' := fun b u q => by
  have nown : ∀ c y, H c = some (.own y) → c ≠ x := fun c y r z => by subst z; rw [r] at mu; exact mu
  have ntup : ∀ c xs, H c = some (.tup xs) → c ≠ x := fun c xs r z => by subst z; rw [r] at mu; exact mu
  by_cases hb : b = x
  · subst hb; rw [upd_same] at q; cases q; exact new
  · rw [upd_ne hb] at q
    by_cases hbe : b = e
    · have q' : H b = some (.own x) := by
        rcases he with z | z
        · exact absurd (hbe.trans z) hb
        · rw [hbe]; exact z
      rw [q] at q'; cases q'
      obtain ⟨v, hv⟩ := heo
      exact ⟨v, by rw [hbe]; exact hv⟩
    · refine (ok b u q).stay (fun c v hc r => k c v ?_ r) (fun c r => by rw [upd_ne (nown c b r)]; exact r) fun c xs r => by rw [upd_ne (ntup c xs r)]; exact r
      rcases hc with rfl | hc
      · exact hbe
      · rintro rfl
        rcases he with z | z
        · exact nown c b hc z
        · rw [hc] at z; cases z; exact hb rfl
end

/-! ### kept unless tracked; of the frames at fs (the callers') the slots may change (an exception that passes writes there); of the records at ex (iterators) nothing is said -/
structure Un (fs ex : List Addr) (H H' : Hp) (h h' : Heap) : Prop where
  keep : ∀ b o, h.get? b = some o → H b = none → b ∉ fs → b ∉ ex → h'.get? b = some o
  slot : ∀ b o, h.get? b = some o → H b = none → b ∈ fs → b ∉ ex → ∃ sl, h'.get? b = some { o with slots := sl }
  free : ∀ b o, h.get? b = some o → H b = none → b ∉ ex → H' b = none
  there : ∀ b o, h.get? b = some o → b ∉ ex → ∃ o', h'.get? b = some o'
  tups : ∀ b xs, H b = some (.tup xs) → H' b = some (.tup xs)
  frzs : ∀ b o u, H b = some (.frz o u) → H' b = some (.frz o u)
  tbls : ∀ b ps, H b = some (.tbl ps) → ∃ more, H' b = some (.tbl (ps ++ more))
section
variable {fs fs' ex ex' : List Addr} {H H1 H2 : Hp} {h h1 h2 h' : Heap} {a x e : Addr} {o : HO}
theorem Un.any (u : Un fs ex H H1 h h1) {b : Addr} {ob : Obj} (q : h.get? b = some ob) (n : H b = none) (hx : b ∉ ex) : ∃ sl, h1.get? b = some { ob with slots := sl } := by
  by_cases hb : b ∈ fs
  · exact u.slot b ob q n hb hx
  · exact ⟨ob.slots, u.keep b ob q n hb hx⟩
theorem Un.trans (a : Un fs ex H H1 h h1) (b : Un fs ex H1 H2 h1 h2) : Un fs ex H H2 h h2 where
  keep := fun c ob q n hc hx => b.keep c ob (a.keep c ob q n hc hx) (a.free c ob q n hx) hc hx
  slot := fun c ob q n hc hx => by
    obtain ⟨sl, e1⟩ := a.slot c ob q n hc hx
    obtain ⟨sl', e2⟩ := b.slot c _ e1 (a.free c ob q n hx) hc hx
    exact ⟨sl', e2⟩
  free := fun c ob q n hx => by
    obtain ⟨o', e1⟩ := a.there c ob q hx
    exact b.free c o' e1 (a.free c ob q n hx) hx
  there := fun c ob q hx => by
    obtain ⟨o', e1⟩ := a.there c ob q hx
    exact b.there c o' e1 hx
  tups := fun c xs q => b.tups c xs (a.tups c xs q)
  frzs := fun c ob xs q => b.frzs c ob xs (a.frzs c ob xs q)
  tbls := fun c ps q => by
    obtain ⟨m1, e1⟩ := a.tbls c ps q
    obtain ⟨m2, e2⟩ := b.tbls c _ e1
    exact ⟨m1 ++ m2, by rw [e2, Array.append_assoc]⟩
theorem Un.kept (k : ∀ b u, h.get? b = some u → h'.get? b = some u) : Un fs ex H H h h' :=
  ⟨fun b ob q _ _ _ => k b ob q, fun b ob q _ _ _ => ⟨ob.slots, k b ob q⟩, fun _ _ _ n _ => n, fun b ob q _ => ⟨ob, k b ob q⟩, fun _ _ q => q, fun _ _ _ q => q, fun _ ps q => ⟨#[], by rw [q]; simp⟩⟩
theorem Un.refl : Un fs ex H H h h := Un.kept fun _ _ q => q
theorem Un.laid (k : ∀ b u, h.get? b = some u → h'.get? b = some u) (hp : h.objs.size ≤ a) (hn : H a = none) : Un fs ex H (upd H a o) h h' where
  keep := fun b u q _ _ _ => k b u q
  slot := fun b u q _ _ _ => ⟨u.slots, k b u q⟩
  free := fun b u q n _ => by rw [upd_ne (Nat.ne_of_lt (Nat.lt_of_lt_of_le (Heap.lt_size q) hp))]; exact n
  there := fun b u q _ => ⟨u, k b u q⟩
  tups := fun b xs q => by rw [upd_ne (ne_of_none q hn)]; exact q
  frzs := fun b u xs q => by rw [upd_ne (ne_of_none q hn)]; exact q
  tbls := fun b ps q => ⟨#[], by rw [upd_ne (ne_of_none q hn), q]; simp⟩
theorem Un.write (mu : Mut (H x)) (he : e = x ∨ H e = some (.own x)) (k : ∀ b u, b ≠ e → h.get? b = some u → h'.get? b = some u) (heo : ∃ u, h'.get? e = some u) : Un fs ex H (upd H x o) h h' := by
  have hx : ∀ b, H b = none → b ≠ x := fun b n z => by subst z; rw [n] at mu; exact mu
  have hb : ∀ b, H b = none → b ≠ e := fun b n z => by
    subst z
    rcases he with r | r
    · exact hx b n r
    · rw [n] at r; cases r
  have hm : ∀ b u, H b = some u → ¬ Mut (some u) → b ≠ x := fun b u q nm z => by subst z; rw [q] at mu; exact nm mu
  refine ⟨fun b u q n _ _ => k b u (hb b n) q, fun b u q n _ _ => ⟨u.slots, k b u (hb b n) q⟩, fun b u q n _ => by rw [upd_ne (hx b n)]; exact n, fun b u q _ => ?_,
    fun b xs q => by rw [upd_ne (hm b _ q fun z => z)]; exact q, fun b u xs q => by rw [upd_ne (hm b _ q fun z => z)]; exact q, fun b ps q => ⟨#[], by rw [upd_ne (hm b _ q fun z => z), q]; simp⟩⟩
  by_cases hbe : b = e
  · subst hbe; exact heo
  · exact ⟨u, k b u hbe q⟩
theorem Un.mono (u : Un fs ex H H1 h h1) (hs : ∀ b ∈ fs, b ∈ fs') (hx : ∀ b ∈ ex, b ∈ ex') : Un fs' ex' H H1 h h1 :=
  ⟨fun b ob q n hb he => u.keep b ob q n (fun z => hb (hs b z)) fun z => he (hx b z), fun _ _ q n _ he => u.any q n fun z => he (hx _ z), fun b ob q n he => u.free b ob q n fun z => he (hx b z), fun b ob q he => u.there b ob q fun z => he (hx b z), u.tups, u.frzs, u.tbls⟩
end

/-! ### the heap without what is tracked -/
def trk (h : Heap) (H : Hp) : List Addr := (List.range h.objs.size).filter fun a => (H a).isSome
def hidT (h : Heap) (H : Hp) : Heap := PySem.W.hideAll h (trk h H)
theorem hidT_size (h : Heap) (H : Hp) : (hidT h H).objs.size = h.objs.size := PySem.W.hideAll_size _ _
theorem hidT_get {h : Heap} {H : Hp} {b : Addr} {o : Obj} (e : h.get? b = some o) (n : H b = none) : (hidT h H).get? b = some o :=
  PySem.W.hideAll_get _ e fun hm => by
    have q : (H b).isSome = true := (List.mem_filter.mp hm).2
    rw [n] at q; simp at q
theorem of_hidT {h : Heap} {H : Hp} {b : Addr} {o : Obj} (e : (hidT h H).get? b = some o) : h.get? b = some o ∧ H b = none := by
  have e' : h.get? b = some o := PySem.W.of_hideAll (trk h H) e
  refine ⟨e', ?_⟩
  cases q : H b with
  | none => rfl
  | some x =>
    have hm : b ∈ trk h H := List.mem_filter.mpr ⟨List.mem_range.mpr (Heap.lt_size e'), by simp [q]⟩
    have z : (hidT h H).get? b = none := PySem.W.hideAll_none (trk h H) hm
    rw [z] at e; cases e

/-! ### OpenK's ledger, filled with every new object but one -/
def allNews (g h : Heap) (L : Addr) : List (Addr × Obj) := (List.range h.objs.size).filterMap fun a => if a = L ∨ (g.get? a).isSome = true then none else (h.get? a).map fun o => (a, o)
theorem mem_allNews {g h : Heap} {L a : Addr} {o : Obj} (h1 : a ≠ L) (h2 : g.get? a = none) (h3 : h.get? a = some o) : (a, o) ∈ allNews g h L :=
  List.mem_filterMap.mpr ⟨a, List.mem_range.mpr (Heap.lt_size h3), by simp [h1, h2, h3]⟩
theorem of_mem_allNews {g h : Heap} {L : Addr} {p : Addr × Obj} (hp : p ∈ allNews g h L) : p.1 ≠ L ∧ g.get? p.1 = none ∧ h.get? p.1 = some p.2 := by
  obtain ⟨b, _, e⟩ := List.mem_filterMap.mp hp
  split at e
  · cases e
  · rename_i hn
    cases q : h.get? b with
    | none => rw [q] at e; simp at e
    | some u =>
      rw [q] at e
      simp only [Option.map_some, Option.some.injEq] at e
      subst e
      refine ⟨fun z => hn (.inl z), ?_, q⟩
      show g.get? b = none
      cases r : g.get? b with
      | none => rfl
      | some v => exact (hn (.inr (by simp [r]))).elim
def rest (g h : Heap) (L d : Addr) : List (Addr × Obj) := (allNews g h L).filter fun p => decide (p.1 ≠ d)
theorem rest_ne {g h : Heap} {L d : Addr} : ∀ p ∈ rest g h L d, p.1 ≠ d := fun p hp => of_decide_eq_true (List.mem_filter.mp hp).2
theorem mem_rest {g h : Heap} {L d a : Addr} {o : Obj} (h1 : a ≠ L) (h2 : g.get? a = none) (h3 : h.get? a = some o) (h4 : a ≠ d) : (a, o) ∈ rest g h L d :=
  List.mem_filter.mpr ⟨mem_allNews h1 h2 h3, decide_eq_true h4⟩
theorem news_all {g h : Heap} {L : Addr} : News g L h (allNews g h L) := fun p hp => let ⟨a, b, c⟩ := of_mem_allNews hp; ⟨c, a, b⟩
theorem news_at {g h : Heap} {L d : Addr} {o : Obj} (h1 : d ≠ L) (h2 : g.get? d = none) (h3 : h.get? d = some o) : News g L h ((d, o) :: rest g h L d) := fun p hp => by
  rcases List.mem_cons.mp hp with rfl | hp
  · exact ⟨h3, h1, h2⟩
  · exact news_all p (List.mem_filter.mp hp).1
/-- behind a rule that changed d alone: all else but the frame is kept -/
theorem kept_of_news {g h h' : Heap} {L d : Addr} {m : Str → Option Value} (k : ∀ b o, g.get? b = some o → h.get? b = some o) (F : Fr g L h' m) (N : News g L h' (rest g h L d)) :
    ∀ b o, b ≠ L → b ≠ d → h.get? b = some o → h'.get? b = some o := fun b o h1 h2 e => by
  cases q : g.get? b with
  | some u =>
    have := k b u q
    rw [e] at this; cases this
    exact F.keep b _ q
  | none => exact (N (b, o) (mem_rest h1 q e h2)).1
end L2

namespace L2
open PySem PySem.Spec PyProof.Rows

/-- the module's facts, over the base: the heap at the law's entry without what is tracked there -/
structure Mod (K : PySem.W.Frag) (mg : Str → Option Value) (base : Heap) : Prop where
  kin : K.In base
  glob : base.Ns mainGlobals mg
  blt : ∃ mb, base.Ns builtinsNs mb ∧ ∀ x : Str, x ≠ "__name__" → mb x = bootBuiltins x
  nolimit : base.NoLimit

/-- the context: a def's body (or a comprehension's block) running. base: fixed through the whole law; s₀, H₀: the entry; outer: the frames whose slots others may change (a def's callers); stack: all frames that run;
   ex: iterators that were made ahead of the entry and are walked here (a comprehension's); fn: the names whose cells were made at the entry (a def: all; a comprehension's block: its own); calm: not within an except suite; pn: pins that every state bears; xe: what is wanted of an exception that leaves the code -/
structure Cx where
  prog : Program
  w : World
  K : PySem.W.Frag
  mg : Str → Option Value
  base : Heap
  A : Around
  N : List Str
  s₀ : Shared
  H₀ : Hp
  env : Env
  outer : List Env
  stack : List Env
  ex : List Addr
  fn : Str → Bool
  calm : Bool
  pn : List (Addr × Obj)
  xe : Value → Shared → Prop
/-- the callers' frames -/
def frs (l : List Env) : List Addr := l.filterMap (·.frame)
abbrev Cx.fs (X : Cx) : List Addr := frs X.outer

def Vis (sc : Scope) (x : Str) : Prop := sc.names.lookup x = some .local ∨ sc.names.lookup x = some .cell ∨ sc.names.lookup x = some .free
def Loc (sc : Scope) (x : Str) : Prop := sc.names.lookup x = some .local ∨ sc.names.lookup x = some .cell
def Look (env : Env) (h : Heap) (m : Str → Option Value) (x : Str) (u : Value) : Prop :=
  (env.kindOf x = some .local ∧ m x = some u) ∨ ((env.kindOf x = some .cell ∨ env.kindOf x = some .free) ∧ ∃ c, env.cells.lookup x = some c ∧ h.IsCell c (some u))

structure Cx.Ok (X : Cx) : Prop where
  mod : Mod X.K X.mg X.base
  kind : X.env.scope.kind = .function
  glob : X.env.globals = mainGlobals
  blt : X.env.builtins = builtinsNs
  above : X.s₀.heap.objs.size ≤ X.env.locals
  inj : ∀ x y c, X.env.cells.lookup x = some c → X.env.cells.lookup y = some c → x = y
  has : ∀ x, (X.env.kindOf x = some .cell ∨ X.env.kindOf x = some .free) → ∃ c, X.env.cells.lookup x = some c
  cab : ∀ x c, X.fn x = true → X.env.cells.lookup x = some c → X.s₀.heap.objs.size ≤ c
  hd : X.calm = true → X.A.handled = none
  frames : X.A.frames = some X.stack
  stk : X.stack = X.outer ∨ (X.stack = X.env :: X.outer ∧ X.env.frame = some X.env.locals)
  exf : ∀ b ∈ X.ex, b ≠ X.env.locals ∧ ∀ x c, X.env.cells.lookup x = some c → c ≠ b
  bs : ∀ b o, X.base.get? b = some o → X.s₀.heap.get? b = some o ∧ X.H₀ b = none
  bsz : X.base.objs.size ≤ X.s₀.heap.objs.size
  noex : ∀ b o, X.base.get? b = some o → b ∉ X.ex
  exfs : ∀ b ∈ X.ex, b ∉ X.fs
  funs : X.s₀.heap.FunFrames X.base X.outer
  frf : ∀ b ∈ X.fs, X.H₀ b = none

structure Inv (X : Cx) (pins : List (Addr × Obj)) (σ : List (Option V)) (H : Hp) (s : Shared) : Prop where
  ok : X.Ok
  os : s.os = X.s₀.os
  bare : AllBare s.gens
  base : Un X.fs X.ex X.H₀ H X.s₀.heap s.heap
  loc : ∃ m, s.heap.Ns X.env.locals m ∧ ∀ (i : Nat) (x : Str) (v : V), X.N[i]? = some x → σ[i]? = some (some v) → Vis X.env.scope x → ∃ u, RelV v u ∧ Look X.env s.heap m x u
  cell : ∀ x c, X.env.cells.lookup x = some c → ∃ v, s.heap.IsCell c v
  free : H X.env.locals = none
  freeC : ∀ x c, X.env.cells.lookup x = some c → H c = none
  pin : ∀ p ∈ X.pn ++ pins, s.heap.get? p.1 = some p.2 ∧ H p.1 = none ∧ p.1 ≠ X.env.locals ∧ p.1 ∉ X.fs ∧ ∀ v, p.2.data ≠ .cell v
  hok : HOk X.prog X.w H s.heap
  len : σ.length = X.N.length

section
variable {X : Cx} {pins : List (Addr × Obj)} {σ : List (Option V)} {H H' : Hp} {s : Shared} {h' : Heap}

theorem Cx.Ok.nofr (ok : X.Ok) {b : Addr} {o : Obj} (e : X.base.get? b = some o) : b ∉ X.fs := fun hb => by
  have := (ok.funs.mem hb).1
  rw [e] at this; cases this
theorem Inv.bs (I : Inv X pins σ H s) : ∀ b o, X.base.get? b = some o → s.heap.get? b = some o ∧ H b = none := fun b o e =>
  ⟨I.base.keep b o (I.ok.bs b o e).1 (I.ok.bs b o e).2 (I.ok.nofr e) (I.ok.noex b o e), I.base.free b o (I.ok.bs b o e).1 (I.ok.bs b o e).2 (I.ok.noex b o e)⟩
theorem Inv.bk (I : Inv X pins σ H s) : ∀ b o, X.base.get? b = some o → s.heap.get? b = some o := fun b o e => (I.bs b o e).1
theorem Inv.mod (I : Inv X pins σ H s) : Mod X.K X.mg X.base := I.ok.mod
theorem Inv.kIn (I : Inv X pins σ H s) : X.K.In s.heap := I.ok.mod.kin.keeps I.bk
theorem Inv.nolimit (I : Inv X pins σ H s) : s.heap.NoLimit := I.ok.mod.nolimit.keeps I.bk
/-- the frame over the base: for OpenK's rules (K.In X.base is I.mod.kin) -/
theorem Inv.fr (I : Inv X pins σ H s) : ∃ m, Fr X.base X.env.locals s.heap m :=
  let ⟨m, hn, _⟩ := I.loc
  ⟨m, hn, I.bk, Nat.le_trans I.ok.bsz I.ok.above⟩
theorem Inv.lt (I : Inv X pins σ H s) : X.env.locals < s.heap.objs.size := let ⟨_, hn, _⟩ := I.loc; hn.lt
theorem Inv.sz (I : Inv X pins σ H s) : X.s₀.heap.objs.size ≤ s.heap.objs.size := Nat.le_trans I.ok.above (Nat.le_of_lt I.lt)
theorem Inv.nofs (I : Inv X pins σ H s) {a : Addr} (h : s.heap.objs.size ≤ a) : a ∉ X.fs := fun hb => by
  obtain ⟨_, o, ho, _⟩ := I.ok.funs.mem hb
  exact absurd (Nat.lt_of_lt_of_le (Heap.lt_size ho) (Nat.le_trans I.sz h)) (Nat.lt_irrefl _)
theorem Inv.cne (I : Inv X pins σ H s) : ∀ x c, X.env.cells.lookup x = some c → c ≠ X.env.locals := fun x c e z => by
  obtain ⟨v, o, ho, hd⟩ := I.cell x c e
  obtain ⟨m, ⟨o', es, ep, ho', hd', _⟩, _⟩ := I.loc
  rw [z, ho'] at ho; cases ho; rw [hd'] at hd; cases hd
theorem Inv.funs (I : Inv X pins σ H s) : s.heap.FunFrames X.base X.outer := by
  have all : ∀ (l : List Env), (∀ b ∈ frs l, b ∈ X.fs) → X.s₀.heap.FunFrames X.base l → s.heap.FunFrames X.base l := by
    intro l
    induction l with
    | nil => intro _ _; trivial
    | cons env r ih =>
      intro hs hl
      obtain ⟨hk, ⟨L, o, hf, hn, ho, hd⟩, hr⟩ := hl
      have hL : L ∈ X.fs := hs L (by unfold frs; rw [List.filterMap_cons, hf]; exact List.mem_cons_self)
      obtain ⟨sl, e⟩ := I.base.slot L o ho (I.ok.frf L hL) hL fun z => I.ok.exfs L z hL
      exact ⟨hk, ⟨L, _, hf, hn, e, hd⟩, ih (fun b hb => hs b (by unfold frs; rw [List.filterMap_cons, hf]; exact List.mem_cons_of_mem _ hb)) hr⟩
  exact all X.outer (fun _ hb => hb) I.ok.funs

/-- the frames that run, for a call -/
theorem Inv.stack (I : Inv X pins σ H s) : s.heap.FunFrames X.base X.stack := by
  rcases I.ok.stk with e | ⟨e, hf⟩
  · rw [e]; exact I.funs
  · rw [e]
    obtain ⟨m, hn, _⟩ := I.loc
    refine .cons (by rw [I.ok.kind]; decide) hf hn ?_ I.funs
    exact Heap.get?_none_of_le (Nat.le_trans I.ok.bsz I.ok.above)
theorem Inv.stkSub (I : Inv X pins σ H s) : ∀ b ∈ frs X.stack, b ∈ X.env.locals :: X.fs := fun b hb => by
  rcases I.ok.stk with e | ⟨e, hf⟩
  · rw [e] at hb; exact List.mem_cons_of_mem _ hb
  · rw [e] at hb
    unfold frs at hb
    rw [List.filterMap_cons, hf] at hb
    exact hb
theorem Inv.stkFree (I : Inv X pins σ H s) : ∀ b ∈ frs X.stack, H b = none := fun b hb => by
  rcases List.mem_cons.mp (I.stkSub b hb) with e | hb
  · rw [e]; exact I.free
  · obtain ⟨_, o, ho, _⟩ := I.ok.funs.mem hb
    exact I.base.free b o ho (I.ok.frf b hb) fun z => I.ok.exfs b z hb

/-- THE STEP: the untracked objects but the frame and the records at ch are kept (the callers' frames up to slots), the frame's map is kept, the new abstract heap is held -/
theorem Inv.step {g' : Array GenState} {t' : Nat} {d' : Drawn} {ch : List Addr} (I : Inv X pins σ H s)
    (hch : ∀ b ∈ ch, (b ∈ X.ex ∨ X.s₀.heap.objs.size ≤ b) ∧ b ≠ X.env.locals ∧ (∀ x c, X.env.cells.lookup x = some c → c ≠ b) ∧ ∀ p ∈ X.pn ++ pins, p.1 ≠ b)
    (keep : ∀ b o, b ≠ X.env.locals → b ∉ X.fs → b ∉ ch → s.heap.get? b = some o → H b = none → h'.get? b = some o)
    (slot : ∀ b o, b ≠ X.env.locals → b ∈ X.fs → b ∉ ch → s.heap.get? b = some o → H b = none → ∃ sl, h'.get? b = some { o with slots := sl }) (free : ∀ b o, b ∉ ch → s.heap.get? b = some o → H b = none → H' b = none)
    (there : ∀ b o, b ∉ ch → s.heap.get? b = some o → ∃ o', h'.get? b = some o')
    (tups : ∀ b xs, H b = some (.tup xs) → H' b = some (.tup xs)) (frzs : ∀ b o u, H b = some (.frz o u) → H' b = some (.frz o u)) (tbls : ∀ b ps, H b = some (.tbl ps) → ∃ more, H' b = some (.tbl (ps ++ more)))
    (ns : ∀ m, s.heap.Ns X.env.locals m → h'.Ns X.env.locals m) (hok : HOk X.prog X.w H' h') (hg : AllBare g') :
    Inv X pins σ H' { s with heap := h', gens := g', drawn := d', toks := t' } := by
  have neL : ∀ b o, X.s₀.heap.get? b = some o → b ≠ X.env.locals := fun b o e => Nat.ne_of_lt (Nat.lt_of_lt_of_le (Heap.lt_size e) I.ok.above)
  have neC : ∀ b o, X.s₀.heap.get? b = some o → b ∉ X.ex → b ∉ ch := fun b o e hx hb => by
    rcases (hch b hb).1 with z | z
    · exact hx z
    · exact absurd (Nat.lt_of_lt_of_le (Heap.lt_size e) z) (Nat.lt_irrefl _)
  have cellK : ∀ x c, X.env.cells.lookup x = some c → ∀ v, s.heap.IsCell c v → h'.IsCell c v := fun x c e v ⟨o, ho, hd⟩ => by
    have nch : c ∉ ch := fun z => (hch c z).2.2.1 x c e rfl
    by_cases hc : c ∈ X.fs
    · obtain ⟨sl, q⟩ := slot c o (I.cne x c e) hc nch ho (I.freeC x c e)
      exact ⟨_, q, hd⟩
    · exact ⟨o, keep c o (I.cne x c e) hc nch ho (I.freeC x c e), hd⟩
  refine ⟨I.ok, I.os, hg, ⟨fun b o e n hb hx => ?_, fun b o e n hb hx => ?_, fun b o e n hx => ?_, fun b o e hx => ?_, fun b xs e => tups b xs (I.base.tups b xs e), fun b o xs e => frzs b o xs (I.base.frzs b o xs e), fun b ps e => ?_⟩, ?_, fun x c e => ?_, ?_, fun x c e => ?_, fun p hp => ?_, hok, I.len⟩
  · exact keep b o (neL b o e) hb (neC b o e hx) (I.base.keep b o e n hb hx) (I.base.free b o e n hx)
  · obtain ⟨sl, e1⟩ := I.base.slot b o e n hb hx
    obtain ⟨sl', e2⟩ := slot b _ (neL b o e) hb (neC b o e hx) e1 (I.base.free b o e n hx)
    exact ⟨sl', e2⟩
  · obtain ⟨o', e1⟩ := I.base.there b o e hx
    exact free b o' (neC b o e hx) e1 (I.base.free b o e n hx)
  · obtain ⟨o', e1⟩ := I.base.there b o e hx
    exact there b o' (neC b o e hx) e1
  · obtain ⟨m1, e1⟩ := I.base.tbls b ps e
    obtain ⟨m2, e2⟩ := tbls b _ e1
    exact ⟨m1 ++ m2, by rw [e2, Array.append_assoc]⟩
  · obtain ⟨m, hn, hl⟩ := I.loc
    refine ⟨m, ns m hn, fun i x v e1 e2 e3 => ?_⟩
    obtain ⟨u, r, l⟩ := hl i x v e1 e2 e3
    refine ⟨u, r, ?_⟩
    rcases l with l | ⟨k, c, e, z⟩
    · exact .inl l
    · exact .inr ⟨k, c, e, cellK x c e _ z⟩
  · obtain ⟨v, z⟩ := I.cell x c e
    exact ⟨v, cellK x c e v z⟩
  · obtain ⟨m, ⟨o, _, _, ho, _⟩, _⟩ := I.loc
    exact free _ o (fun z => (hch _ z).2.1 rfl) ho I.free
  · obtain ⟨v, o, ho, hd⟩ := I.cell x c e
    exact free c o (fun z => (hch c z).2.2.1 x c e rfl) ho (I.freeC x c e)
  · obtain ⟨e, n, ne, nf, d⟩ := I.pin p hp
    have nch : p.1 ∉ ch := fun z => (hch p.1 z).2.2.2 p hp rfl
    exact ⟨keep p.1 p.2 ne nf nch e n, free p.1 p.2 nch e n, ne, nf, d⟩
/-- .. where the frame's own object is kept too -/
theorem Inv.un {t' : Nat} (I : Inv X pins σ H s) (u : Un X.fs [] H H' s.heap h') (hok : HOk X.prog X.w H' h') : Inv X pins σ H' { s with heap := h', toks := t' } := by
  obtain ⟨m, ⟨o, es, ep, ho, r⟩, _⟩ := id I.loc
  obtain ⟨sl, hL⟩ := u.any ho I.free (by simp)
  exact I.step (g' := s.gens) (d' := s.drawn) (ch := []) (fun _ z => nomatch z) (fun b o _ hb _ e n => u.keep b o e n hb (by simp)) (fun b o _ hb _ e n => u.slot b o e n hb (by simp)) (fun b o _ e n => u.free b o e n (by simp)) (fun b o _ e => u.there b o e (by simp)) u.tups u.frzs u.tbls (fun m' hm => by
    obtain ⟨o', es', ep', ho', r'⟩ := hm
    rw [ho] at ho'; cases ho'
    exact ⟨_, es', ep', hL, r'⟩) hok I.bare
/-- behind a call (or a comprehension's block): the slots of this frame may have changed too, the records at ch may have turned -/
theorem Inv.call {g' : Array GenState} {t' : Nat} {d' : Drawn} {ch : List Addr} (I : Inv X pins σ H s) (u : Un (frs X.stack) ch H H' s.heap h') (hok : HOk X.prog X.w H' h') (hg : AllBare g')
    (hch : ∀ b ∈ ch, (b ∈ X.ex ∨ X.s₀.heap.objs.size ≤ b) ∧ b ≠ X.env.locals ∧ (∀ x c, X.env.cells.lookup x = some c → c ≠ b) ∧ ∀ p ∈ X.pn ++ pins, p.1 ≠ b) :
    Inv X pins σ H' { s with heap := h', gens := g', drawn := d', toks := t' } := by
  obtain ⟨m, ⟨o, es, ep, ho, r⟩, _⟩ := id I.loc
  obtain ⟨sl, hL⟩ := u.any ho I.free fun z => (hch _ z).2.1 rfl
  exact I.step (ch := ch) hch (fun b o hL hb hc e n => u.keep b o e n (fun z => (List.mem_cons.mp (I.stkSub b z)).elim hL hb) hc) (fun b o _ _ hc e n => u.any e n hc) (fun b o hc e n => u.free b o e n hc) (fun b o hc e => u.there b o e hc) u.tups u.frzs u.tbls (fun m' hm => by
    obtain ⟨o', es', ep', ho', r'⟩ := hm
    rw [ho] at ho'; cases ho'
    exact ⟨_, es', ep', hL, r'⟩) hok hg
/-- an untracked record of ours (an iterator) has turned -/
theorem Inv.turned {t' : Nat} {it : Addr} (I : Inv X pins σ H s) (k : ∀ b o, b ≠ it → s.heap.get? b = some o → h'.get? b = some o) (hn : H it = none) (hL : it ≠ X.env.locals)
    (h1 : it ∈ X.ex ∨ X.s₀.heap.objs.size ≤ it) (h2 : ∀ x c, X.env.cells.lookup x = some c → c ≠ it) (h3 : ∀ p ∈ X.pn ++ pins, p.1 ≠ it) : Inv X pins σ H { s with heap := h', toks := t' } := by
  have nit : ∀ b u, H b = some u → b ≠ it := fun b u e z => by rw [z, hn] at e; cases e
  refine I.step (g' := s.gens) (d' := s.drawn) (ch := [it]) (fun b hb => ?_) (fun b o _ _ hc e _ => k b o (fun z => hc (by simp [z])) e) (fun b o _ _ hc e _ => ⟨o.slots, k b o (fun z => hc (by simp [z])) e⟩) (fun _ _ _ _ n => n)
    (fun b o hc e => ⟨o, k b o (fun z => hc (by simp [z])) e⟩) (fun _ _ e => e) (fun _ _ _ e => e) (fun b ps e => ⟨#[], by rw [e]; simp⟩) (fun m hm => ?_) (fun b u e => ?_) I.bare
  · have e : b = it := by simpa using hb
    subst e
    exact ⟨h1, hL, h2, h3⟩
  · obtain ⟨o, es, ep, ho, r⟩ := hm
    exact ⟨o, es, ep, k _ o (Ne.symm hL) ho, r⟩
  · refine (I.hok b u e).stay (fun c v hc q => k c v ?_ q) (fun _ q => q) fun _ _ q => q
    rcases hc with z | z
    · rw [z]; exact nit b u e
    · exact nit c _ z
theorem Inv.tok (I : Inv X pins σ H s) (t : Nat) : Inv X pins σ H { s with toks := t } := I.un (h' := s.heap) (t' := t) Un.refl I.hok
/-- all objects kept -/
theorem Inv.kept {t' : Nat} (I : Inv X pins σ H s) (k : ∀ b u, s.heap.get? b = some u → h'.get? b = some u) : Inv X pins σ H { s with heap := h', toks := t' } := I.un (Un.kept k) (I.hok.kept k)
/-- a new object laid and tracked -/
theorem Inv.laid {a : Addr} {o : HO} {t' : Nat} (I : Inv X pins σ H s) (k : ∀ b u, s.heap.get? b = some u → h'.get? b = some u) (hp : s.heap.objs.size ≤ a) (new : ObjOk X.prog X.w (upd H a o) h' a o) :
    Inv X pins σ (upd H a o) { s with heap := h', toks := t' } := I.un (Un.laid k hp (I.hok.fresh hp)) (I.hok.laid k hp new)
/-- an object written -/
theorem Inv.write {x e : Addr} {o : HO} {t' : Nat} (I : Inv X pins σ H s) (mu : Mut (H x)) (he : e = x ∨ H e = some (.own x)) (k : ∀ b u, b ≠ e → s.heap.get? b = some u → h'.get? b = some u) (heo : ∃ u, h'.get? e = some u)
    (new : ObjOk X.prog X.w (upd H x o) h' x o) : Inv X pins σ (upd H x o) { s with heap := h', toks := t' } := I.un (Un.write mu he k heo) (I.hok.write mu he k heo new)
/-- forgetting slots, pins -/
theorem Inv.weak {σ' : List (Option V)} (I : Inv X pins σ H s) (hl : σ'.length = σ.length) (w : ∀ (i : Nat) v, σ'[i]? = some (some v) → σ[i]? = some (some v)) : Inv X pins σ' H s :=
  ⟨I.ok, I.os, I.bare, I.base, let ⟨m, hn, hl'⟩ := I.loc; ⟨m, hn, fun i x v e1 e2 e3 => hl' i x v e1 (w i v e2) e3⟩, I.cell, I.free, I.freeC, I.pin, I.hok, hl.trans I.len⟩
theorem Inv.pins_of {pins' : List (Addr × Obj)} (I : Inv X pins σ H s) (h : ∀ p ∈ pins', s.heap.get? p.1 = some p.2 ∧ H p.1 = none ∧ p.1 ≠ X.env.locals ∧ p.1 ∉ X.fs ∧ ∀ v, p.2.data ≠ .cell v) : Inv X pins' σ H s :=
  ⟨I.ok, I.os, I.bare, I.base, I.loc, I.cell, I.free, I.freeC, fun p hp => (List.mem_append.mp hp).elim (fun z => I.pin p (List.mem_append_left _ z)) (h p), I.hok, I.len⟩

theorem nodup_ix {N : List Str} (hN : N.Nodup) {i j : Nat} {x : Str} (a : N[i]? = some x) (b : N[j]? = some x) : i = j := by
  obtain ⟨h1, e1⟩ := List.getElem?_eq_some_iff.mp a
  obtain ⟨h2, e2⟩ := List.getElem?_eq_some_iff.mp b
  exact (List.getElem_inj hN).mp (e1.trans e2.symm)

/-- a name is stored; what changed -/
theorem store_ok2 {M : Model} {A : Around} {E : Value → Shared → Prop} {i : Nat} {x : Str} {v : V} {u : Value} {Q : Unit → Shared → Prop} (I : Inv X pins σ H s) (hN : X.N.Nodup) (hi : X.N[i]? = some x) (hx : Loc X.env.scope x) (r : RelV v u)
    (h : ∀ s', Inv X pins (σ.set i (some v)) H s' → (∃ a, Heap.SameBut a s.heap s'.heap ∧ (a = X.env.locals ∨ X.env.cells.lookup x = some a)) → Q () s') (hf : X.fn x = true ∨ X.env.scope.names.lookup x = some .local := by first | exact .inl rfl | exact .inr rfl | assumption) : wpAny M A (storeName X.env x u) Q E s := by
  obtain ⟨m, hn, hl⟩ := id I.loc
  have hcls : (X.env.scope.kind == .class || (X.env.scope.kind == .module && X.env.locals != X.env.globals)) = false := by rw [I.ok.kind]; rfl
  have hiσ : i < σ.length := by rw [I.len]; exact (List.getElem?_eq_some_iff.mp hi).1
  have cne := I.cne
  have tracked : ∀ {a : Addr} {h' : Heap}, (∃ o, s.heap.get? a = some o ∧ H a = none) → Heap.SameBut a s.heap h' → HOk X.prog X.w H h' := fun {a h'} ha hs b ob e => by
    obtain ⟨_, _, hfree⟩ := ha
    refine (I.hok b ob e).stay (fun c w' hc q => (hs.2 c ?_).trans q) (fun _ q => q) fun _ _ q => q
    rintro rfl
    rcases hc with rfl | hc
    · rw [hfree] at e; cases e
    · rw [hfree] at hc; cases hc
  rcases hx with hk | hk
  · refine wpAny_storeName_local hk hn (fun h' hn' hs => ?_) hcls
    obtain ⟨oL, _, _, hoL, _⟩ := id hn
    refine h _ ⟨I.ok, I.os, I.bare, ⟨fun b o e n hb hx => ?_, fun b o e n hb hx => ?_, I.base.free, fun b o e hx => ?_, I.base.tups, I.base.frzs, I.base.tbls⟩, ⟨_, hn', fun j y v' e1 e2 e3 => ?_⟩, fun y c e => ?_, I.free, I.freeC, fun p hp => ?_, tracked ⟨oL, hoL, I.free⟩ hs, by simpa using I.len⟩ ⟨_, hs, .inl rfl⟩
    · exact (hs.2 b (Nat.ne_of_lt (Nat.lt_of_lt_of_le (Heap.lt_size e) I.ok.above))).trans (I.base.keep b o e n hb hx)
    · obtain ⟨sl, e1⟩ := I.base.slot b o e n hb hx
      exact ⟨sl, (hs.2 b (Nat.ne_of_lt (Nat.lt_of_lt_of_le (Heap.lt_size e) I.ok.above))).trans e1⟩
    · obtain ⟨o', e1⟩ := I.base.there b o e hx
      exact ⟨o', (hs.2 b (Nat.ne_of_lt (Nat.lt_of_lt_of_le (Heap.lt_size e) I.ok.above))).trans e1⟩
    · by_cases hj : j = i
      · subst hj
        rw [hi] at e1; cases e1
        rw [List.getElem?_set_self hiσ] at e2
        cases e2
        exact ⟨u, r, .inl ⟨hk, by simp⟩⟩
      · rw [List.getElem?_set_ne (Ne.symm hj)] at e2
        obtain ⟨u', r', q⟩ := hl j y v' e1 e2 e3
        refine ⟨u', r', ?_⟩
        rcases q with ⟨k, e⟩ | ⟨k, c, e, z⟩
        · refine .inl ⟨k, ?_⟩
          have : y ≠ x := fun e => hj (nodup_ix hN e1 (e ▸ hi))
          simp [this, e]
        · exact .inr ⟨k, c, e, z.sameBut hs (cne y c e)⟩
    · obtain ⟨w', z⟩ := I.cell y c e
      exact ⟨w', z.sameBut hs (cne y c e)⟩
    · obtain ⟨e, n, ne, nf, d⟩ := I.pin p hp
      exact ⟨(hs.2 p.1 ne).trans e, n, ne, nf, d⟩
  · have hfn : X.fn x = true := by
      rcases hf with z | z
      · exact z
      · rw [z] at hk; cases hk
    obtain ⟨c, hc⟩ := I.ok.has x (.inl hk)
    obtain ⟨w', z⟩ := I.cell x c hc
    refine wpAny_storeName_cell I.ok.kind hk hc z (fun h' hc' hs => ?_)
    obtain ⟨oc, hoc, hocd⟩ := id z
    refine h { s with heap := h' } ⟨I.ok, I.os, I.bare, ⟨fun b o e n hb hx => ?_, fun b o e n hb hx => ?_, I.base.free, fun b o e hx => ?_, I.base.tups, I.base.frzs, I.base.tbls⟩, ⟨m, hn.sameBut hs (Ne.symm (cne x c hc)), fun j y v' e1 e2 e3 => ?_⟩, fun y c' e => ?_, I.free, I.freeC, fun p hp => ?_, tracked ⟨oc, hoc, I.freeC x c hc⟩ hs, by simpa using I.len⟩ ⟨c, hs, .inr hc⟩
    · exact (hs.2 b (Nat.ne_of_lt (Nat.lt_of_lt_of_le (Heap.lt_size e) (I.ok.cab x c hfn hc)))).trans (I.base.keep b o e n hb hx)
    · obtain ⟨sl, e1⟩ := I.base.slot b o e n hb hx
      exact ⟨sl, (hs.2 b (Nat.ne_of_lt (Nat.lt_of_lt_of_le (Heap.lt_size e) (I.ok.cab x c hfn hc)))).trans e1⟩
    · obtain ⟨o', e1⟩ := I.base.there b o e hx
      exact ⟨o', (hs.2 b (Nat.ne_of_lt (Nat.lt_of_lt_of_le (Heap.lt_size e) (I.ok.cab x c hfn hc)))).trans e1⟩
    · by_cases hj : j = i
      · subst hj
        rw [hi] at e1; cases e1
        rw [List.getElem?_set_self hiσ] at e2
        cases e2
        exact ⟨u, r, .inr ⟨.inl hk, c, hc, hc'⟩⟩
      · rw [List.getElem?_set_ne (Ne.symm hj)] at e2
        obtain ⟨u', r', q⟩ := hl j y v' e1 e2 e3
        refine ⟨u', r', ?_⟩
        rcases q with q | ⟨k, c', e, z'⟩
        · exact .inl q
        · refine .inr ⟨k, c', e, z'.sameBut hs ?_⟩
          rintro rfl
          exact hj (nodup_ix hN e1 (I.ok.inj _ _ _ e hc ▸ hi))
    · by_cases hcc : c' = c
      · subst hcc; exact ⟨_, hc'⟩
      · obtain ⟨w2, z2⟩ := I.cell y c' e
        exact ⟨w2, z2.sameBut hs hcc⟩
    · obtain ⟨e, n, ne, nf, d⟩ := I.pin p hp
      refine ⟨(hs.2 p.1 ?_).trans e, n, ne, nf, d⟩
      intro q
      rw [q, hoc] at e
      have q' : oc = p.2 := Option.some.inj e
      exact d w' (by rw [← q']; exact hocd)
theorem store_ok {M : Model} {A : Around} {E : Value → Shared → Prop} {i : Nat} {x : Str} {v : V} {u : Value} {Q : Unit → Shared → Prop} (I : Inv X pins σ H s) (hN : X.N.Nodup) (hi : X.N[i]? = some x) (hx : Loc X.env.scope x) (r : RelV v u)
    (h : ∀ s', Inv X pins (σ.set i (some v)) H s' → Q () s') (hf : X.fn x = true ∨ X.env.scope.names.lookup x = some .local := by first | exact .inl rfl | exact .inr rfl | assumption) : wpAny M A (storeName X.env x u) Q E s :=
  store_ok2 I hN hi hx r (fun s' I' _ => h s' I') hf
/-- behind a call or a block, the state as it is -/
theorem Inv.call' {s' : Shared} {ch : List Addr} (I : Inv X pins σ H s) (ho : s'.os = s.os) (u : Un (frs X.stack) ch H H' s.heap s'.heap) (hok : HOk X.prog X.w H' s'.heap) (hg : AllBare s'.gens)
    (hch : ∀ b ∈ ch, (b ∈ X.ex ∨ X.s₀.heap.objs.size ≤ b) ∧ b ≠ X.env.locals ∧ (∀ x c, X.env.cells.lookup x = some c → c ≠ b) ∧ ∀ p ∈ X.pn ++ pins, p.1 ≠ b) : Inv X pins σ H' s' := by
  obtain ⟨h', g', d', t', o'⟩ := s'
  have e : o' = s.os := ho
  subst e
  exact I.call (g' := g') (t' := t') (d' := d') u hok hg hch
end

/-! ### the judgements -/
/-- an exception: its class, its own dict's address (where it has one), the abstract heap behind it -/
abbrev XK := Value → Option Addr → Hp → Prop
abbrev St := List (Option V)
abbrev VK := V → Hp → Prop
/-- an expression's reading; a test's; an argument list's -/
abbrev TE := St → Hp → VK → Prop
abbrev TT := St → Hp → (Bool → Hp → Prop) → Prop
abbrev TA := St → Hp → (List V → Hp → Prop) → Prop
/-- what is wanted behind a statement -/
structure Ends where
  nx : St → Hp → Prop
  rt : VK
  bk : St → Hp → Prop := fun _ _ => False
  ct : St → Hp → Prop := fun _ _ => False
abbrev TS := Ends → St → Hp → Prop

def EP (X : Cx) (pins : List (Addr × Obj)) (σ : St) (Q : VK) (u : Value) (s' : Shared) : Prop := ∃ v H', Inv X pins σ H' s' ∧ RelV v u ∧ Q v H'
def TP (X : Cx) (pins : List (Addr × Obj)) (σ : St) (Q : Bool → Hp → Prop) (b : Bool) (s' : Shared) : Prop := ∃ H', Inv X pins σ H' s' ∧ Q b H'
def AP (X : Cx) (pins : List (Addr × Obj)) (σ : St) (Q : List V → Hp → Prop) (us : List Value) (s' : Shared) : Prop := ∃ vs H', Inv X pins σ H' s' ∧ Vals vs us ∧ Q vs H'
def SP (X : Cx) (pins : List (Addr × Obj)) (D : Ends) (f : Flow) (s' : Shared) : Prop :=
  match f with
  | .next => ∃ σ' H', Inv X pins σ' H' s' ∧ D.nx σ' H'
  | .brk => ∃ σ' H', Inv X pins σ' H' s' ∧ D.bk σ' H'
  | .cont => ∃ σ' H', Inv X pins σ' H' s' ∧ D.ct σ' H'
  | .ret u => ∃ v σ' H', Inv X pins σ' H' s' ∧ RelV v u ∧ D.rt v H'

def PE (X : Cx) (e : Expr) (t : TE) : Prop :=
  ∀ (pins : List (Addr × Obj)) (s : Shared) (σ : St) (H : Hp) (Q : VK), Inv X pins σ H s → t σ H Q → wpAny (model X.prog X.w) X.A (eval e X.env) (EP X pins σ Q) X.xe s
def PT (X : Cx) (e : Expr) (t : TT) : Prop :=
  ∀ (pins : List (Addr × Obj)) (s : Shared) (σ : St) (H : Hp) (Q : Bool → Hp → Prop), Inv X pins σ H s → t σ H Q → wpAny (model X.prog X.w) X.A (isTrue e X.env (eval e X.env)) (TP X pins σ Q) X.xe s
/-- a test whatever its 'whole' is (and, or) -/
def PW (X : Cx) (e : Expr) (t : TT) : Prop :=
  ∀ (whole : Sem Value) (pins : List (Addr × Obj)) (s : Shared) (σ : St) (H : Hp) (Q : Bool → Hp → Prop), Inv X pins σ H s → t σ H Q → wpAny (model X.prog X.w) X.A (isTrue e X.env whole) (TP X pins σ Q) X.xe s
theorem PW.pt {X : Cx} {e : Expr} {t : TT} (h : PW X e t) : PT X e t := h _
/-- an argument list (no star), from the left -/
def PA (X : Cx) (es : List Expr) (t : TA) : Prop :=
  ∀ (pos : Pos) (pins : List (Addr × Obj)) (s : Shared) (σ : St) (H : Hp) (Q : List V → Hp → Prop), Inv X pins σ H s → t σ H Q → wpAny (model X.prog X.w) X.A (spliced (backTo pos (starEach es X.env))) (AP X pins σ Q) X.xe s
def PS (X : Cx) (st : Stmt) (t : TS) : Prop :=
  ∀ (pins : List (Addr × Obj)) (s : Shared) (σ : St) (H : Hp) (D : Ends), Inv X pins σ H s → t D σ H → wpAny (model X.prog X.w) X.A (exec st X.env) (SP X pins D) X.xe s
def PSs (X : Cx) (st : List Stmt) (t : TS) : Prop :=
  ∀ (pins : List (Addr × Obj)) (s : Shared) (σ : St) (H : Hp) (D : Ends), Inv X pins σ H s → t D σ H → wpAny (model X.prog X.w) X.A (execs st X.env) (SP X pins D) X.xe s
/-- weaken the end -/
theorem thn {α : Type} {t : Sem α} {Q Q' : α → Shared → Prop} {M : Model} {A : Around} {E : Value → Shared → Prop} {s : Shared} (h : wpAny M A t Q E s) (hQ : ∀ a s, Q a s → Q' a s) : wpAny M A t Q' E s := wpAny_mono h hQ fun _ _ x => x
end L2

namespace L2
open PySem PySem.Spec PyProof.Rows
section
variable {X : Cx}

/-- two expressions in a row -/
theorem bin {a b : Expr} {ta tb : TE} (ha : PE X a ta) (hb : PE X b tb) {pins : List (Addr × Obj)} {s : Shared} {σ : St} {H : Hp} {R : V → V → Hp → Prop} (I : Inv X pins σ H s) (h : ta σ H fun x H1 => tb σ H1 fun y H2 => R x y H2)
    {α : Type} {Q : α → Shared → Prop} {f : Value → Value → Sem α}
    (hf : ∀ v u s2 x y H2, Inv X pins σ H2 s2 → RelV x v → RelV y u → R x y H2 → wpAny (model X.prog X.w) X.A (f v u) Q X.xe s2) :
    wpAny (model X.prog X.w) X.A (eval a X.env) (fun v s₁ => wpAny (model X.prog X.w) X.A (eval b X.env) (fun u s₂ => wpAny (model X.prog X.w) X.A (f v u) Q X.xe s₂) X.xe s₁) X.xe s := by
  refine thn (ha pins s σ H _ I h) fun v s1 ⟨x, H1, I1, r1, q1⟩ => ?_
  refine thn (hb pins s1 σ H1 _ I1 q1) fun u s2 ⟨y, H2, I2, r2, q2⟩ => ?_
  exact hf v u s2 x y H2 I2 r1 r2 q2

/-! ### names and constants -/
def tVar (i : Nat) : TE := fun σ H Q => ∃ v, σ[i]? = some (some v) ∧ Q v H
def tC (v : V) : TE := fun _ H Q => Q v H
theorem pe_var {i : Nat} {x : Str} {pos : Pos} (hN : X.N[i]? = some x) (hv : Vis X.env.scope x) (hd : (x == ("__debug__" : Str)) = false := by decide) (hcd : (x == ("__classdict__" : Str)) = false := by decide) : PE X (.Name x pos) (tVar i) := by
  intro pins s σ H Q I h
  obtain ⟨v, e, h⟩ := h
  obtain ⟨m, hn, hl⟩ := I.loc
  obtain ⟨u, r, l⟩ := hl i x v hN e hv
  have fin : EP X pins σ Q u s := ⟨v, H, I, r, h⟩
  rcases l with ⟨hk, hm⟩ | ⟨hk, c, hc, hcell⟩
  · exact wpAny_Name (wpAny_loadName_local I.ok.kind hk hn hm fin) hd
  · rcases hk with hk | hk
    · exact wpAny_Name (wpAny_loadName_cell I.ok.kind hk hc hcell fin) hd
    · exact wpAny_Name (wpAny_loadName_free I.ok.kind hk hc hcell fin hcd) hd
theorem pe_int {i j pos} : PE X (.Constant (.int i) j pos) (tC (.int i)) := fun _ _ _ H _ I h => wpAny_Constant_int ⟨.int i, H, I.tok _, ⟨_, rfl⟩, h⟩
theorem pe_bl {b j pos} : PE X (.Constant (.bool b) j pos) (tC (.bl b)) := fun _ _ _ H _ I h => Constant_bool ⟨.bl b, H, I, rfl, h⟩
theorem pe_non {j pos} : PE X (.Constant .none j pos) (tC .non) := fun _ _ _ H _ I h => Constant_none ⟨.non, H, I, rfl, h⟩
theorem pe_str {x j pos} : PE X (.Constant (.str x) j pos) (tC (.str x)) := fun _ _ _ H _ I h => Calls.Constant_str ⟨.str x, H, I.tok _, ⟨_, rfl⟩, h⟩

/-- a global name of the def -/
def Gl (X : Cx) (x : Str) : Prop := X.env.kindOf x = some .globalImplicit
theorem ld_glob {E : Value → Shared → Prop} {pins : List (Addr × Obj)} {s : Shared} {σ : St} {H : Hp} {x : Str} {u : Value} {pos : Pos} {Q : Value → Shared → Prop} (I : Inv X pins σ H s) (hg : Gl X x) (hm : X.mg x = some u) (h : Q u s)
    (hd : (x == ("__debug__" : Str)) = false := by decide) : wpAny (model X.prog X.w) X.A (eval (.Name x pos) X.env) Q E s :=
  Calls.Name_function_global I.ok.kind hg (Calls.loadGlobal_global (by rw [I.ok.glob]; exact I.mod.glob.keeps I.bk) hm h) hd
theorem ld_blt {E : Value → Shared → Prop} {pins : List (Addr × Obj)} {s : Shared} {σ : St} {H : Hp} {x : Str} {u : Value} {pos : Pos} {Q : Value → Shared → Prop} (I : Inv X pins σ H s) (hg : Gl X x) (hm : X.mg x = none) (hv : bootBuiltins x = some u) (h : Q u s)
    (hn : x ≠ "__name__" := by decide) (hd : (x == ("__debug__" : Str)) = false := by decide) : wpAny (model X.prog X.w) X.A (eval (.Name x pos) X.env) Q E s := by
  obtain ⟨mb, h1, h2⟩ := I.mod.blt
  exact Calls.Name_function_global I.ok.kind hg (Calls.loadGlobal_builtin (by rw [I.ok.glob]; exact I.mod.glob.keeps I.bk) hm (by rw [I.ok.blt]; exact h1.keeps I.bk) ((h2 x hn).trans hv) h) hd
/-- a module's constant, a class, a function, as a value -/
theorem pe_glob {x : Str} {v : V} {u : Value} {pos : Pos} (hg : Gl X x) (hm : X.mg x = some u) (r : RelV v u) (hd : (x == ("__debug__" : Str)) = false := by decide) : PE X (.Name x pos) (tC v) :=
  fun _ _ _ H _ I h => ld_glob I hg hm ⟨v, H, I, r, h⟩ hd
theorem pe_bltn {x : Str} {v : V} {u : Value} {pos : Pos} (hg : Gl X x) (hm : X.mg x = none) (hv : bootBuiltins x = some u) (r : RelV v u) (hn : x ≠ "__name__" := by decide) (hd : (x == ("__debug__" : Str)) = false := by decide) : PE X (.Name x pos) (tC v) :=
  fun _ _ _ H _ I h => ld_blt I hg hm hv ⟨v, H, I, r, h⟩ hn hd

/-! ### arithmetic -/
/-- two ints -/
def t2I (ta tb : TE) (k : Int → Int → Hp → Prop) : St → Hp → Prop := fun σ H => ta σ H fun x H1 => tb σ H1 fun y H2 => ∃ i j, x = .int i ∧ y = .int j ∧ k i j H2
def tAdd (ta tb : TE) : TE := fun σ H Q => t2I ta tb (fun i j H2 => Q (.int (i + j)) H2) σ H
def tSub (ta tb : TE) : TE := fun σ H Q => t2I ta tb (fun i j H2 => Q (.int (i - j)) H2) σ H
/-- the left factor below 2^64 -/
def tMul (ta tb : TE) : TE := fun σ H Q => t2I ta tb (fun i j H2 => (-(2 ^ 64) < i ∧ i < 2 ^ 64) ∧ Q (.int (i * j)) H2) σ H
variable {a b : Expr} {ta tb : TE} {pos : Pos}
theorem pe_add (ha : PE X a ta) (hb : PE X b tb) : PE X (.BinOp a .Add b pos) (tAdd ta tb) := by
  intro pins s σ H Q I h
  refine wpAny_BinOp (bin ha hb I h fun v u s2 x y H2 I2 rx ry q => ?_)
  obtain ⟨i, j, rfl, rfl, q⟩ := q
  obtain ⟨t, rfl⟩ := rx
  obtain ⟨t', rfl⟩ := ry
  exact add_int ⟨.int _, H2, I2.tok _, ⟨_, rfl⟩, q⟩
theorem pe_sub (ha : PE X a ta) (hb : PE X b tb) : PE X (.BinOp a .Sub b pos) (tSub ta tb) := by
  intro pins s σ H Q I h
  refine wpAny_BinOp (bin ha hb I h fun v u s2 x y H2 I2 rx ry q => ?_)
  obtain ⟨i, j, rfl, rfl, q⟩ := q
  obtain ⟨t, rfl⟩ := rx
  obtain ⟨t', rfl⟩ := ry
  exact sub_int ⟨.int _, H2, I2.tok _, ⟨_, rfl⟩, q⟩
theorem pe_mul (ha : PE X a ta) (hb : PE X b tb) : PE X (.BinOp a .Mult b pos) (tMul ta tb) := by
  intro pins s σ H Q I h
  refine wpAny_BinOp (bin ha hb I h fun v u s2 x y H2 I2 rx ry q => ?_)
  obtain ⟨i, j, rfl, rfl, ⟨q1, q2⟩, q⟩ := q
  obtain ⟨t, rfl⟩ := rx
  obtain ⟨t', rfl⟩ := ry
  exact mul_int ⟨.int _, H2, I2.tok _, ⟨_, rfl⟩, q⟩ (.of_left (intBits_le_64 q1 q2))

/-! ### comparisons -/
def PC (X : Cx) (op : CmpOp) (a b : Expr) (t : TE) : Prop :=
  ∀ (pins : List (Addr × Obj)) (s : Shared) (σ : St) (H : Hp) (Q : VK), Inv X pins σ H s → t σ H Q →
    wpAny (model X.prog X.w) X.A (eval a X.env) (fun v s₁ => wpAny (model X.prog X.w) X.A (eval b X.env) (fun u s₂ => wpAny (model X.prog X.w) X.A (compareOp op v u) (EP X pins σ Q) X.xe s₂) X.xe s₁) X.xe s
theorem nobehind (b : Expr) {op : CmpOp} (h : op ≠ .In) (h2 : op ≠ .NotIn) : behindInMarks op b = false := by
  have e1 : (op == CmpOp.In) = false := by cases op <;> first | rfl | exact absurd rfl h
  have e2 : (op == CmpOp.NotIn) = false := by cases op <;> first | rfl | exact absurd rfl h2
  cases b <;> simp [behindInMarks, e1, e2]
def tCmp (p : Int → Int → Bool) (ta tb : TE) : TE := fun σ H Q => t2I ta tb (fun i j H2 => Q (.bl (p i j)) H2) σ H
abbrev tLt : TE → TE → TE := tCmp fun i j => decide (i < j)
abbrev tLe : TE → TE → TE := tCmp fun i j => decide (i ≤ j)
abbrev tGt : TE → TE → TE := tCmp fun i j => decide (j < i)
abbrev tGe : TE → TE → TE := tCmp fun i j => decide (j ≤ i)
abbrev tEqI : TE → TE → TE := tCmp fun i j => decide (i = j)
abbrev tNeI : TE → TE → TE := tCmp fun i j => !decide (i = j)
/-- a comparison of two ints, by its rule -/
theorem pc_int {op : CmpOp} {p : Int → Int → Bool} (ha : PE X a ta) (hb : PE X b tb)
    (rule : ∀ (i j : Int) (t u : Tok) (Q : Value → Shared → Prop) (s : Shared), Q (.bool (p i j)) s → wpAny (model X.prog X.w) X.A (compareOp op (.int i t) (.int j u)) Q X.xe s) : PC X op a b (tCmp p ta tb) := by
  intro pins s σ H Q I h
  refine bin ha hb I h fun v u s2 x y H2 I2 rx ry q => ?_
  obtain ⟨i, j, rfl, rfl, q⟩ := q
  obtain ⟨t, rfl⟩ := rx
  obtain ⟨t', rfl⟩ := ry
  exact rule i j t t' _ s2 ⟨.bl _, H2, I2, rfl, q⟩
theorem pc_lt (ha : PE X a ta) (hb : PE X b tb) : PC X .Lt a b (tLt ta tb) := pc_int ha hb fun _ _ _ _ _ _ h => lt_int h
theorem pc_le (ha : PE X a ta) (hb : PE X b tb) : PC X .LtE a b (tLe ta tb) := pc_int ha hb fun _ _ _ _ _ _ h => le_int h
theorem pc_gt (ha : PE X a ta) (hb : PE X b tb) : PC X .Gt a b (tGt ta tb) := pc_int ha hb fun _ _ _ _ _ _ h => gt_int h
theorem pc_ge (ha : PE X a ta) (hb : PE X b tb) : PC X .GtE a b (tGe ta tb) := pc_int ha hb fun _ _ _ _ _ _ h => ge_int h
theorem pc_eqI (ha : PE X a ta) (hb : PE X b tb) : PC X .Eq a b (tEqI ta tb) := pc_int ha hb fun _ _ _ _ _ _ h => eq_int (by rw [Bool.beq_eq_decide_eq]; exact h)
theorem pc_neI (ha : PE X a ta) (hb : PE X b tb) : PC X .NotEq a b (tNeI ta tb) := pc_int ha hb fun _ _ _ _ _ _ h => ne_int (by rw [bne, Bool.beq_eq_decide_eq]; exact h)
/-- is None -/
def tIsN (ta : TE) : TE := fun σ H Q => ta σ H fun x H1 => Q (.bl (decide (x = .non))) H1
def tNotN (ta : TE) : TE := fun σ H Q => ta σ H fun x H1 => Q (.bl (!decide (x = .non))) H1
theorem RelV.none_iff {x : V} {v : Value} (r : RelV x v) : (v == Value.none) = decide (x = .non) := by
  cases x with
  | non => cases r; rfl
  | bl _ => cases r; rfl
  | int _ => obtain ⟨t, rfl⟩ := r; rfl
  | str _ => obtain ⟨t, rfl⟩ := r; rfl
  | byt _ => obtain ⟨t, rfl⟩ := r; rfl
  | flt _ => obtain ⟨t, rfl⟩ := r; rfl
  | ref _ => cases r; rfl
  | ty _ => cases r; rfl
theorem pc_isN {j pos'} (ha : PE X a ta) : PC X .Is a (.Constant .none j pos') (tIsN ta) := by
  intro pins s σ H Q I h
  refine thn (ha pins s σ H _ I h) fun v s1 ⟨x, H1, I1, r1, q1⟩ => ?_
  exact Constant_none (is_none_gen ⟨.bl _, H1, I1, by rw [r1.none_iff]; rfl, q1⟩)
theorem pc_notN {j pos'} (ha : PE X a ta) : PC X .IsNot a (.Constant .none j pos') (tNotN ta) := by
  intro pins s σ H Q I h
  refine thn (ha pins s σ H _ I h) fun v s1 ⟨x, H1, I1, r1, q1⟩ => ?_
  exact Constant_none (isnot_none_gen ⟨.bl _, H1, I1, by rw [r1.none_iff]; rfl, q1⟩)
/-- a comparison as a value, as a test -/
def tB (t : TE) : TT := fun σ H Q => t σ H fun x H1 => ∃ c, x = .bl c ∧ Q c H1
theorem pe_cmp {op : CmpOp} {t : TE} (h : PC X op a b t) (h1 : behindInMarks op b = false := by first | exact nobehind _ (by decide) (by decide) | rfl) : PE X (.Compare a [op] [b] pos) t := fun pins s σ H Q I hw => wpAny_Compare1 (h pins s σ H Q I hw) h1
theorem pt_cmp {op : CmpOp} {t : TE} (h : PC X op a b t) (h1 : behindInMarks op b = false := by first | exact nobehind _ (by decide) (by decide) | rfl) : PT X (.Compare a [op] [b] pos) (tB t) := by
  intro pins s σ H Q I hw
  refine wpAny_isTrue_Compare1 (thn (h pins s σ H _ I hw) fun v s1 h1 => thn h1 fun u s2 h2 => thn h2 fun c s3 ⟨x, H1, I1, r1, q1⟩ => ?_) h1
  obtain ⟨d, rfl, q⟩ := q1
  cases r1
  exact wpAny_truthy_bool ⟨H1, I1, q⟩
/-- an expression whose value is a bool, as a test -/
theorem pt_val {e : Expr} {t : TE} (h : PE X e t) (he : ∀ whole, isTrue e X.env whole = (do let v ← whole; standAt e.pos; holding [v] (truthy v)) := by intro _; rfl) : PT X e (tB t) := by
  intro pins s σ H Q I hw
  refine isTrue_plain (thn (h pins s σ H _ I hw) fun v s1 ⟨x, H1, I1, r1, q1⟩ => ?_) (he _)
  obtain ⟨d, rfl, q⟩ := q1
  cases r1
  exact wpAny_truthy_bool ⟨H1, I1, q⟩

/-! ### and, or, not -/
variable {tA tB' : TT} {rest : List Expr}
def tAnd (t u : TT) : TT := fun σ H Q => t σ H fun c H1 => if c = true then u σ H1 Q else Q false H1
def tOr (t u : TT) : TT := fun σ H Q => t σ H fun c H1 => if c = true then Q true H1 else u σ H1 Q
def tNot (t : TT) : TT := fun σ H Q => t σ H fun c H1 => Q (!c) H1
theorem pw_and1 (ha : PT X a tA) : PW X (.BoolOp .And [a] pos) tA := by
  intro wh pins s σ H Q I h
  refine isTrue_and (thn (ha pins s σ H Q I h) fun c s1 e => ?_)
  cases c with
  | true => exact isTrue_and_nil e
  | false => exact e
theorem pw_or1 (ha : PT X a tA) : PW X (.BoolOp .Or [a] pos) tA := by
  intro wh pins s σ H Q I h
  refine isTrue_or (thn (ha pins s σ H Q I h) fun c s1 e => ?_)
  cases c with
  | false => exact isTrue_or_nil e
  | true => exact e
theorem pw_and (ha : PT X a tA) (hb : PW X (.BoolOp .And (b :: rest) pos) tB') : PW X (.BoolOp .And (a :: b :: rest) pos) (tAnd tA tB') := by
  intro wh pins s σ H Q I h
  refine isTrue_and (thn (ha pins s σ H _ I h) fun c s1 ⟨H1, I1, q1⟩ => ?_)
  cases c with
  | true => exact hb wh pins s1 σ H1 Q I1 q1
  | false => exact ⟨H1, I1, q1⟩
theorem pw_or (ha : PT X a tA) (hb : PW X (.BoolOp .Or (b :: rest) pos) tB') : PW X (.BoolOp .Or (a :: b :: rest) pos) (tOr tA tB') := by
  intro wh pins s σ H Q I h
  refine isTrue_or (thn (ha pins s σ H _ I h) fun c s1 ⟨H1, I1, q1⟩ => ?_)
  cases c with
  | true => exact ⟨H1, I1, q1⟩
  | false => exact hb wh pins s1 σ H1 Q I1 q1
theorem pt_not (ha : PT X a tA) : PT X (.UnaryOp .Not a pos) (tNot tA) := by
  intro pins s σ H Q I h
  exact isTrue_not (ha pins s σ H (fun c H1 => Q (!c) H1) I h)
/-- .. as values (bools) -/
def tAndV (ta tb : TE) : TE := fun σ H Q => ta σ H fun x H1 => ∃ c, x = .bl c ∧ if c = true then tb σ H1 Q else Q (.bl false) H1
def tOrV (ta tb : TE) : TE := fun σ H Q => ta σ H fun x H1 => ∃ c, x = .bl c ∧ if c = true then Q (.bl true) H1 else tb σ H1 Q
def tNotV (ta : TE) : TE := fun σ H Q => ta σ H fun x H1 => ∃ c, x = .bl c ∧ Q (.bl (!c)) H1
theorem pe_one {op} {t : TE} (h : PE X a t) : PE X (.BoolOp op [a] pos) t := fun pins s σ H Q I hw => BoolOp_one (h pins s σ H Q I hw)
theorem pe_and (ha : PE X a ta) (hb : PE X (.BoolOp .And (b :: rest) pos) tb) : PE X (.BoolOp .And (a :: b :: rest) pos) (tAndV ta tb) := by
  intro pins s σ H Q I h
  refine BoolOp_and (thn (ha pins s σ H _ I h) fun v s1 ⟨x, H1, I1, r1, q1⟩ => ?_)
  obtain ⟨c, rfl, q1⟩ := q1
  cases r1
  refine wpAny_truthy_bool ?_
  cases c with
  | true => exact hb pins s1 σ H1 Q I1 q1
  | false => exact ⟨.bl false, H1, I1, rfl, q1⟩
theorem pe_or (ha : PE X a ta) (hb : PE X (.BoolOp .Or (b :: rest) pos) tb) : PE X (.BoolOp .Or (a :: b :: rest) pos) (tOrV ta tb) := by
  intro pins s σ H Q I h
  refine BoolOp_or (thn (ha pins s σ H _ I h) fun v s1 ⟨x, H1, I1, r1, q1⟩ => ?_)
  obtain ⟨c, rfl, q1⟩ := q1
  cases r1
  refine wpAny_truthy_bool ?_
  cases c with
  | false => exact hb pins s1 σ H1 Q I1 q1
  | true => exact ⟨.bl true, H1, I1, rfl, q1⟩
theorem pe_not (ha : PE X a ta) : PE X (.UnaryOp .Not a pos) (tNotV ta) := by
  intro pins s σ H Q I h
  refine UnaryOp_ (thn (ha pins s σ H _ I h) fun v s1 ⟨x, H1, I1, r1, q1⟩ => ?_)
  obtain ⟨c, rfl, q1⟩ := q1
  cases r1
  exact not_of (wpAny_truthy_bool ⟨.bl (!c), H1, I1, rfl, q1⟩)
/-- a if t else b -/
def tIf (t : TT) (ta tb : TE) : TE := fun σ H Q => t σ H fun c H1 => if c = true then ta σ H1 Q else tb σ H1 Q
theorem pe_ifExp {c : Expr} (hc : PT X c tA) (ha : PE X a ta) (hb : PE X b tb) : PE X (.IfExp c a b pos) (tIf tA ta tb) := by
  intro pins s σ H Q I h
  refine wpAny_IfExp (thn (hc pins s σ H _ I h) fun d s1 ⟨H1, I1, q1⟩ => ?_)
  cases d with
  | true => exact ha pins s1 σ H1 Q I1 q1
  | false => exact hb pins s1 σ H1 Q I1 q1
end
end L2

namespace L2
open PySem PySem.Spec PyProof.Rows

/-! ### a list, a tuple that is read: tracked, frozen, or an object of the module -/
def SqL (K : PySem.W.Frag) (H : Hp) (a : Addr) (xs : List V) : Prop :=
  Rd H a (.lst xs) ∨
    ∃ (o : Obj) (its : Array Value) (n : Nat), K.lookup a = some o ∧ o.cls = .type "list" ∧ o.dict = none ∧ o.data = .seq its n ∧ its.size ≤ sizeLine ∧ Vals xs its.toList
def SqT (K : PySem.W.Frag) (H : Hp) (a : Addr) (xs : List V) : Prop :=
  Rd H a (.tup xs) ∨
    ∃ (o : Obj) (its : Array Value) (n : Nat), K.lookup a = some o ∧ o.cls = .type "tuple" ∧ o.data = .seq its n ∧ its.size ≤ sizeLine ∧ Vals xs its.toList
def absV : Value → Option V
  | .none => some .non
  | .bool b => some (.bl b)
  | .int i _ => some (.int i)
  | .str x _ => some (.str x)
  | .bytes b _ => some (.byt b)
  | .float b _ => some (.flt b)
  | .ref a => some (.ref a)
  | .type n => some (.ty n)
  | _ => none
theorem RelV.abs {x : V} {u : Value} (r : RelV x u) : absV u = some x := by
  cases x with
  | non => cases r; rfl
  | bl _ => cases r; rfl
  | int _ => obtain ⟨t, rfl⟩ := r; rfl
  | str _ => obtain ⟨t, rfl⟩ := r; rfl
  | byt _ => obtain ⟨t, rfl⟩ := r; rfl
  | flt _ => obtain ⟨t, rfl⟩ := r; rfl
  | ref _ => cases r; rfl
  | ty _ => cases r; rfl
theorem RelV.inj {x y : V} {u : Value} (r : RelV x u) (q : RelV y u) : x = y := Option.some.inj (r.abs.symm.trans q.abs)
theorem Vals.inj : ∀ {xs ys : List V} {us : List Value}, Vals xs us → Vals ys us → xs = ys
  | _, _, _, .nil, .nil => rfl
  | _, _, _, .cons r t, .cons r' t' => by rw [r.inj r', Vals.inj t t']
section
variable {X : Cx} {pins : List (Addr × Obj)} {σ : St} {H : Hp} {s : Shared} {a : Addr} {xs ys : List V}
theorem SqL.of {K : PySem.W.Frag} (h : H a = some (.lst xs)) : SqL K H a xs := .inl (.inl h)
theorem SqT.of {K : PySem.W.Frag} (h : H a = some (.tup xs)) : SqT K H a xs := .inl (.inl h)
theorem Inv.list (I : Inv X pins σ H s) (h : SqL X.K H a xs) : ∃ its : List Value, Vals xs its ∧ PlainL s.heap a its.toArray ∧ xs.length ≤ sizeLine := by
  rcases h with h | ⟨o, its, n, hk, hc, hd, hs, hz, r⟩
  · obtain ⟨z, its, n, r, e⟩ := h.ok I.hok
    exact ⟨its, r, ⟨_, n, e, rfl, rfl, rfl⟩, z⟩
  · refine ⟨its.toList, r, ⟨o, n, I.kIn a o hk, hc, hd, by simpa using hs⟩, ?_⟩
    have e := r.length
    simp only [Array.length_toList] at e
    omega
theorem Inv.tuple (I : Inv X pins σ H s) (h : SqT X.K H a xs) : ∃ its : List Value, Vals xs its ∧ IsTup s.heap a its.toArray ∧ xs.length ≤ sizeLine := by
  rcases h with h | ⟨o, its, n, hk, hc, hs, hz, r⟩
  · obtain ⟨z, its, r, p⟩ := h.ok I.hok
    exact ⟨its, r, p, z⟩
  · refine ⟨its.toList, r, ⟨o, I.kIn a o hk, hc, n, by simpa using hs⟩, ?_⟩
    have e := r.length
    simp only [Array.length_toList] at e
    omega
theorem Inv.list_inj (I : Inv X pins σ H s) (h : SqL X.K H a xs) (h' : SqL X.K H a ys) : xs = ys := by
  obtain ⟨its, r, ⟨o, n, e, _, _, d⟩, _⟩ := I.list h
  obtain ⟨its', r', ⟨o', n', e', _, _, d'⟩, _⟩ := I.list h'
  rw [e] at e'; cases e'
  rw [d] at d'
  injection d' with d1 _
  have : its = its' := by simpa using congrArg Array.toList d1
  subst this
  exact r.inj r'
theorem Inv.tuple_inj (I : Inv X pins σ H s) (h : SqT X.K H a xs) (h' : SqT X.K H a ys) : xs = ys := by
  obtain ⟨its, r, ⟨o, e, _, n, d⟩, _⟩ := I.tuple h
  obtain ⟨its', r', ⟨o', e', _, n', d'⟩, _⟩ := I.tuple h'
  rw [e] at e'; cases e'
  rw [d] at d'
  injection d' with d1 _
  have : its = its' := by simpa using congrArg Array.toList d1
  subst this
  exact r.inj r'
end

/-! ### another wish about exceptions -/
abbrev Cx.wish (X : Cx) (E : Value → Shared → Prop) : Cx := { X with xe := E }
/-- no exception leaves -/
abbrev Cx.nox (X : Cx) : Cx := X.wish fun _ _ => False
theorem Cx.Ok.wish {X : Cx} (ok : X.Ok) (E : Value → Shared → Prop) : (X.wish E).Ok :=
  ⟨ok.mod, ok.kind, ok.glob, ok.blt, ok.above, ok.inj, ok.has, ok.cab, ok.hd, ok.frames, ok.stk, ok.exf, ok.bs, ok.bsz, ok.noex, ok.exfs, ok.funs, ok.frf⟩
theorem Cx.Ok.unwish {X : Cx} {E : Value → Shared → Prop} (ok : (X.wish E).Ok) : X.Ok :=
  ⟨ok.mod, ok.kind, ok.glob, ok.blt, ok.above, ok.inj, ok.has, ok.cab, ok.hd, ok.frames, ok.stk, ok.exf, ok.bs, ok.bsz, ok.noex, ok.exfs, ok.funs, ok.frf⟩
section
variable {X : Cx} {pins : List (Addr × Obj)} {σ : St} {H : Hp} {s : Shared} {E : Value → Shared → Prop}
theorem Inv.wish (I : Inv X pins σ H s) (E : Value → Shared → Prop) : Inv (X.wish E) pins σ H s := ⟨I.ok.wish E, I.os, I.bare, I.base, I.loc, I.cell, I.free, I.freeC, I.pin, I.hok, I.len⟩
theorem Inv.unwish (I : Inv (X.wish E) pins σ H s) : Inv X pins σ H s := ⟨I.ok.unwish, I.os, I.bare, I.base, I.loc, I.cell, I.free, I.freeC, I.pin, I.hok, I.len⟩
theorem SP.unwish {D : Ends} {f : Flow} {s' : Shared} (h : SP (X.wish E) pins D f s') : SP X pins D f s' := by
  cases f with
  | next => obtain ⟨σ', H', I, q⟩ := h; exact ⟨σ', H', I.unwish, q⟩
  | brk => obtain ⟨σ', H', I, q⟩ := h; exact ⟨σ', H', I.unwish, q⟩
  | cont => obtain ⟨σ', H', I, q⟩ := h; exact ⟨σ', H', I.unwish, q⟩
  | ret u => obtain ⟨v, σ', H', I, r, q⟩ := h; exact ⟨v, σ', H', I.unwish, r, q⟩
theorem PE.nox {e : Expr} {t : TE} (h : PE X.nox e t) : PE X e t := fun pins s σ H Q I hw =>
  wpAny_mono (h pins s σ H Q (I.wish _) hw) (fun _ _ ⟨v, H', I', r, q⟩ => ⟨v, H', I'.unwish, r, q⟩) fun _ _ z => False.elim z
theorem PT.nox {e : Expr} {t : TT} (h : PT X.nox e t) : PT X e t := fun pins s σ H Q I hw =>
  wpAny_mono (h pins s σ H Q (I.wish _) hw) (fun _ _ ⟨H', I', q⟩ => ⟨H', I'.unwish, q⟩) fun _ _ z => False.elim z
theorem PSs.nox {st : List Stmt} {t : TS} (h : PSs X.nox st t) : PSs X st t := fun pins s σ H D I hw =>
  wpAny_mono (h pins s σ H D (I.wish _) hw) (fun _ _ q => q.unwish) fun _ _ z => False.elim z
end

/-! ### blocks and small statements -/
section
variable {X : Cx} {st : Stmt} {rest : List Stmt} {t u : TS} {e : Expr} {te : TE} {pos : Pos}
def tNext : TS := fun D σ H => D.nx σ H
def tSeq (t u : TS) : TS := fun D σ H => t { D with nx := u D } σ H
theorem pss_nil : PSs X [] tNext := fun _ _ σ H _ I h => wpAny_execs_nil ⟨σ, H, I, h⟩
theorem pss_cons (h1 : PS X st t) (h2 : PSs X rest u) : PSs X (st :: rest) (tSeq t u) := by
  intro pins s σ H D I h
  refine wpAny_execs_cons (thn (h1 pins s σ H { D with nx := u D } I h) fun f s1 q => ?_)
  cases f with
  | next =>
    obtain ⟨σ', H', I', q⟩ := q
    exact h2 pins s1 σ' H' D I' q
  | ret v => exact q
  | brk => exact q
  | cont => exact q
theorem pss_one (h1 : PS X st t) : PSs X [st] t := by
  intro pins s σ H D I h
  refine wpAny_execs_cons (thn (h1 pins s σ H D I h) fun f s1 q => ?_)
  cases f with
  | next => exact wpAny_execs_nil q
  | ret v => exact q
  | brk => exact q
  | cont => exact q
def tBreak : TS := fun D σ H => D.bk σ H
def tCont : TS := fun D σ H => D.ct σ H
theorem ps_pass : PS X (.Pass pos) tNext := fun _ _ σ H _ I h => wpAny_Pass ⟨σ, H, I, h⟩
theorem ps_break : PS X (.Break pos) tBreak := fun _ _ σ H _ I h => wpAny_Break ⟨σ, H, I, h⟩
theorem ps_continue : PS X (.Continue pos) tCont := fun _ _ σ H _ I h => wpAny_Continue ⟨σ, H, I, h⟩
/-- in a def's body nothing is shown -/
theorem Inv.quiet {pins : List (Addr × Obj)} {σ : St} {H : Hp} {s : Shared} (I : Inv X pins σ H s) : interactive X.env = false := by simp [interactive, I.ok.kind]
/-- a docstring -/
theorem ps_doc {x j pos pos'} : PS X (.Expr (.Constant (.str x) j pos) pos') tNext := fun _ s σ H _ I h => wpAny_Expr (Calls.Constant_str (show SP X _ _ .next { s with toks := s.toks + 1 } from ⟨σ, H, I.tok _, h⟩)) I.quiet
/-- an expression whose value is dropped -/
def tDrop (te : TE) : TS := fun D σ H => te σ H fun _ H1 => D.nx σ H1
theorem ps_expr (he : PE X e te) (hs : swapsWith e none pos.line X.env = pure false := by rfl) : PS X (.Expr e pos) (tDrop te) := by
  intro pins s σ H D I h
  exact wpAny_Expr_any (thn (he pins s σ H _ I h) fun v s1 ⟨x, H1, I1, r1, q1⟩ => ⟨σ, H1, I1, q1⟩) I.quiet hs
def tRet (te : TE) : TS := fun D σ H => te σ H D.rt
theorem ps_ret (he : PE X e te) : PS X (.Return (some e) pos) (tRet te) := by
  intro pins s σ H D I h
  exact wpAny_Return_some (thn (he pins s σ H _ I h) fun v s1 ⟨x, H1, I1, r1, q1⟩ => ⟨x, σ, H1, I1, r1, q1⟩)
def tRetN : TS := fun D _ H => D.rt .non H
theorem ps_retN : PS X (.Return none pos) tRetN := fun _ _ σ H _ I h => wpAny_Return_none ⟨.non, σ, H, I, rfl, h⟩
def tIfS (c : TT) (t u : TS) : TS := fun D σ H => c σ H fun b H1 => if b = true then t D σ H1 else u D σ H1
theorem ps_if {c : Expr} {a b : List Stmt} {tc : TT} (hc : PT X c tc) (ha : PSs X a t) (hb : PSs X b u) : PS X (.If c a b pos) (tIfS tc t u) := by
  intro pins s σ H D I h
  refine wpAny_If (thn (hc pins s σ H _ I h) fun d s1 ⟨H1, I1, q1⟩ => ?_)
  cases d with
  | true => exact ha pins s1 σ H1 D I1 q1
  | false => exact hb pins s1 σ H1 D I1 q1
/-- code that the proof never comes to -/
def tNever : TS := fun _ _ _ => False
theorem ps_never : PS X st tNever := fun _ _ _ _ _ _ h => h.elim
theorem pss_never {sts : List Stmt} : PSs X sts tNever := fun _ _ _ _ _ _ h => h.elim
end

/-! ### targets -/
abbrev TG := V → St → Hp → (St → Hp → Prop) → Prop
abbrev TGs := List V → St → Hp → (St → Hp → Prop) → Prop
def PG (X : Cx) (target : Expr) (t : TG) : Prop :=
  ∀ (pins : List (Addr × Obj)) (s : Shared) (σ : St) (H : Hp) (v : V) (u : Value) (Q : St → Hp → Prop), Inv X pins σ H s → RelV v u → t v σ H Q →
    wpAny (model X.prog X.w) X.A (assign target X.env u) (fun _ s' => ∃ σ' H', Inv X pins σ' H' s' ∧ Q σ' H') X.xe s
/-- several targets, one after another -/
def PGs (X : Cx) (ts : List Expr) (t : TGs) : Prop :=
  ∀ (pins : List (Addr × Obj)) (s : Shared) (σ : St) (H : Hp) (vs : List V) (us : List Value) (Q : St → Hp → Prop), Inv X pins σ H s → Vals vs us → t vs σ H Q →
    wpAny (model X.prog X.w) X.A (assignInOrder ((assignEach ts X.env).map (·.2)) us) (fun _ s' => ∃ σ' H', Inv X pins σ' H' s' ∧ Q σ' H') X.xe s
/-- o[i] = v, by values -/
abbrev TSet := V → V → V → Hp → (Hp → Prop) → Prop
def PSet (X : Cx) (t : TSet) : Prop :=
  ∀ (pins : List (Addr × Obj)) (s : Shared) (σ : St) (H : Hp) (o i v : V) (ov iv u : Value) (Q : Hp → Prop), Inv X pins σ H s → RelV o ov → RelV i iv → RelV v u → t o i v H Q →
    wpAny (model X.prog X.w) X.A (setItem ov iv u) (fun _ s' => ∃ H', Inv X pins σ H' s' ∧ Q H') X.xe s
/-- a op= b, by values -/
abbrev TIp := V → V → Hp → VK → Prop
def PIp (X : Cx) (op : Operator) (t : TIp) : Prop :=
  ∀ (pins : List (Addr × Obj)) (s : Shared) (σ : St) (H : Hp) (x y : V) (v u : Value) (Q : VK), Inv X pins σ H s → RelV x v → RelV y u → t x y H Q →
    wpAny (model X.prog X.w) X.A (inplaceOp op v u) (EP X pins σ Q) X.xe s
section
variable {X : Cx} {pos : Pos}
def gName (i : Nat) : TG := fun v σ H Q => Q (σ.set i (some v)) H
theorem pg_name {i : Nat} {x : Str} (hN : X.N.Nodup) (hi : X.N[i]? = some x) (hx : Loc X.env.scope x) (hf : X.fn x = true ∨ X.env.scope.names.lookup x = some .local := by first | exact .inl rfl | exact .inr rfl | assumption) : PG X (.Name x pos) (gName i) := by
  intro pins s σ H v u Q I r h
  exact wpAny_assign_Name (store_ok I hN hi hx r (fun s' I' => ⟨_, H, I', h⟩) hf)
def gNil : TGs := fun vs σ H Q => vs = [] ∧ Q σ H
def gCons (t : TG) (u : TGs) : TGs := fun vs σ H Q => ∃ v r, vs = v :: r ∧ t v σ H fun σ' H' => u r σ' H' Q
theorem pgs_nil : PGs X [] gNil := by
  intro pins s σ H vs us Q I r h
  obtain ⟨e, h⟩ := h
  subst e
  cases r
  exact assignInOrder_nil ⟨σ, H, I, h⟩
theorem pgs_cons {e : Expr} {es : List Expr} {t : TG} {u : TGs} (h1 : PG X e t) (h2 : PGs X es u)
    (hs : (assignEach (e :: es) X.env).map (·.2) = assign e X.env :: (assignEach es X.env).map (·.2) := by rfl) : PGs X (e :: es) (gCons t u) := by
  intro pins s σ H vs us Q I r h
  obtain ⟨v, vr, e1, h⟩ := h
  subst e1
  cases r with
  | cons r rr =>
    rw [hs]
    refine assignInOrder_cons (thn (h1 pins s σ H _ _ _ I r h) fun _ s1 ⟨σ1, H1, I1, q1⟩ => ?_)
    exact h2 pins s1 σ1 H1 _ _ Q I1 rr q1
/-- (a, b, ..) = a tuple of that length -/
def gTup (K : PySem.W.Frag) (n : Nat) (t : TGs) : TG := fun v σ H Q => ∃ a xs, v = .ref a ∧ SqT K H a xs ∧ xs.length = n ∧ t xs σ H Q
theorem pg_tup {es : List Expr} {k : Nat} {t : TGs} {n : Nat} (hc : X.calm = true) (h : PGs X es t)
    (hn : (assignEach es X.env).length = n := by rfl) (hst : (assignEach es X.env).findIdx? (·.1) = none := by rfl) : PG X (.Tuple es k pos) (gTup X.K n t) := by
  intro pins s σ H v u Q I r hw
  obtain ⟨a, xs, e1, hq, hl, hw⟩ := hw
  subst e1
  cases r
  obtain ⟨its, rv, ht, hz⟩ := I.tuple hq
  refine assign_Tuple_tuple (I.ok.hd hc) ht (by simp [hn, ← hl, rv.length]) hst fun h' hx => ?_
  have I1 : Inv X pins σ H { s with heap := h' } := I.kept (t' := s.toks) fun b o e => hx b o (Nat.ne_of_lt (Heap.lt_size e)) e
  exact h pins _ σ H xs _ Q I1 (by simpa using rv) hw
/-- o[i] = .. -/
def gSub (to ti : TE) (t : TSet) : TG := fun v σ H Q => to σ H fun o H1 => ti σ H1 fun i H2 => t o i v H2 fun H3 => Q σ H3
theorem pg_sub {o i : Expr} {to ti : TE} {t : TSet} (ho : PE X o to) (hi : PE X i ti) (hs : PSet X t)
    (ha : ∀ v, assign (.Subscript o i pos) X.env v = (do
      let ov ← holding [v] (eval o X.env)
      let iv ← holding [v, ov] (eval i X.env)
      standAt pos
      holding [v, ov, iv] (setItem ov iv v)
      release [v, ov, iv] []) := by intro _; rfl) : PG X (.Subscript o i pos) (gSub to ti t) := by
  intro pins s σ H v u Q I r h
  rw [ha]
  refine wpAny_bind (wpAny_holding (thn (ho pins s σ H _ I h) fun ov s1 ⟨x, H1, I1, r1, q1⟩ => ?_))
  refine wpAny_bind (wpAny_holding (thn (hi pins s1 σ H1 _ I1 q1) fun iv s2 ⟨y, H2, I2, r2, q2⟩ => ?_))
  refine wpAny_bind (wpAny_standAt (wpAny_bind (wpAny_holding (thn (hs pins s2 σ H2 x y v ov iv u _ I2 r1 r2 r q2) fun _ s3 ⟨H3, I3, q3⟩ => ?_))))
  exact wpAny_release ⟨σ, H3, I3, q3⟩
/-- target = value -/
def tAsg (te : TE) (g : TG) : TS := fun D σ H => te σ H fun x H1 => g x σ H1 D.nx
theorem ps_asg {tg e : Expr} {te : TE} {g : TG} (he : PE X e te) (hg : PG X tg g) (hs : swapsWithSole [tg] e pos.line X.env = pure false := by rfl) (hw : swappedStores [tg] e X.env = pure none := by rfl)
    (h1 : (assignEach [tg] X.env).map (·.2) = [assign tg X.env] := by rfl) : PS X (.Assign [tg] e pos) (tAsg te g) := by
  intro pins s σ H D I h
  refine wpAny_Assign_stores (thn (he pins s σ H _ I h) fun v s1 ⟨x, H1, I1, r1, q1⟩ => ?_) hs hw
  rw [h1]
  exact thn (hg pins s1 σ H1 x v _ I1 r1 q1) fun _ s2 q => q
/-- name = value -/
theorem ps_set {i : Nat} {x : Str} {e : Expr} {te : TE} {pos' : Pos} (hN : X.N.Nodup) (hi : X.N[i]? = some x) (hx : Loc X.env.scope x) (he : PE X e te) (hs : swapsWith e (some (.Name x pos')) pos.line X.env = pure false := by rfl) (hf : X.fn x = true ∨ X.env.scope.names.lookup x = some .local := by first | exact .inl rfl | exact .inr rfl | assumption) :
    PS X (.Assign [.Name x pos'] e pos) (tAsg te (gName i)) := by
  intro pins s σ H D I h
  refine wpAny_Assign_Name (thn (he pins s σ H _ I h) fun v s1 ⟨y, H1, I1, r1, q1⟩ => ?_) hs
  exact store_ok I1 hN hi hx r1 (fun s2 I2 => ⟨_, H1, I2, q1⟩) hf
/-- a, b = x, y with plain local names: stored from the right; the pair itself is not tracked (the opening rows as in PyProof/Rows/TupAssign.lean:23) -/
def tPar (i j : Nat) (ta : TA) : TS := fun D σ H => ta σ H fun vs H1 => ∃ v w, vs = [v, w] ∧ D.nx ((σ.set i (some v)).set j (some w)) H1
theorem ps_par {i j : Nat} {x y : Str} {a b : Expr} {ta : TA} {px py pt : Pos} {kt k2 pt2} (hc : X.calm = true) (hN : X.N.Nodup) (hi : X.N[i]? = some x) (hj : X.N[j]? = some y) (hij : i ≠ j)
    (hx : X.env.scope.names.lookup x = some .local) (hy : X.env.scope.names.lookup y = some .local) (ha : PA X [a, b] ta)
    (hw : swappedStores [.Tuple [.Name x px, .Name y py] kt pt] (.Tuple [a, b] k2 pt2) X.env = pure (some [x, y]))
    (hs : swapsWithSole [.Tuple [.Name x px, .Name y py] kt pt] (.Tuple [a, b] k2 pt2) pos.line X.env = pure false := by rfl) :
    PS X (.Assign [.Tuple [.Name x px, .Name y py] kt pt] (.Tuple [a, b] k2 pt2) pos) (tPar i j ta) := by
  intro pins s σ H D I h
  rw [exec_Assign_arm]
  refine wpAny_bind (wpAny_standAt ?_)
  rw [hs]
  refine wpAny_bind (wpAny_pure ?_)
  rw [if_neg (by decide)]
  refine wpAny_bind (Tuple_ (thn (ha _ pins s σ H _ I h) fun us s1 ⟨vs, H1, I1, r1, q1⟩ => ?_))
  obtain ⟨v, w, e1, q1⟩ := q1
  subst e1
  obtain ⟨u1, u2, rfl, rv, rw'⟩ : ∃ u1 u2, us = [u1, u2] ∧ RelV v u1 ∧ RelV w u2 := by
    cases r1 with
    | cons p q =>
      cases q with
      | cons p' q' =>
        cases q'
        exact ⟨_, _, rfl, p, p'⟩
  refine wpAny_newObj_type ?_ (by show 2 ≤ sizeLine; decide)
  have I2 : Inv X pins σ H1 { s1 with heap := s1.heap.push { cls := .type "tuple", data := .seq [u1, u2].toArray } } := I1.kept (t' := s1.toks) fun b o e => Heap.get?_push_of_some _ e
  rw [hw]
  refine wpAny_bind (wpAny_pure ?_)
  show wpAny (model X.prog X.w) X.A (do rule "assign.swapped-stores"; let items ← unpackItems (.ref s1.heap.objs.size) 2 none; assignInOrder [fun v => bindName X.env y v, fun v => bindName X.env x v] items.reverse; pure Flow.next) _ _ _
  refine wpAny_bind (wpAny_rule (wpAny_bind (unpackItems_tuple (items := #[u1, u2]) (I.ok.hd hc) (IsTup.new s1.heap _) fun h' hx' => ?_)))
  have I3 := I2.kept (h' := h') (t' := s1.toks) fun b o e => hx' b o (Nat.ne_of_lt (Heap.lt_size e)) e
  show wpAny _ _ (assignInOrder [fun v => bindName X.env y v, fun v => bindName X.env x v] [u2, u1] >>= fun _ => pure Flow.next) _ _ _
  refine wpAny_bind (assignInOrder_cons (wpAny_bindName (store_ok I3 hN hj (.inl hy) rw' (fun s2 I4 => ?_) (.inr hy))))
  refine assignInOrder_cons (wpAny_bindName (store_ok I4 hN hi (.inl hx) rv (fun s3 I5 => assignInOrder_nil (wpAny_pure ?_)) (.inr hx)))
  rw [List.set_comm _ _ (Ne.symm hij)] at I5
  exact ⟨_, H1, I5, q1⟩
/-- name op= e -/
def tAug (i : Nat) (te : TE) (ti : TIp) : TS := fun D σ H => ∃ x, σ[i]? = some (some x) ∧ te σ H fun y H1 => ti x y H1 fun z H2 => D.nx (σ.set i (some z)) H2
theorem ps_aug {i : Nat} {x : Str} {e : Expr} {te : TE} {op : Operator} {ti : TIp} {pos' : Pos} (hN : X.N.Nodup) (hi : X.N[i]? = some x) (hx : Loc X.env.scope x) (he : PE X e te) (ho : PIp X op ti) (hf : X.fn x = true ∨ X.env.scope.names.lookup x = some .local := by first | exact .inl rfl | exact .inr rfl | assumption) :
    PS X (.AugAssign (.Name x pos') op e pos) (tAug i te ti) := by
  intro pins s σ H D I h
  obtain ⟨v, e1, h⟩ := h
  obtain ⟨m, hn, hl⟩ := I.loc
  have vis : Vis X.env.scope x := by rcases hx with k | k; exact .inl k; exact .inr (.inl k)
  obtain ⟨u, r, l⟩ := hl i x v hi e1 vis
  refine wpAny_AugAssign_Name ?_
  have go : wpAny (model X.prog X.w) X.A (eval e X.env) (fun w s₂ => wpAny (model X.prog X.w) X.A (inplaceOp op u w) (fun r s₃ => wpAny (model X.prog X.w) X.A (storeName X.env x r) (fun _ => SP X pins D .next) X.xe s₃) X.xe s₂) X.xe s := by
    refine thn (he pins s σ H _ I h) fun w s1 ⟨y, H1, I1, r1, q1⟩ => ?_
    refine thn (ho pins s1 σ H1 v y u w _ I1 r r1 q1) fun z s2 ⟨zv, H2, I2, r2, q2⟩ => ?_
    exact store_ok I2 hN hi hx r2 (fun s3 I3 => ⟨_, H2, I3, q2⟩) hf
  rcases l with ⟨hk, hm⟩ | ⟨hk, c, hc, hcell⟩
  · exact wpAny_loadName_local I.ok.kind hk hn hm go
  · rcases hk with hk | hk
    · exact wpAny_loadName_cell I.ok.kind hk hc hcell go
    · rcases hx with k | k
      · have : X.env.scope.names.lookup x = some .free := hk
        rw [k] at this; cases this
      · have : X.env.scope.names.lookup x = some .free := hk
        rw [k] at this; cases this
/-- o[i] op= e -/
def tAugS (to ti te : TE) (tget : V → V → Hp → VK → Prop) (tip : TIp) (tset : TSet) : TS := fun D σ H => to σ H fun o H1 => ti σ H1 fun i H2 => tget o i H2 fun x H3 => te σ H3 fun y H4 => tip x y H4 fun z H5 => tset o i z H5 fun H6 => D.nx σ H6
/-- o[i], by values -/
def PGet (X : Cx) (t : V → V → Hp → VK → Prop) : Prop :=
  ∀ (pins : List (Addr × Obj)) (s : Shared) (σ : St) (H : Hp) (o i : V) (ov iv : Value) (Q : VK), Inv X pins σ H s → RelV o ov → RelV i iv → t o i H Q →
    wpAny (model X.prog X.w) X.A (getItem ov iv) (EP X pins σ Q) X.xe s
theorem ps_augS {o i e : Expr} {to ti te : TE} {tget : V → V → Hp → VK → Prop} {tip : TIp} {tset : TSet} {op : Operator} {tpos : Pos} (ho : PE X o to) (hi : PE X i ti) (hg : PGet X tget) (he : PE X e te) (hp : PIp X op tip) (hs : PSet X tset)
    (ha : ∀ ov iv new, augStore i ov iv new = (do holding [new, ov, iv] (setItem ov iv new); release [new, ov, iv] []; pure .next) := by intros; rfl) : PS X (.AugAssign (.Subscript o i tpos) op e pos) (tAugS to ti te tget tip tset) := by
  intro pins s σ H D I h
  refine wpAny_AugAssign_SubscriptAny (thn (ho pins s σ H _ I h) fun ov s1 ⟨x1, H1, I1, r1, q1⟩ => ?_) ha
  refine thn (hi pins s1 σ H1 _ I1 q1) fun iv s2 ⟨x2, H2, I2, r2, q2⟩ => ?_
  refine thn (hg pins s2 σ H2 x1 x2 ov iv _ I2 r1 r2 q2) fun old s3 ⟨x3, H3, I3, r3, q3⟩ => ?_
  refine thn (he pins s3 σ H3 _ I3 q3) fun v s4 ⟨x4, H4, I4, r4, q4⟩ => ?_
  refine thn (hp pins s4 σ H4 x3 x4 old v _ I4 r3 r4 q4) fun new s5 ⟨x5, H5, I5, r5, q5⟩ => ?_
  exact thn (hs pins s5 σ H5 x1 x2 x5 ov iv new _ I5 r1 r2 r5 q5) fun _ s6 ⟨H6, I6, q6⟩ => ⟨σ, H6, I6, q6⟩
/-- ints -/
def ipI (f : Int → Int → Int) : TIp := fun x y H Q => ∃ i j, x = .int i ∧ y = .int j ∧ Q (.int (f i j)) H
theorem ip_add : PIp X .Add (ipI fun i j => i + j) := by
  intro pins s σ H x y v u Q I r1 r2 h
  obtain ⟨i, j, e1, e2, q⟩ := h
  subst e1; subst e2
  obtain ⟨t, rfl⟩ := r1
  obtain ⟨t', rfl⟩ := r2
  exact iadd_int ⟨.int _, H, I.tok _, ⟨_, rfl⟩, q⟩
theorem ip_sub : PIp X .Sub (ipI fun i j => i - j) := by
  intro pins s σ H x y v u Q I r1 r2 h
  obtain ⟨i, j, e1, e2, q⟩ := h
  subst e1; subst e2
  obtain ⟨t, rfl⟩ := r1
  obtain ⟨t', rfl⟩ := r2
  exact isub_int ⟨.int _, H, I.tok _, ⟨_, rfl⟩, q⟩
end

/-! ### while -/
section
variable {X : Cx} {pos : Pos}
/-- the invariant W with its measure -/
def tWhile (c : TT) (tb : TS) : TS := fun D σ H => ∃ W : Nat → St → Hp → Prop, (∃ m, W m σ H) ∧ ∀ m σ H, W m σ H →
  c σ H fun b H1 => if b = true then ∃ N : St → Hp → Prop, (∀ σ' H', N σ' H' → ∃ m', m' < m ∧ W m' σ' H') ∧ tb { D with nx := N, ct := N, bk := D.nx } σ H1 else D.nx σ H1
theorem ps_while {c : Expr} {body : List Stmt} {tc : TT} {tb : TS} (hp : PassesOwn (model X.prog X.w) X.A X.env X.xe) (hc : PT X c tc) (hb : PSs X body tb) : PS X (.While c body [] pos) (tWhile tc tb) := by
  intro pins s σ H D I h
  obtain ⟨W, ⟨m0, w0⟩, turn⟩ := h
  refine wpAny_While (codeAny_whileLoop (fun n s' => ∃ σ' H', Inv X pins σ' H' s' ∧ W n σ' H') ?_ m0 ⟨σ, H, I, w0⟩)
  rintro n s1 ⟨σ1, H1, I1, w1⟩
  refine wpAny_passesOwn hp (thn (hc pins s1 σ1 H1 _ I1 (turn n σ1 H1 w1)) fun b s2 ⟨H2, I2, q2⟩ => ?_)
  cases b with
  | true =>
    obtain ⟨N, hN, q2⟩ := q2
    rw [if_pos rfl]
    refine wpAny_passesOwn hp (thn (hb pins s2 σ1 H2 _ I2 q2) fun f s3 q3 => ?_)
    cases f with
    | next =>
      obtain ⟨σ3, H3, I3, n3⟩ := q3
      obtain ⟨m', hm, w3⟩ := hN σ3 H3 n3
      exact ⟨m', hm, σ3, H3, I3, w3⟩
    | cont =>
      obtain ⟨σ3, H3, I3, n3⟩ := q3
      obtain ⟨m', hm, w3⟩ := hN σ3 H3 n3
      exact ⟨m', hm, σ3, H3, I3, w3⟩
    | brk => exact q3
    | ret v => exact q3
  | false =>
    rw [if_neg Bool.false_ne_true]
    exact wpAny_execs_nil ⟨σ1, H2, I2, q2⟩
end

/-! ### what a loop or a comprehension walks -/
/-- at turn i: it yields x (the heap may grow), or it stops -/
structure It where
  go : Nat → Hp → Prop
  yld : Nat → Hp → V → Hp → Prop
  stop : Nat → Hp → Prop
/-- the iterator's own objects may turn: they are not the frame's, not pinned, younger than the entry (or a comprehension's own) -/
def FpOk (X : Cx) (pins : List (Addr × Obj)) (H : Hp) (b : Addr) : Prop :=
  H b = none ∧ b ≠ X.env.locals ∧ b ∉ X.fs ∧ (b ∈ X.ex ∨ X.s₀.heap.objs.size ≤ b) ∧ (∀ x c, X.env.cells.lookup x = some c → c ≠ b) ∧ ∀ p ∈ X.pn ++ pins, p.1 ≠ b
theorem Inv.fpOk {X : Cx} {pins : List (Addr × Obj)} {σ : St} {H H' : Hp} {s : Shared} {b : Addr} (I : Inv X pins σ H s) (hb : s.heap.objs.size ≤ b) (hn : H' b = none) : FpOk X pins H' b := by
  refine ⟨hn, Nat.ne_of_gt (Nat.lt_of_lt_of_le I.lt hb), I.nofs hb, .inr (Nat.le_trans I.sz hb), fun x c e z => ?_, fun p hp z => ?_⟩
  · obtain ⟨v, q⟩ := I.cell x c e
    exact absurd (Nat.lt_of_lt_of_le q.lt (by rw [z]; exact hb)) (Nat.lt_irrefl _)
  · exact absurd (Nat.lt_of_lt_of_le (Heap.lt_size (I.pin p hp).1) (by rw [z]; exact hb)) (Nat.lt_irrefl _)
structure Turn (P : Program) (w : World) (K : PySem.W.Frag) (tg : Expr) (J : It) (fp : List Addr) (it : Addr) (tn : Nat → Heap → Prop) : Prop where
  mem : it ∈ fp
  obj : ∀ i h, tn i h → ∀ b ∈ fp, ∃ o, h.get? b = some o ∧ ∀ v, o.data ≠ .cell v
  keep : ∀ i h h', tn i h → (∀ b ∈ fp, ∀ o, h.get? b = some o → h'.get? b = some o) → tn i h'
  item : ∀ (X : Cx), X.prog = P → X.w = w → X.K = K → X.calm = true → ∀ (i : Nat) (pins : List (Addr × Obj)) (s : Shared) (σ : St) (H : Hp) (E : Value → Shared → Prop), Inv X pins σ H s → (∀ b ∈ fp, FpOk X pins H b) → tn i s.heap → J.go i H →
    wpAny (model P w) X.A (pyNext (.ref it)) (fun r s1 => ∃ u, r = some u ∧
      wpAny (model P w) X.A (letOwnedTupleGo tg (.ref it) u) (fun _ s2 => ∃ x H', Inv X pins σ H' s2 ∧ RelV x u ∧ J.yld i H x H' ∧ tn (i + 1) s2.heap ∧ ∀ b ∈ fp, H' b = none) E s1) E s
  done : ∀ (X : Cx), X.prog = P → X.w = w → X.K = K → X.calm = true → ∀ (i : Nat) (pins : List (Addr × Obj)) (s : Shared) (σ : St) (H : Hp) (E : Value → Shared → Prop), Inv X pins σ H s → (∀ b ∈ fp, FpOk X pins H b) → tn i s.heap → J.stop i H →
    wpAny (model P w) X.A (pyNext (.ref it)) (fun r s1 => r = none ∧ Inv X pins σ H s1) E s
  self : ∀ (A : Around) (i : Nat) (s : Shared) (Q : Value → Shared → Prop) (E : Value → Shared → Prop), tn i s.heap → Q (.ref it) s → wpAny (model P w) A (pyIter (.ref it)) Q E s
abbrev TI := St → Hp → (It → Hp → Prop) → Prop
/-- an iterator has come -/
def PIE (X : Cx) (pins : List (Addr × Obj)) (σ : St) (tg : Expr) (R : It → Hp → Prop) (itv : Value) (s2 : Shared) : Prop :=
  ∃ (it : Addr) (fp : List Addr) (tn : Nat → Heap → Prop) (J : It) (H' : Hp), itv = .ref it ∧ Inv X pins σ H' s2 ∧ Turn X.prog X.w X.K tg J fp it tn ∧ tn 0 s2.heap ∧ (∀ b ∈ fp, FpOk X pins H' b) ∧ R J H'
def PI (X : Cx) (tg iter : Expr) (wi : TI) : Prop :=
  ∀ (pins : List (Addr × Obj)) (s : Shared) (σ : St) (H : Hp) (R : It → Hp → Prop), Inv X pins σ H s → wi σ H R →
    wpAny (model X.prog X.w) X.A (eval iter X.env) (fun v s1 => wpAny (model X.prog X.w) X.A (pyIter v) (PIE X pins σ tg R) X.xe s1) X.xe s

/-- the step ahead of the store is nothing for an iterator that keeps no tuple -/
theorem go_of {M : Model} {A : Around} {E : Value → Shared → Prop} {s : Shared} {tg : Expr} {it : Addr} {u : Value} {o : Obj} {n : String} {vs : Array Value} {Q : Unit → Shared → Prop} (ho : s.heap.get? it = some o) (hc : o.cls = .type n) (hd : o.data = .fields vs)
    (hn : ["enumerate", "zip", "dict_itemiterator", "dict_reverseitemiterator", "odict_iterator", "itertools.zip_longest", "itertools.pairwise"].contains n = false) (hQ : Q () s) : wpAny M A (letOwnedTupleGo tg (.ref it) u) Q E s := by
  unfold letOwnedTupleGo
  cases tg <;> first
    | exact wpAny_pure hQ
    | (cases u <;> first
        | exact wpAny_pure hQ
        | (refine wpAny_bind (wpAny_load ho ?_)
           rw [hc, hd]
           show wpAny M A (if (["enumerate", "zip", "dict_itemiterator", "dict_reverseitemiterator", "odict_iterator", "itertools.zip_longest", "itertools.pairwise"].contains n && vs[0]? == some (rawInt _)) = true then _ else _) Q E s
           rw [if_neg (by intro h; rw [hn, Bool.false_and] at h; cases h)]
           exact wpAny_pure hQ))

/-- the list at a, as it stands at each turn (a loop may append to it) -/
def Itl (K : PySem.W.Frag) (a : Addr) : It :=
  ⟨fun i H => ∃ xs x, SqL K H a xs ∧ xs[i]? = some x, fun i H x H' => H' = H ∧ ∀ xs, SqL K H a xs → xs[i]? = some x, fun i H => ∃ xs, SqL K H a xs ∧ xs.length ≤ i⟩
def Itt (K : PySem.W.Frag) (a : Addr) : It :=
  ⟨fun i H => ∃ xs x, SqT K H a xs ∧ xs[i]? = some x, fun i H x H' => H' = H ∧ ∀ xs, SqT K H a xs → xs[i]? = some x, fun i H => ∃ xs, SqT K H a xs ∧ xs.length ≤ i⟩
/-- lo, lo + 1, .. (n of them) -/
def Itr (lo : Int) (n : Nat) : It := ⟨fun i _ => i < n, fun i H x H' => H' = H ∧ x = .int (lo + i), fun i _ => n ≤ i⟩
theorem turn_list {P : Program} {w : World} {K : PySem.W.Frag} {tg : Expr} (a it : Addr) : Turn P w K tg (Itl K a) [it] it (fun i h => h.IsListIter it a i) where
  mem := by simp
  obj := fun i h st b hb => by
    have e : b = it := by simpa using hb
    subst e
    obtain ⟨o, e, c, d⟩ := st
    exact ⟨o, e, fun v z => by rw [d] at z; cases z⟩
  keep := fun i h h' st k => st.at fun o e => k it (by simp) o e
  item := by
    intro X hP hw hK hc i pins s σ H E I hf st hg
    subst hP hw hK
    obtain ⟨xs, x, hq, hx⟩ := hg
    obtain ⟨its, rv, p, hz⟩ := I.list hq
    obtain ⟨u, hu, ru⟩ := rv.get hx
    obtain ⟨f0, f1, f2, f3, f4, f5⟩ := hf it (by simp)
    refine wpAny_pyNext_list_item st p.isList (x := u) (by simpa using hu) fun h' st' sb => ?_
    have I1 : Inv X pins σ H { s with heap := h' } := I.turned (t' := s.toks) (fun b o hb e => (sb.2 b hb).trans e) f0 f1 f3 f4 f5
    obtain ⟨o, e, c, d⟩ := id st'
    exact ⟨u, rfl, go_of (s := { s with heap := h' }) e c d (by decide) ⟨x, H, I1, ru, ⟨rfl, fun ys hy => by rw [I.list_inj hy hq]; exact hx⟩, st', fun b hb => (hf b hb).1⟩⟩
  done := by
    intro X hP hw hK hc i pins s σ H E I hf st hg
    subst hP hw hK
    obtain ⟨xs, hq, hx⟩ := hg
    obtain ⟨its, rv, p, hz⟩ := I.list hq
    obtain ⟨f0, f1, f2, f3, f4, f5⟩ := hf it (by simp)
    have hl := rv.length
    exact wpAny_pyNext_list_end (I.ok.hd hc) st p.isList (by simp; omega) fun h' eb => ⟨rfl, I.turned (t' := s.toks) (fun b o hb e => eb b o hb e) f0 f1 f3 f4 f5⟩
  self := fun _ _ _ _ _ st h => wpAny_pyIter_listiter st h
theorem turn_tuple {P : Program} {w : World} {K : PySem.W.Frag} {tg : Expr} (a it : Addr) : Turn P w K tg (Itt K a) [it] it (fun i h => h.IsTupleIter it a i) where
  mem := by simp
  obj := fun i h st b hb => by
    have e : b = it := by simpa using hb
    subst e
    obtain ⟨o, e, c, d⟩ := st
    exact ⟨o, e, fun v z => by rw [d] at z; cases z⟩
  keep := fun i h h' st k => st.at fun o e => k it (by simp) o e
  item := by
    intro X hP hw hK hc i pins s σ H E I hf st hg
    subst hP hw hK
    obtain ⟨xs, x, hq, hx⟩ := hg
    obtain ⟨its, rv, p, hz⟩ := I.tuple hq
    obtain ⟨u, hu, ru⟩ := rv.get hx
    obtain ⟨f0, f1, f2, f3, f4, f5⟩ := hf it (by simp)
    refine wpAny_pyNext_tuple_item st (show s.heap.IsTuple a its.toArray from p) (x := u) (by simpa using hu) fun h' st' sb => ?_
    have I1 : Inv X pins σ H { s with heap := h' } := I.turned (t' := s.toks) (fun b o hb e => (sb.2 b hb).trans e) f0 f1 f3 f4 f5
    obtain ⟨o, e, c, d⟩ := id st'
    exact ⟨u, rfl, go_of (s := { s with heap := h' }) e c d (by decide) ⟨x, H, I1, ru, ⟨rfl, fun ys hy => by rw [I.tuple_inj hy hq]; exact hx⟩, st', fun b hb => (hf b hb).1⟩⟩
  done := by
    intro X hP hw hK hc i pins s σ H E I hf st hg
    subst hP hw hK
    obtain ⟨xs, hq, hx⟩ := hg
    obtain ⟨its, rv, p, hz⟩ := I.tuple hq
    obtain ⟨f0, f1, f2, f3, f4, f5⟩ := hf it (by simp)
    have hl := rv.length
    exact wpAny_pyNext_tuple_end (I.ok.hd hc) st (show s.heap.IsTuple a its.toArray from p) (by simp; omega) fun h' eb => ⟨rfl, I.turned (t' := s.toks) (fun b o hb e => eb b o hb e) f0 f1 f3 f4 f5⟩
  self := fun _ _ _ _ _ st h => wpAny_pyIter_tupleiter st h
theorem turn_range {P : Program} {w : World} {K : PySem.W.Frag} {tg : Expr} (it : Addr) (lo : Int) (n : Nat) : Turn P w K tg (Itr lo n) [it] it (fun i h => IsRangeIter h it (lo + (i : Nat) * 1) ((n : Int) - (i : Nat)) 1) where
  mem := by simp
  obj := fun i h st b hb => by
    have e : b = it := by simpa using hb
    subst e
    exact ⟨_, st, fun v z => by
      have z' : Data.fields _ = Data.cell v := z
      cases z'⟩
  keep := fun i h h' st k => k it (by simp) _ st
  item := by
    intro X hP hw hK hc i pins s σ H E I hf st hg
    subst hP hw hK
    obtain ⟨f0, f1, f2, f3, f4, f5⟩ := hf it (by simp)
    have W := Walks.range (prog := X.prog) (w := X.w) (I.ok.hd hc) it lo 1 n
    refine W.item i s _ _ hg st fun v h' tk hv st' kk => ?_
    obtain ⟨t, rfl⟩ := hv
    have I1 : Inv X pins σ H { s with heap := h', toks := tk } := I.turned (fun b o hb e => kk b o (by simpa using hb) e) f0 f1 f3 f4 f5
    refine ⟨_, rfl, go_of (s := { s with heap := h', toks := tk }) (n := "range_iterator") st' rfl rfl (by decide) ⟨.int (lo + i), H, I1, ⟨t, ?_⟩, ⟨rfl, rfl⟩, st', fun b hb => (hf b hb).1⟩⟩
    rw [Int.mul_one]
  done := by
    intro X hP hw hK hc i pins s σ H E I hf st hg
    subst hP hw hK
    obtain ⟨f0, f1, f2, f3, f4, f5⟩ := hf it (by simp)
    exact wpAny_pyNext_range_end (I.ok.hd hc) st (by have : n ≤ i := hg; omega) fun h' eb => ⟨rfl, I.turned (t' := s.toks) (fun b o hb e => eb b o hb e) f0 f1 f3 f4 f5⟩
  self := fun _ _ _ _ _ st h => wpAny_pyIter_rangeiter st h
end L2

namespace L2
open PySem PySem.Spec PyProof.Rows
section
variable {X : Cx} {tg : Expr}
def iList (K : PySem.W.Frag) (tl : TE) : TI := fun σ H R => tl σ H fun x H1 => ∃ a, x = .ref a ∧ (∃ xs, SqL K H1 a xs) ∧ R (Itl K a) H1
def iTup (K : PySem.W.Frag) (tl : TE) : TI := fun σ H R => tl σ H fun x H1 => ∃ a, x = .ref a ∧ (∃ xs, SqT K H1 a xs) ∧ R (Itt K a) H1
theorem pi_list {l : Expr} {tl : TE} (hl : PE X l tl) : PI X tg l (iList X.K tl) := by
  intro pins s σ H R I h
  refine thn (hl pins s σ H _ I h) fun v s1 ⟨x, H1, I1, r1, q1⟩ => ?_
  obtain ⟨a, e, ⟨xs, hq⟩, q⟩ := q1
  subst e
  cases r1
  obtain ⟨its, rv, p, hz⟩ := I1.list hq
  refine wpAny_pyIter_list p.isList ?_
  refine ⟨s1.heap.objs.size, [s1.heap.objs.size], _, _, H1, rfl, I1.kept (t' := s1.toks) fun b o e => Heap.get?_push_of_some _ e, turn_list a _, ⟨_, Heap.get?_push_size _ rfl, rfl, rfl⟩, fun b hb => ?_, q⟩
  have e : b = s1.heap.objs.size := by simpa using hb
  subst e
  exact I1.fpOk (Nat.le_refl _) (I1.hok.fresh (Nat.le_refl _))
theorem pi_tup {l : Expr} {tl : TE} (hl : PE X l tl) : PI X tg l (iTup X.K tl) := by
  intro pins s σ H R I h
  refine thn (hl pins s σ H _ I h) fun v s1 ⟨x, H1, I1, r1, q1⟩ => ?_
  obtain ⟨a, e, ⟨xs, hq⟩, q⟩ := q1
  subst e
  cases r1
  obtain ⟨its, rv, p, hz⟩ := I1.tuple hq
  refine wpAny_pyIter_tuple (show s1.heap.IsTuple a its.toArray from p) ?_
  refine ⟨s1.heap.objs.size, [s1.heap.objs.size], _, _, H1, rfl, I1.kept (t' := s1.toks) fun b o e => Heap.get?_push_of_some _ e, turn_tuple a _, ⟨_, Heap.get?_push_size _ rfl, rfl, rfl⟩, fun b hb => ?_, q⟩
  have e : b = s1.heap.objs.size := by simpa using hb
  subst e
  exact I1.fpOk (Nat.le_refl _) (I1.hok.fresh (Nat.le_refl _))
/-- a range object just made, walked -/
theorem range_it {pins : List (Addr × Obj)} {σ : St} {H : Hp} {s : Shared} {R : It → Hp → Prop} {E : Value → Shared → Prop} {lo hi : Int} {t u v : Tok} {tk : Nat} (I : Inv X pins σ H s) (h1 : -(2 ^ 62) ≤ lo) (h2 : lo < 2 ^ 62) (h3 : -(2 ^ 62) ≤ hi) (h4 : hi < 2 ^ 62)
    (q : R (Itr lo (hi - lo).toNat) H) : wpAny (model X.prog X.w) X.A (pyIter (.ref s.heap.objs.size)) (PIE X pins σ tg R) E { s with heap := s.heap.push { cls := .type "range", data := .fields #[.int lo t, .int hi u, .int 1 v] }, toks := tk } := by
  refine wpAny_pyIter_range (IsRange.new ..) (small_one h1 h2 h3 h4) ?_
  have I1 : Inv X pins σ H { s with heap := s.heap.push { cls := .type "range", data := .fields #[.int lo t, .int hi u, .int 1 v] }, toks := tk } := I.kept fun b o e => Heap.get?_push_of_some _ e
  refine ⟨(s.heap.push { cls := .type "range", data := .fields #[.int lo t, .int hi u, .int 1 v] }).objs.size, [(s.heap.push { cls := .type "range", data := .fields #[.int lo t, .int hi u, .int 1 v] }).objs.size], _, _, H, rfl,
    I1.kept (t' := tk) fun b o e => Heap.get?_push_of_some _ e, turn_range _ lo (hi - lo).toNat, ?_, fun b hb => ?_, q⟩
  · have e1 : lo + ((0 : Nat) : Int) * 1 = lo := by simp
    have e2 : (((hi - lo).toNat : Nat) : Int) - ((0 : Nat) : Int) = Builtin.Range.rangeSize lo hi 1 := by rw [rangeSize_one]; split <;> omega
    show IsRangeIter _ _ (lo + ((0 : Nat) : Int) * 1) ((((hi - lo).toNat : Nat) : Int) - ((0 : Nat) : Int)) 1
    rw [e1, e2]
    exact Heap.get?_push_size _ rfl
  · have e : b = (s.heap.push { cls := .type "range", data := .fields #[.int lo t, .int hi u, .int 1 v] }).objs.size := by simpa using hb
    subst e
    exact I1.fpOk (Nat.le_refl _) (I1.hok.fresh (Nat.le_refl _))
def iRng1 (ta : TA) : TI := fun σ H R => ta σ H fun vs H1 => ∃ j : Int, vs = [.int j] ∧ -(2 ^ 62) ≤ j ∧ j < 2 ^ 62 ∧ R (Itr 0 j.toNat) H1
def iRng2 (ta : TA) : TI := fun σ H R => ta σ H fun vs H1 => ∃ i j : Int, vs = [.int i, .int j] ∧ (-(2 ^ 62) ≤ i ∧ i < 2 ^ 62 ∧ -(2 ^ 62) ≤ j ∧ j < 2 ^ 62) ∧ R (Itr i (j - i).toNat) H1
theorem pi_range1 {a : Expr} {ta : TA} {p pos : Pos} (hg : Gl X "range") (hm : X.mg "range" = none) (ha : PA X [a] ta) (hs : starEach [a] X.env = [(false, eval a X.env)] := by rfl) : PI X tg (.Call (.Name "range" p) [a] [] pos) (iRng1 ta) := by
  intro pins s σ H R I h
  refine Call_ (ld_blt I hg hm boot_range (PyProof.Rows.callWith_type1 (thn (ha pos pins s σ H _ I h) fun us s1 ⟨vs, H1, I1, r1, q1⟩ => ?_) hs rfl))
  obtain ⟨j, e, q1, q2, q⟩ := q1
  subst e
  cases r1 with
  | cons r rr =>
    cases rr
    obtain ⟨t, rfl⟩ := r
    exact call_range_1 (range_it I1 (by omega) (by omega) q1 q2 (by simpa using q))
theorem pi_range2 {a b : Expr} {ta : TA} {p pos : Pos} (hg : Gl X "range") (hm : X.mg "range" = none) (ha : PA X [a, b] ta) (hs : starEach [a, b] X.env = [(false, eval a X.env), (false, eval b X.env)] := by rfl) (hs2 : starEach [b] X.env = [(false, eval b X.env)] := by rfl) :
    PI X tg (.Call (.Name "range" p) [a, b] [] pos) (iRng2 ta) := by
  intro pins s σ H R I h
  refine Call_ (ld_blt I hg hm boot_range (PyProof.Rows.callWith_type1 (thn (ha pos pins s σ H _ I h) fun us s1 ⟨vs, H1, I1, r1, q1⟩ => ?_) (by rw [hs, hs2]) (by rw [hs2]; rfl)))
  obtain ⟨i, j, e, ⟨q1, q2, q3, q4⟩, q⟩ := q1
  subst e
  cases r1 with
  | cons r rr =>
    cases rr with
    | cons r' rr =>
      cases rr
      obtain ⟨t, rfl⟩ := r
      obtain ⟨t', rfl⟩ := r'
      exact call_range_2 (range_it I1 q1 q2 q3 q4 q)

/-! ### for -/
/-- W: the invariant by the turn and a measure; N: what the body is to reach -/
def tFor (wi : TI) (g : TG) (tb : TS) : TS := fun D σ H => wi σ H fun J H1 => ∃ W : Nat → Nat → St → Hp → Prop, (∃ m, W 0 m σ H1) ∧ ∀ i m σ H, W i m σ H →
  (J.stop i H ∧ D.nx σ H) ∨ (J.go i H ∧ ∃ N : St → Hp → Prop, (∀ σ' H', N σ' H' → ∃ m', m' < m ∧ W (i + 1) m' σ' H') ∧ ∀ x H', J.yld i H x H' → g x σ H' fun σ2 H2 => tb { D with nx := N, ct := N, bk := D.nx } σ2 H2)
/-- the records at fp as they stand -/
def pinsAt (fp : List Addr) (h : Heap) : List (Addr × Obj) := fp.filterMap fun b => (h.get? b).map fun o => (b, o)
theorem mem_pinsAt {fp : List Addr} {h : Heap} {b : Addr} {o : Obj} (hb : b ∈ fp) (e : h.get? b = some o) : (b, o) ∈ pinsAt fp h := List.mem_filterMap.mpr ⟨b, hb, by rw [e]; rfl⟩
theorem of_pinsAt {fp : List Addr} {h : Heap} {p : Addr × Obj} (hp : p ∈ pinsAt fp h) : p.1 ∈ fp ∧ h.get? p.1 = some p.2 := by
  obtain ⟨b, hb, e⟩ := List.mem_filterMap.mp hp
  cases q : h.get? b with
  | none => rw [q] at e; cases e
  | some o =>
    rw [q] at e
    have e' : (b, o) = p := Option.some.inj e
    subst e'
    exact ⟨hb, q⟩
theorem Inv.pinned {pins : List (Addr × Obj)} {σ : St} {H : Hp} {s : Shared} {fp : List Addr} (I : Inv X pins σ H s) (hf : ∀ b ∈ fp, FpOk X pins H b) (ho : ∀ b ∈ fp, ∃ o, s.heap.get? b = some o ∧ ∀ v, o.data ≠ .cell v) : Inv X (pins ++ pinsAt fp s.heap) σ H s :=
  I.pins_of fun p hp => (List.mem_append.mp hp).elim (fun z => I.pin p (List.mem_append_right _ z)) fun z => by
    obtain ⟨hb, e⟩ := of_pinsAt z
    obtain ⟨f0, f1, f2, _⟩ := hf p.1 hb
    obtain ⟨o, e', d⟩ := ho p.1 hb
    rw [e] at e'; cases e'
    exact ⟨e, f0, f1, f2, d⟩
theorem Inv.unpinned {pins pl : List (Addr × Obj)} {σ : St} {H : Hp} {s : Shared} (I : Inv X (pins ++ pl) σ H s) : Inv X pins σ H s := I.pins_of fun p hp => I.pin p (List.mem_append_right _ (List.mem_append_left _ hp))
theorem ps_for {iter : Expr} {body : List Stmt} {wi : TI} {g : TG} {tb : TS} {pos : Pos} (hp : PassesOwn (model X.prog X.w) X.A X.env X.xe) (hc : X.calm = true) (hi : PI X tg iter wi) (hg : PG X tg g) (hb : PSs X body tb)
    (hs : ∀ x, foldedSetIterable iter X.env x = pure x := by intro _; rfl) : PS X (.For tg iter body [] pos) (tFor wi g tb) := by
  intro pins s σ H D I h
  refine wpAny_For (thn (hi pins s σ H _ I h) fun v s1 h1 => thn h1 fun itv s2 h2 => ?_) hs
  obtain ⟨it, fp, tn, J, H2, e, I2, T, st2, f2, W, ⟨m0, w0⟩, turn⟩ := h2
  subst e
  -- what stays true of the iterator's objects through the loop
  have stat : ∀ {H' : Hp}, (∀ b ∈ fp, H' b = none) → ∀ b ∈ fp, FpOk X pins H' b := fun hn b hb => ⟨hn b hb, (f2 b hb).2⟩
  refine codeAny_forLoop_any (fun n s' => ∃ i σ' H', Inv X pins σ' H' s' ∧ tn i s'.heap ∧ (∀ b ∈ fp, H' b = none) ∧ W i n σ' H') ?_ m0 ⟨0, σ, H2, I2, st2, fun b hb => (f2 b hb).1, w0⟩
  rintro n s3 ⟨i, σ3, H3, I3, st3, fr3, w3⟩
  rcases turn i n σ3 H3 w3 with ⟨stop, qn⟩ | ⟨go, N, hN, step⟩
  · refine wpAny_passesOwn hp (thn (T.done X rfl rfl rfl hc i pins s3 σ3 H3 X.xe I3 (stat fr3) st3 stop) fun r s4 ⟨hr, I4⟩ => ?_)
    subst hr
    exact wpAny_execs_nil ⟨σ3, H3, I4, qn⟩
  · refine wpAny_passesOwn hp (thn (T.item X rfl rfl rfl hc i pins s3 σ3 H3 X.xe I3 (stat fr3) st3 go) fun r s4 ⟨u, hr, h4⟩ => ?_)
    subst hr
    refine wpAny_passesOwn hp (thn h4 fun _ s5 ⟨x, H5, I5, r5, y5, st5, fr5⟩ => ?_)
    have I5' := I5.pinned (stat fr5) (T.obj _ _ st5)
    refine wpAny_passesOwn hp (thn (hg _ s5 σ3 H5 x u _ I5' r5 (step x H5 y5)) fun _ s6 ⟨σ6, H6, I6, q6⟩ => ?_)
    refine wpAny_passesOwn hp (thn (hb _ s6 σ6 H6 _ I6 q6) fun f s7 q7 => ?_)
    have again : ∀ {σ7 : St} {H7 : Hp}, Inv X (pins ++ pinsAt fp s5.heap) σ7 H7 s7 → N σ7 H7 → ∃ m, m < n ∧ ∃ i σ' H', Inv X pins σ' H' s7 ∧ tn i s7.heap ∧ (∀ b ∈ fp, H' b = none) ∧ W i m σ' H' := fun {σ7 H7} I7 n7 => by
      obtain ⟨m', hm, w7⟩ := hN σ7 H7 n7
      refine ⟨m', hm, i + 1, σ7, H7, I7.unpinned, T.keep _ _ _ st5 fun b hb o e => (I7.pin (b, o) (List.mem_append_right _ (List.mem_append_right _ (mem_pinsAt hb e)))).1, fun b hb => ?_, w7⟩
      obtain ⟨o, e, d⟩ := T.obj _ _ st5 b hb
      exact (I7.pin (b, o) (List.mem_append_right _ (List.mem_append_right _ (mem_pinsAt hb e)))).2.1
    cases f with
    | next => obtain ⟨σ7, H7, I7, n7⟩ := q7; exact again I7 n7
    | cont => obtain ⟨σ7, H7, I7, n7⟩ := q7; exact again I7 n7
    | brk => obtain ⟨σ7, H7, I7, q7⟩ := q7; exact ⟨σ7, H7, I7.unpinned, q7⟩
    | ret v => obtain ⟨x7, σ7, H7, I7, r7, q7⟩ := q7; exact ⟨x7, σ7, H7, I7.unpinned, r7, q7⟩
end

/-! ### the forms one uses -/
/-- over a list that the body leaves as it is -/
theorem for_list {K : PySem.W.Frag} {a : Addr} {xs : List V} {g : TG} {tb : TS} {D : Ends} {σ : St} {H : Hp} (Pv : Nat → St → Hp → Prop) (h0 : Pv 0 σ H) (hl : ∀ i σ H, i ≤ xs.length → Pv i σ H → SqL K H a xs)
    (hs : ∀ i x σ H, xs[i]? = some x → Pv i σ H → g x σ H fun σ2 H2 => tb { D with nx := Pv (i + 1), ct := Pv (i + 1), bk := D.nx } σ2 H2) (hd : ∀ σ H, Pv xs.length σ H → D.nx σ H) :
    ∃ W : Nat → Nat → St → Hp → Prop, (∃ m, W 0 m σ H) ∧ ∀ i m σ H, W i m σ H →
      ((Itl K a).stop i H ∧ D.nx σ H) ∨ ((Itl K a).go i H ∧ ∃ N : St → Hp → Prop, (∀ σ' H', N σ' H' → ∃ m', m' < m ∧ W (i + 1) m' σ' H') ∧ ∀ x H', (Itl K a).yld i H x H' → g x σ H' fun σ2 H2 => tb { D with nx := N, ct := N, bk := D.nx } σ2 H2) := by
  refine ⟨fun i m σ H => m = xs.length - i ∧ i ≤ xs.length ∧ Pv i σ H, ⟨xs.length, by simp, Nat.zero_le _, h0⟩, ?_⟩
  rintro i m σ H ⟨rfl, hi, p⟩
  have q := hl i σ H hi p
  by_cases hlt : i < xs.length
  · refine .inr ⟨⟨xs, xs[i], q, by simp [hlt]⟩, Pv (i + 1), fun σ' H' p' => ⟨xs.length - (i + 1), by omega, rfl, hlt, p'⟩, fun x H' y => ?_⟩
    obtain ⟨e, y⟩ := y
    subst e
    exact hs i x σ _ (y xs q) p
  · have e : i = xs.length := by omega
    subst e
    exact .inl ⟨⟨xs, q, Nat.le_refl _⟩, hd σ H p⟩
theorem for_tup {K : PySem.W.Frag} {a : Addr} {xs : List V} {g : TG} {tb : TS} {D : Ends} {σ : St} {H : Hp} (Pv : Nat → St → Hp → Prop) (h0 : Pv 0 σ H) (hl : ∀ i σ H, i ≤ xs.length → Pv i σ H → SqT K H a xs)
    (hs : ∀ i x σ H, xs[i]? = some x → Pv i σ H → g x σ H fun σ2 H2 => tb { D with nx := Pv (i + 1), ct := Pv (i + 1), bk := D.nx } σ2 H2) (hd : ∀ σ H, Pv xs.length σ H → D.nx σ H) :
    ∃ W : Nat → Nat → St → Hp → Prop, (∃ m, W 0 m σ H) ∧ ∀ i m σ H, W i m σ H →
      ((Itt K a).stop i H ∧ D.nx σ H) ∨ ((Itt K a).go i H ∧ ∃ N : St → Hp → Prop, (∀ σ' H', N σ' H' → ∃ m', m' < m ∧ W (i + 1) m' σ' H') ∧ ∀ x H', (Itt K a).yld i H x H' → g x σ H' fun σ2 H2 => tb { D with nx := N, ct := N, bk := D.nx } σ2 H2) := by
  refine ⟨fun i m σ H => m = xs.length - i ∧ i ≤ xs.length ∧ Pv i σ H, ⟨xs.length, by simp, Nat.zero_le _, h0⟩, ?_⟩
  rintro i m σ H ⟨rfl, hi, p⟩
  have q := hl i σ H hi p
  by_cases hlt : i < xs.length
  · refine .inr ⟨⟨xs, xs[i], q, by simp [hlt]⟩, Pv (i + 1), fun σ' H' p' => ⟨xs.length - (i + 1), by omega, rfl, hlt, p'⟩, fun x H' y => ?_⟩
    obtain ⟨e, y⟩ := y
    subst e
    exact hs i x σ _ (y xs q) p
  · have e : i = xs.length := by omega
    subst e
    exact .inl ⟨⟨xs, q, Nat.le_refl _⟩, hd σ H p⟩
theorem for_range {lo : Int} {n : Nat} {g : TG} {tb : TS} {D : Ends} {σ : St} {H : Hp} (Pv : Nat → St → Hp → Prop) (h0 : Pv 0 σ H)
    (hs : ∀ i σ H, i < n → Pv i σ H → g (.int (lo + i)) σ H fun σ2 H2 => tb { D with nx := Pv (i + 1), ct := Pv (i + 1), bk := D.nx } σ2 H2) (hd : ∀ σ H, Pv n σ H → D.nx σ H) :
    ∃ W : Nat → Nat → St → Hp → Prop, (∃ m, W 0 m σ H) ∧ ∀ i m σ H, W i m σ H →
      ((Itr lo n).stop i H ∧ D.nx σ H) ∨ ((Itr lo n).go i H ∧ ∃ N : St → Hp → Prop, (∀ σ' H', N σ' H' → ∃ m', m' < m ∧ W (i + 1) m' σ' H') ∧ ∀ x H', (Itr lo n).yld i H x H' → g x σ H' fun σ2 H2 => tb { D with nx := N, ct := N, bk := D.nx } σ2 H2) := by
  refine ⟨fun i m σ H => m = n - i ∧ i ≤ n ∧ Pv i σ H, ⟨n, by simp, Nat.zero_le _, h0⟩, ?_⟩
  rintro i m σ H ⟨rfl, hi, p⟩
  by_cases hlt : i < n
  · refine .inr ⟨hlt, Pv (i + 1), fun σ' H' p' => ⟨n - (i + 1), by omega, rfl, hlt, p'⟩, fun x H' y => ?_⟩
    obtain ⟨e, y⟩ := y
    subst e y
    exact hs i σ _ hlt p
  · have e : i = n := by omega
    subst e
    exact .inl ⟨Nat.le_refl _, hd σ H p⟩
/-- while, by a word and a measure of the state -/
theorem while_by {c : TT} {tb : TS} {D : Ends} {σ : St} {H : Hp} (Pv : St → Hp → Prop) (μ : St → Hp → Nat) (h0 : Pv σ H)
    (hs : ∀ σ H, Pv σ H → c σ H fun b H1 => if b = true then tb { D with nx := fun σ' H' => Pv σ' H' ∧ μ σ' H' < μ σ H, ct := fun σ' H' => Pv σ' H' ∧ μ σ' H' < μ σ H, bk := D.nx } σ H1 else D.nx σ H1)
    (mono : ∀ σ H Q Q', (∀ b H1, Q b H1 → Q' b H1) → c σ H Q → c σ H Q') : tWhile c tb D σ H := by
  refine ⟨fun m σ H => m = μ σ H ∧ Pv σ H, ⟨_, rfl, h0⟩, ?_⟩
  rintro m σ H ⟨rfl, p⟩
  refine mono σ H _ _ (fun b H1 q => ?_) (hs σ H p)
  cases b with
  | true => exact ⟨_, fun σ' H' ⟨p', l⟩ => ⟨_, l, rfl, p'⟩, q⟩
  | false => exact q
end L2

namespace L2
open PySem PySem.Spec PyProof.Rows

abbrev R2 := V → V → Hp → VK → Prop
/-- a two-place operation on values: f is binaryOp op, inplaceOp op or compareOp op -/
def OpR (X : Cx) (f : Value → Value → Sem Value) (r : R2) : Prop :=
  ∀ (pins : List (Addr × Obj)) (s : Shared) (σ : St) (H : Hp) (x y : V) (v u : Value) (Q : VK), Inv X pins σ H s → RelV x v → RelV y u → r x y H Q →
    wpAny (model X.prog X.w) X.A (f v u) (EP X pins σ Q) X.xe s
/-- a one-place operation -/
def UnR (X : Cx) (f : Value → Sem Value) (r : V → Hp → VK → Prop) : Prop :=
  ∀ (pins : List (Addr × Obj)) (s : Shared) (σ : St) (H : Hp) (x : V) (v : Value) (Q : VK), Inv X pins σ H s → RelV x v → r x H Q →
    wpAny (model X.prog X.w) X.A (f v) (EP X pins σ Q) X.xe s
/-- a call of a value that is known (a builtin, a type) with values -/
def CallR (X : Cx) (f : Value) (r : List V → Hp → VK → Prop) : Prop :=
  ∀ (pins : List (Addr × Obj)) (s : Shared) (σ : St) (H : Hp) (xs : List V) (us : List Value) (Q : VK), Inv X pins σ H s → Vals xs us → r xs H Q →
    wpAny (model X.prog X.w) X.A (call f us) (EP X pins σ Q) X.xe s
/-- a value's truth -/
def TruR (X : Cx) (r : V → Hp → (Bool → Hp → Prop) → Prop) : Prop :=
  ∀ (pins : List (Addr × Obj)) (s : Shared) (σ : St) (H : Hp) (x : V) (v : Value) (Q : Bool → Hp → Prop), Inv X pins σ H s → RelV x v → r x H Q →
    wpAny (model X.prog X.w) X.A (truthy v) (TP X pins σ Q) X.xe s

def tOp (r : R2) (ta tb : TE) : TE := fun σ H Q => ta σ H fun x H1 => tb σ H1 fun y H2 => r x y H2 Q
def tUn (r : V → Hp → VK → Prop) (ta : TE) : TE := fun σ H Q => ta σ H fun x H1 => r x H1 Q
/-- ints in, under C, and a value out -/
def rI (C : Int → Int → Prop) (g : Int → Int → V) : R2 := fun x y H Q => ∃ i j, x = .int i ∧ y = .int j ∧ C i j ∧ Q (g i j) H
def rI0 (g : Int → Int → V) : R2 := fun x y H Q => ∃ i j, x = .int i ∧ y = .int j ∧ Q (g i j) H
def rU (g : Int → V) : V → Hp → VK → Prop := fun x H Q => ∃ i, x = .int i ∧ Q (g i) H

section
variable {X : Cx} {a b c : Expr} {ta tb tc : TE} {pos : Pos}

theorem binT (ha : PE X a ta) (hb : PE X b tb) {pins : List (Addr × Obj)} {s : Shared} {σ : St} {H : Hp} {R : V → V → Hp → Prop} (I : Inv X pins σ H s)
    (h : ta σ H fun x H1 => tb σ H1 fun y H2 => R x y H2) {Q : Value → Shared → Prop} {f : Value → Value → Sem Value}
    (hf : ∀ v u s2 x y H2, Inv X pins σ H2 s2 → RelV x v → RelV y u → R x y H2 → wpAny (model X.prog X.w) X.A (f v u) Q X.xe s2) :
    wpAny (model X.prog X.w) X.A (eval a X.env) (fun v s₁ => wpAny (model X.prog X.w) X.A (eval b X.env) (fun u s₂ => wpAny (model X.prog X.w) X.A (f v u) Q X.xe s₂) X.xe s₁) X.xe s := by
  refine thn (ha pins s σ H _ I h) fun v s1 ⟨x, H1, I1, r1, q1⟩ => ?_
  refine thn (hb pins s1 σ H1 _ I1 q1) fun u s2 ⟨y, H2, I2, r2, q2⟩ => ?_
  exact hf v u s2 x y H2 I2 r1 r2 q2

theorem pe_op {op : Operator} {r : R2} (ho : OpR X (binaryOp op) r) (ha : PE X a ta) (hb : PE X b tb) : PE X (.BinOp a op b pos) (tOp r ta tb) := by
  intro pins s σ H Q I h
  exact wpAny_BinOp (binT ha hb I h fun v u s2 x y H2 I2 rx ry q => ho pins s2 σ H2 x y v u Q I2 rx ry q)
theorem pe_un {op : UnaryOp} {r : V → Hp → VK → Prop} (ho : UnR X (unaryOp op) r) (ha : PE X a ta) : PE X (.UnaryOp op a pos) (tUn r ta) := by
  intro pins s σ H Q I h
  exact UnaryOp_ (thn (ha pins s σ H _ I h) fun v s1 ⟨x, H1, I1, r1, q1⟩ => ho pins s1 σ H1 x v Q I1 r1 q1)
/-- a op= e at a name: the name's slot i -/
theorem augR {op : Operator} {r : R2} (ho : OpR X (inplaceOp op) r) {pins : List (Addr × Obj)} {s : Shared} {σ : St} {H : Hp} {x y : V} {v u : Value} {Q : VK} (I : Inv X pins σ H s)
    (rx : RelV x v) (ry : RelV y u) (q : r x y H Q) : wpAny (model X.prog X.w) X.A (inplaceOp op v u) (EP X pins σ Q) X.xe s := ho pins s σ H x y v u Q I rx ry q

/-! ### ints -/
theorem opI {f : Value → Value → Sem Value} {C : Int → Int → Prop} {g : Int → Int → Int}
    (rule : ∀ (i j : Int) (t u : Tok) (s : Shared) (Q : Value → Shared → Prop) (E : Value → Shared → Prop), C i j → Q (.int (g i j) s.toks) { s with toks := s.toks + 1 } → wpAny (model X.prog X.w) X.A (f (.int i t) (.int j u)) Q E s) :
    OpR X f (rI C fun i j => .int (g i j)) := by
  intro pins s σ H x y v u Q I rx ry h
  obtain ⟨i, j, rfl, rfl, hc, q⟩ := h
  obtain ⟨t, rfl⟩ := rx
  obtain ⟨t', rfl⟩ := ry
  exact rule i j t t' s _ _ hc ⟨.int (g i j), H, I.tok _, ⟨_, rfl⟩, q⟩
theorem opI0 {f : Value → Value → Sem Value} {g : Int → Int → Int}
    (rule : ∀ (i j : Int) (t u : Tok) (s : Shared) (Q : Value → Shared → Prop) (E : Value → Shared → Prop), Q (.int (g i j) s.toks) { s with toks := s.toks + 1 } → wpAny (model X.prog X.w) X.A (f (.int i t) (.int j u)) Q E s) :
    OpR X f (rI0 fun i j => .int (g i j)) := by
  intro pins s σ H x y v u Q I rx ry h
  obtain ⟨i, j, rfl, rfl, q⟩ := h
  obtain ⟨t, rfl⟩ := rx
  obtain ⟨t', rfl⟩ := ry
  exact rule i j t t' s _ _ ⟨.int (g i j), H, I.tok _, ⟨_, rfl⟩, q⟩
theorem opB0 {f : Value → Value → Sem Value} {g : Int → Int → Bool}
    (rule : ∀ (i j : Int) (t u : Tok) (s : Shared) (Q : Value → Shared → Prop) (E : Value → Shared → Prop), Q (.bool (g i j)) s → wpAny (model X.prog X.w) X.A (f (.int i t) (.int j u)) Q E s) :
    OpR X f (rI0 fun i j => .bl (g i j)) := by
  intro pins s σ H x y v u Q I rx ry h
  obtain ⟨i, j, rfl, rfl, q⟩ := h
  obtain ⟨t, rfl⟩ := rx
  obtain ⟨t', rfl⟩ := ry
  exact rule i j t t' s _ _ ⟨.bl (g i j), H, I, rfl, q⟩

def CDiv (i j : Int) : Prop := 0 < j ∧ j < 1073741824
def CDivN (i j : Int) : Prop := j ≠ 0 ∧ j.natAbs < 1073741824
def CPow (i j : Int) : Prop := 0 ≤ j ∧ j ≤ 1000000 ∧ i.natAbs < 2 ^ 64
def CMul (i j : Int) : Prop := (-(2 ^ 64) < i ∧ i < 2 ^ 64) ∨ (-(2 ^ 64) < j ∧ j < 2 ^ 64)
theorem CMul.ok {i j : Int} (h : CMul i j) : IntMulOk i j := by
  rcases h with ⟨h1, h2⟩ | ⟨h1, h2⟩
  · exact .of_left (intBits_le_64 h1 h2)
  · exact .of_right (intBits_le_64 h1 h2)
theorem two_pow_nn (k : Nat) : (0 : Int) ≤ 2 ^ k := by
  rw [two_pow_cast]
  exact Int.natCast_nonneg _

theorem op_add : OpR X (binaryOp .Add) (rI0 fun i j => .int (i + j)) := opI0 fun _ _ _ _ _ _ _ q => add_int q
theorem op_sub : OpR X (binaryOp .Sub) (rI0 fun i j => .int (i - j)) := opI0 fun _ _ _ _ _ _ _ q => sub_int q
theorem op_mul : OpR X (binaryOp .Mult) (rI CMul fun i j => .int (i * j)) := opI fun _ _ _ _ _ _ _ hc q => mul_int q hc.ok
/-- // by a positive divisor -/
theorem op_fdiv : OpR X (binaryOp .FloorDiv) (rI CDiv fun i j => .int (i / j)) := opI fun i j _ _ _ _ _ hc q => by
  have h1 : (0 : Int) < j := hc.1
  have h2 : j < 1073741824 := hc.2
  exact floordiv_int (by omega) (by rw [Int.fdiv_eq_ediv_of_nonneg i (by omega)]; exact q) (.inl (PyProof.noPylong_small (by omega)))
theorem op_fdivN : OpR X (binaryOp .FloorDiv) (rI CDivN fun i j => .int (i.fdiv j)) := opI fun _ _ _ _ _ _ _ hc q => floordiv_int hc.1 q (.inl (PyProof.noPylong_small hc.2))
/-- % by a positive divisor of any size -/
theorem op_mod : OpR X (binaryOp .Mod) (rI (fun _ j => 0 < j) fun i j => .int (i % j)) := opI fun i j _ _ _ _ _ hc q => by
  have h1 : (0 : Int) < j := hc
  exact mod_int' (by omega) (by rw [Int.fmod_eq_emod_of_nonneg i (by omega)]; exact q)
theorem op_modN : OpR X (binaryOp .Mod) (rI (fun _ j => j ≠ 0) fun i j => .int (i.fmod j)) := opI fun _ _ _ _ _ _ _ hc q => mod_int' hc q
theorem op_pow : OpR X (binaryOp .Pow) (rI CPow fun i j => .int (i ^ j.toNat)) := opI fun _ _ _ _ _ _ _ hc q => pow_int_small hc.1 hc.2.1 hc.2.2 q
theorem op_shl : OpR X (binaryOp .LShift) (rI CPow fun i j => .int (i * 2 ^ j.toNat)) := opI fun _ _ _ _ _ _ _ hc q => lshift_int_small hc.1 hc.2.1 hc.2.2 q
theorem op_shr : OpR X (binaryOp .RShift) (rI (fun _ j => 0 ≤ j) fun i j => .int (i / 2 ^ j.toNat)) := opI fun i j _ _ _ _ _ hc q =>
  rshift_int hc (by rw [Int.fdiv_eq_ediv_of_nonneg i (two_pow_nn _)]; exact q)
theorem op_and : OpR X (binaryOp .BitAnd) (rI0 fun i j => .int (Builtin.bitAnd i j)) := opI0 fun _ _ _ _ _ _ _ q => and_int q
theorem op_or : OpR X (binaryOp .BitOr) (rI0 fun i j => .int (Builtin.bitOr i j)) := opI0 fun _ _ _ _ _ _ _ q => or_int q
theorem op_xor : OpR X (binaryOp .BitXor) (rI0 fun i j => .int (Builtin.bitXor i j)) := opI0 fun _ _ _ _ _ _ _ q => xor_int q

theorem iop_add : OpR X (inplaceOp .Add) (rI0 fun i j => .int (i + j)) := opI0 fun _ _ _ _ _ _ _ q => iadd_int q
theorem iop_sub : OpR X (inplaceOp .Sub) (rI0 fun i j => .int (i - j)) := opI0 fun _ _ _ _ _ _ _ q => isub_int q
theorem iop_mul : OpR X (inplaceOp .Mult) (rI CMul fun i j => .int (i * j)) := opI fun _ _ _ _ _ _ _ hc q => imul_int q hc.ok
theorem iop_fdiv : OpR X (inplaceOp .FloorDiv) (rI CDiv fun i j => .int (i / j)) := opI fun i j _ _ _ _ _ hc q => by
  have h1 : (0 : Int) < j := hc.1
  have h2 : j < 1073741824 := hc.2
  exact ifloordiv_int (by omega) (by rw [Int.fdiv_eq_ediv_of_nonneg i (by omega)]; exact q) (.inl (PyProof.noPylong_small (by omega)))
theorem iop_mod : OpR X (inplaceOp .Mod) (rI (fun _ j => 0 < j) fun i j => .int (i % j)) := opI fun i j _ _ _ _ _ hc q => by
  have h1 : (0 : Int) < j := hc
  exact imod_int (by omega) (by rw [Int.fmod_eq_emod_of_nonneg i (by omega)]; exact q)
theorem iop_shl : OpR X (inplaceOp .LShift) (rI CPow fun i j => .int (i * 2 ^ j.toNat)) := opI fun _ _ _ _ _ _ _ hc q => ilshift_int_small hc.1 hc.2.1 hc.2.2 q
theorem iop_shr : OpR X (inplaceOp .RShift) (rI (fun _ j => 0 ≤ j) fun i j => .int (i / 2 ^ j.toNat)) := opI fun i j _ _ _ _ _ hc q =>
  irshift_int hc (by rw [Int.fdiv_eq_ediv_of_nonneg i (two_pow_nn _)]; exact q)
theorem iop_and : OpR X (inplaceOp .BitAnd) (rI0 fun i j => .int (Builtin.bitAnd i j)) := opI0 fun _ _ _ _ _ _ _ q => iand_int q
theorem iop_or : OpR X (inplaceOp .BitOr) (rI0 fun i j => .int (Builtin.bitOr i j)) := opI0 fun _ _ _ _ _ _ _ q => ior_int q
theorem iop_xor : OpR X (inplaceOp .BitXor) (rI0 fun i j => .int (Builtin.bitXor i j)) := opI0 fun _ _ _ _ _ _ _ q => ixor_int q

theorem unI {f : Value → Sem Value} {g : Int → Int}
    (rule : ∀ (i : Int) (t : Tok) (s : Shared) (Q : Value → Shared → Prop) (E : Value → Shared → Prop), Q (.int (g i) s.toks) { s with toks := s.toks + 1 } → wpAny (model X.prog X.w) X.A (f (.int i t)) Q E s) :
    UnR X f (rU fun i => .int (g i)) := by
  intro pins s σ H x v Q I rx h
  obtain ⟨i, rfl, q⟩ := h
  obtain ⟨t, rfl⟩ := rx
  exact rule i t s _ _ ⟨.int (g i), H, I.tok _, ⟨_, rfl⟩, q⟩
theorem un_neg : UnR X (unaryOp .USub) (rU fun i => .int (-i)) := unI fun _ _ _ _ _ q => neg_int q
theorem un_inv : UnR X (unaryOp .Invert) (rU fun i => .int (Builtin.bitNot i)) := unI fun _ _ _ _ _ q => invert_int q

/-! ### bools among ints: n += (a < b) -/
theorem op_add_ib : OpR X (binaryOp .Add) (fun x y H Q => ∃ i k, x = .int i ∧ y = .bl k ∧ Q (.int (i + b2i k)) H) := by
  intro pins s σ H x y v u Q I rx ry h
  obtain ⟨i, k, rfl, rfl, q⟩ := h
  obtain ⟨t, rfl⟩ := rx
  cases ry
  exact add_int_bool ⟨.int (i + b2i k), H, I.tok _, ⟨_, rfl⟩, q⟩
end

/-! ### comparisons -/
/-- the scalars that == tells apart as data does -/
def scal : V → V → Bool
  | .non, .non => true | .non, .int _ => true | .int _, .non => true | .non, .bl _ => true | .bl _, .non => true | .non, .str _ => true | .str _, .non => true
  | .int _, .int _ => true | .bl _, .bl _ => true | .str _, .str _ => true | .byt _, .byt _ => true
  | .int _, .str _ => true | .str _, .int _ => true | .bl _, .str _ => true | .str _, .bl _ => true
  | _, _ => false
def rEq : R2 := fun x y H Q => scal x y = true ∧ Q (.bl (decide (x = y))) H
def rNe : R2 := fun x y H Q => scal x y = true ∧ Q (.bl (!decide (x = y))) H

theorem dec_int {i j : Int} : decide (V.int i = V.int j) = (i == j) := by
  rw [Bool.eq_iff_iff]
  simp
theorem dec_bl {i j : Bool} : decide (V.bl i = V.bl j) = (i == j) := by
  rw [Bool.eq_iff_iff]
  simp
theorem dec_str {i j : Str} : decide (V.str i = V.str j) = (i == j) := by
  rw [Bool.eq_iff_iff]
  simp
theorem dec_byt {i j : Array UInt8} : decide (V.byt i = V.byt j) = (i.toList == j.toList) := by
  rw [Bool.eq_iff_iff]
  cases i
  cases j
  simp

section
variable {X : Cx} {a b c : Expr} {ta tb tc : TE} {pos : Pos}
theorem fin_bl {pins : List (Addr × Obj)} {σ : St} {H : Hp} {s : Shared} {Q : VK} {k k' : Bool} (I : Inv X pins σ H s) (q : Q (.bl k) H) (e : k = k') : EP X pins σ Q (.bool k') s := by
  subst e
  exact ⟨.bl k, H, I, rfl, q⟩
theorem op_eq : OpR X (compareOp .Eq) rEq := by
  intro pins s σ H x y v u Q I rx ry h
  obtain ⟨hs, q⟩ := h
  cases x with
  | non =>
    cases rx
    cases y with
    | non => cases ry; exact PySem.EqNone.eq_none_none (fin_bl I q (by simp))
    | bl j => cases ry; exact PySem.EqNone.eq_none_bool (fin_bl I q (by simp))
    | int j => obtain ⟨t', rfl⟩ := ry; exact PySem.EqNone.eq_none_int (fin_bl I q (by simp))
    | str j => obtain ⟨t', rfl⟩ := ry; exact PySem.EqNone.eq_none_str (fin_bl I q (by simp))
    | _ => exact absurd (show false = true from hs) Bool.false_ne_true
  | bl i =>
    cases rx
    cases y with
    | non => cases ry; exact PySem.EqNone.eq_bool_none (fin_bl I q (by simp))
    | bl j => cases ry; exact eq_bool (fin_bl I q dec_bl)
    | str j => obtain ⟨t', rfl⟩ := ry; exact PySem.EqMixed.eq_bool_str (fin_bl I q (by simp))
    | _ => exact absurd (show false = true from hs) Bool.false_ne_true
  | int i =>
    obtain ⟨t, rfl⟩ := rx
    cases y with
    | non => cases ry; exact PySem.EqNone.eq_int_none (fin_bl I q (by simp))
    | int j => obtain ⟨t', rfl⟩ := ry; exact eq_int (fin_bl I q dec_int)
    | str j => obtain ⟨t', rfl⟩ := ry; exact PySem.EqMixed.eq_int_str (fin_bl I q (by simp))
    | _ => exact absurd (show false = true from hs) Bool.false_ne_true
  | str i =>
    obtain ⟨t, rfl⟩ := rx
    cases y with
    | non => cases ry; exact PySem.EqNone.eq_str_none (fin_bl I q (by simp))
    | bl j => cases ry; exact PySem.EqMixed.eq_str_bool (fin_bl I q (by simp))
    | int j => obtain ⟨t', rfl⟩ := ry; exact PySem.EqMixed.eq_str_int (fin_bl I q (by simp))
    | str j => obtain ⟨t', rfl⟩ := ry; exact eq_str (fin_bl I q dec_str)
    | _ => exact absurd (show false = true from hs) Bool.false_ne_true
  | byt i =>
    obtain ⟨t, rfl⟩ := rx
    cases y with
    | byt j => obtain ⟨t', rfl⟩ := ry; exact PySem.W.eq_bytes (fin_bl I q dec_byt)
    | _ => exact absurd (show false = true from hs) Bool.false_ne_true
  | _ => cases y <;> exact absurd (show false = true from hs) Bool.false_ne_true
theorem op_ne : OpR X (compareOp .NotEq) rNe := by
  intro pins s σ H x y v u Q I rx ry h
  obtain ⟨hs, q⟩ := h
  cases x with
  | non =>
    cases rx
    cases y with
    | non => cases ry; exact PySem.EqNone.ne_none_none (fin_bl I q (by simp))
    | bl j => cases ry; exact PySem.EqNone.ne_none_bool (fin_bl I q (by simp))
    | int j => obtain ⟨t', rfl⟩ := ry; exact PySem.EqNone.ne_none_int (fin_bl I q (by simp))
    | str j => obtain ⟨t', rfl⟩ := ry; exact PySem.EqNone.ne_none_str (fin_bl I q (by simp))
    | _ => exact absurd (show false = true from hs) Bool.false_ne_true
  | bl i =>
    cases rx
    cases y with
    | non => cases ry; exact PySem.EqNone.ne_bool_none (fin_bl I q (by simp))
    | bl j => cases ry; exact ne_bool (fin_bl I q (congrArg not dec_bl))
    | str j => obtain ⟨t', rfl⟩ := ry; exact PySem.EqMixed.ne_bool_str (fin_bl I q (by simp))
    | _ => exact absurd (show false = true from hs) Bool.false_ne_true
  | int i =>
    obtain ⟨t, rfl⟩ := rx
    cases y with
    | non => cases ry; exact PySem.EqNone.ne_int_none (fin_bl I q (by simp))
    | int j => obtain ⟨t', rfl⟩ := ry; exact ne_int (fin_bl I q (congrArg not dec_int))
    | str j => obtain ⟨t', rfl⟩ := ry; exact PySem.EqMixed.ne_int_str (fin_bl I q (by simp))
    | _ => exact absurd (show false = true from hs) Bool.false_ne_true
  | str i =>
    obtain ⟨t, rfl⟩ := rx
    cases y with
    | non => cases ry; exact PySem.EqNone.ne_str_none (fin_bl I q (by simp))
    | bl j => cases ry; exact PySem.EqMixed.ne_str_bool (fin_bl I q (by simp))
    | int j => obtain ⟨t', rfl⟩ := ry; exact PySem.EqMixed.ne_str_int (fin_bl I q (by simp))
    | str j => obtain ⟨t', rfl⟩ := ry; exact ne_str (fin_bl I q (congrArg not dec_str))
    | _ => exact absurd (show false = true from hs) Bool.false_ne_true
  | byt i =>
    obtain ⟨t, rfl⟩ := rx
    cases y with
    | byt j => obtain ⟨t', rfl⟩ := ry; exact PySem.W.ne_bytes (fin_bl I q (congrArg not dec_byt))
    | _ => exact absurd (show false = true from hs) Bool.false_ne_true
  | _ => cases y <;> exact absurd (show false = true from hs) Bool.false_ne_true

theorem op_lt : OpR X (compareOp .Lt) (rI0 fun i j => .bl (decide (i < j))) := opB0 fun _ _ _ _ _ _ _ q => lt_int q
theorem op_le : OpR X (compareOp .LtE) (rI0 fun i j => .bl (decide (i ≤ j))) := opB0 fun _ _ _ _ _ _ _ q => le_int q
theorem op_gt : OpR X (compareOp .Gt) (rI0 fun i j => .bl (decide (j < i))) := opB0 fun _ _ _ _ _ _ _ q => gt_int q
theorem op_ge : OpR X (compareOp .GtE) (rI0 fun i j => .bl (decide (j ≤ i))) := opB0 fun _ _ _ _ _ _ _ q => ge_int q
theorem op_lt_str : OpR X (compareOp .Lt) (fun x y H Q => ∃ i j, x = .str i ∧ y = .str j ∧ Q (.bl (decide (i.cps.toList < j.cps.toList))) H) := by
  intro pins s σ H x y v u Q I rx ry h
  obtain ⟨i, j, rfl, rfl, q⟩ := h
  obtain ⟨t, rfl⟩ := rx
  obtain ⟨t', rfl⟩ := ry
  exact lt_str (fin_bl I q rfl)
/-- the one string within the other -/
theorem op_in_str : OpR X (compareOp .In) (fun x y H Q => ∃ i j, x = .str i ∧ y = .str j ∧ Q (.bl (!(Builtin.Str.occurrences j i 0 j.length 1).isEmpty)) H) := by
  intro pins s σ H x y v u Q I rx ry h
  obtain ⟨i, j, rfl, rfl, q⟩ := h
  obtain ⟨t, rfl⟩ := rx
  obtain ⟨t', rfl⟩ := ry
  exact in_str (fin_bl I q rfl)

/-- is None, is not None: the right side a value none -/
theorem op_isN : OpR X (compareOp .Is) (fun x y H Q => y = .non ∧ Q (.bl (decide (x = .non))) H) := by
  intro pins s σ H x y v u Q I rx ry h
  obtain ⟨rfl, q⟩ := h
  cases ry
  refine is_none_gen (fin_bl I q ?_)
  cases x <;> first
    | (cases rx; rfl)
    | (obtain ⟨t, rfl⟩ := rx; rfl)
theorem op_notN : OpR X (compareOp .IsNot) (fun x y H Q => y = .non ∧ Q (.bl (!decide (x = .non))) H) := by
  intro pins s σ H x y v u Q I rx ry h
  obtain ⟨rfl, q⟩ := h
  cases ry
  refine isnot_none_gen (fin_bl I q ?_)
  cases x <;> first
    | (cases rx; rfl)
    | (obtain ⟨t, rfl⟩ := rx; rfl)

theorem op_notin_str : OpR X (compareOp .NotIn) (fun x y H Q => ∃ i j, x = .str i ∧ y = .str j ∧ Q (.bl (!(!(Builtin.Str.occurrences j i 0 j.length 1).isEmpty))) H) := by
  intro pins s σ H x y v u Q I rx ry h
  obtain ⟨i, j, rfl, rfl, q⟩ := h
  obtain ⟨t, rfl⟩ := rx
  obtain ⟨t', rfl⟩ := ry
  exact notIn_str (fin_bl I q rfl)
/-- is, is not of two objects that are tracked lists or instances -/
def isObj : HO → Bool
  | .lst _ => true
  | .ins _ _ _ => true
  | _ => false
theorem obj_there {pins : List (Addr × Obj)} {s : Shared} {σ : St} {H : Hp} {a : Addr} {o : HO} (I : Inv X pins σ H s) (h : H a = some o) (p : isObj o = true) : ∃ ob, s.heap.get? a = some ob ∧ ob.cls ≠ .type "tuple" := by
  cases o with
  | lst xs =>
    obtain ⟨_, its, n, _, e⟩ : xs.length ≤ sizeLine ∧ ∃ (its : List Value) (n : Nat), Vals xs its ∧ s.heap.get? a = some { cls := .type "list", data := .seq its.toArray n } := I.hok a _ h
    exact ⟨_, e, (by show Value.type "list" ≠ .type "tuple"; decide +kernel)⟩
  | ins C dx fs =>
    have x := I.hok a _ h
    obtain ⟨_, _, _, e, _⟩ := x
    exact ⟨_, e, (by show Value.ref C ≠ .type "tuple"; exact fun z => by cases z)⟩
  | _ => exact absurd (show false = true from p) Bool.false_ne_true
theorem op_is_ref : OpR X (compareOp .Is) (fun x y H Q => ∃ a b oa ob, x = .ref a ∧ y = .ref b ∧ H a = some oa ∧ isObj oa = true ∧ H b = some ob ∧ isObj ob = true ∧ Q (.bl (decide (a = b))) H) := by
  intro pins s σ H x y v u Q I rx ry h
  obtain ⟨a, b, oa, ob, rfl, rfl, ha, pa, hb, pb, q⟩ := h
  cases rx
  cases ry
  obtain ⟨o1, e1, n1⟩ := obj_there I ha pa
  obtain ⟨o2, e2, _⟩ := obj_there I hb pb
  by_cases z : a = b
  · subst z
    exact wpAny_is_ref_self (fin_bl I q (by simp))
  · exact wpAny_is_ref_other z e1 e2 n1 (fin_bl I q (by simp [z]))
theorem op_isnot_ref : OpR X (compareOp .IsNot) (fun x y H Q => ∃ a b oa ob, x = .ref a ∧ y = .ref b ∧ H a = some oa ∧ isObj oa = true ∧ H b = some ob ∧ isObj ob = true ∧ Q (.bl (!decide (a = b))) H) := by
  intro pins s σ H x y v u Q I rx ry h
  obtain ⟨a, b, oa, ob, rfl, rfl, ha, pa, hb, pb, q⟩ := h
  cases rx
  cases ry
  obtain ⟨o1, e1, n1⟩ := obj_there I ha pa
  obtain ⟨o2, e2, _⟩ := obj_there I hb pb
  by_cases z : a = b
  · subst z
    exact wpAny_isNot_ref_self (fin_bl I q (by simp))
  · exact wpAny_isNot_ref_other z e1 e2 n1 (fin_bl I q (by simp [z]))

/-- two rules for one operation: by cases -/
theorem OpR.or {f : Value → Value → Sem Value} {r r' : R2} (h : OpR X f r) (h' : OpR X f r') : OpR X f (fun x y H Q => r x y H Q ∨ r' x y H Q) := by
  intro pins s σ H x y v u Q I rx ry q
  rcases q with q | q
  · exact h pins s σ H x y v u Q I rx ry q
  · exact h' pins s σ H x y v u Q I rx ry q

theorem nomark (b : Expr) {op : CmpOp} (h : op ≠ .In := by decide) (h2 : op ≠ .NotIn := by decide) : behindInMarks op b = false := by
  have e1 : (op == CmpOp.In) = false := by cases op <;> first | rfl | exact absurd rfl h
  have e2 : (op == CmpOp.NotIn) = false := by cases op <;> first | rfl | exact absurd rfl h2
  cases b <;> simp [behindInMarks, e1, e2]
/-- a comparison as a value; hm: nomark b, or (for in, not in) by with_unfolding_all rfl -/
theorem pe_cmpR {op : CmpOp} {r : R2} (ho : OpR X (compareOp op) r) (ha : PE X a ta) (hb : PE X b tb) (hm : behindInMarks op b = false) : PE X (.Compare a [op] [b] pos) (tOp r ta tb) := by
  intro pins s σ H Q I h
  exact wpAny_Compare1 (binT ha hb I h fun v u s2 x y H2 I2 rx ry q => ho pins s2 σ H2 x y v u Q I2 rx ry q) hm
/-- a reading of a value as a test -/
def tTest (t : TE) : TT := fun σ H Q => t σ H fun x H' => ∃ k, x = .bl k ∧ Q k H'
theorem pt_cmpR {op : CmpOp} {r : R2} (ho : OpR X (compareOp op) r) (ha : PE X a ta) (hb : PE X b tb) (hm : behindInMarks op b = false) : PT X (.Compare a [op] [b] pos) (tTest (tOp r ta tb)) := by
  intro pins s σ H Q I h
  refine wpAny_isTrue_Compare1 (thn (ha pins s σ H _ I h) fun v s1 ⟨x, H1, I1, r1, q1⟩ => thn (hb pins s1 σ H1 _ I1 q1) fun u s2 ⟨y, H2, I2, r2, q2⟩ =>
    thn (ho pins s2 σ H2 x y v u _ I2 r1 r2 q2) fun c s3 ⟨z, H3, I3, r3, k, e, q3⟩ => ?_) hm
  subst e
  cases r3
  exact wpAny_truthy_bool ⟨H3, I3, q3⟩
/-- a op1 b op2 c -/
def tChain (r r' : R2) (ta tb tc : TE) : TE := fun σ H Q => ta σ H fun x H1 => tb σ H1 fun y H2 => r x y H2 fun z H3 => ∃ k, z = .bl k ∧
  (if k = true then tc σ H3 fun w' H4 => r' y w' H4 Q else Q (.bl false) H3)
theorem pe_chain {op op' : CmpOp} {r r' : R2} (ho : OpR X (compareOp op) r) (ho' : OpR X (compareOp op') r') (ha : PE X a ta) (hb : PE X b tb) (hc : PE X c tc)
    (hm : lastMarks [op, op'] [b, c] = false := by with_unfolding_all rfl) : PE X (.Compare a [op, op'] [b, c] pos) (tChain r r' ta tb tc) := by
  intro pins s σ H Q I h
  refine Compare_chain (thn (ha pins s σ H _ I h) fun v s1 ⟨x, H1, I1, r1, q1⟩ => chain_link (thn (hb pins s1 σ H1 _ I1 q1) fun u s2 ⟨y, H2, I2, r2, q2⟩ =>
    thn (ho pins s2 σ H2 x y v u _ I2 r1 r2 q2) fun d s3 ⟨z, H3, I3, r3, k, e, q3⟩ => ?_)) hm
  subst e
  cases r3
  refine wpAny_truthy_bool ?_
  cases k with
  | false => exact ite_ff ⟨.bl false, H3, I3, rfl, q3⟩
  | true => exact ite_tt (chain_last (thn (hc pins s3 σ H3 _ I3 q3) fun w' s4 ⟨z', H4, I4, r4, q4⟩ => ho' pins s4 σ H4 y z' u w' Q I4 r2 r4 q4))
theorem pt_chain {op op' : CmpOp} {r r' : R2} (ho : OpR X (compareOp op) r) (ho' : OpR X (compareOp op') r') (ha : PE X a ta) (hb : PE X b tb) (hc : PE X c tc)
    (hm : lastMarks [op, op'] [b, c] = false := by with_unfolding_all rfl) : PT X (.Compare a [op, op'] [b, c] pos) (tTest (tChain r r' ta tb tc)) := by
  intro pins s σ H Q I h
  refine isTrue_chain (thn (ha pins s σ H _ I h) fun v s1 ⟨x, H1, I1, r1, q1⟩ => test_link (thn (hb pins s1 σ H1 _ I1 q1) fun u s2 ⟨y, H2, I2, r2, q2⟩ =>
    thn (ho pins s2 σ H2 x y v u _ I2 r1 r2 q2) fun d s3 ⟨z, H3, I3, r3, k, e, q3⟩ => ?_)) hm
  subst e
  cases r3
  refine wpAny_truthy_bool ?_
  cases k with
  | false =>
    obtain ⟨k', e', q'⟩ := q3
    cases e'
    exact ite_ff ⟨H3, I3, q'⟩
  | true =>
    refine ite_tt (test_last (thn (hc pins s3 σ H3 _ I3 q3) fun w' s4 ⟨z', H4, I4, r4, q4⟩ => thn (ho' pins s4 σ H4 y z' u w' _ I4 r2 r4 q4) fun d' s5 ⟨z2, H5, I5, r5, k2, e2, q5⟩ => ?_))
    subst e2
    cases r5
    exact wpAny_truthy_bool ⟨H5, I5, q5⟩

/-! ### truth -/
/-- a value's truth by the abstract heap -/
def TruV (K : PySem.W.Frag) (x : V) (H : Hp) (k : Bool) : Prop :=
  match x with
  | .non => k = false
  | .bl b => k = b
  | .int i => k = (i != 0)
  | .str y => y.length ≤ sizeLine ∧ k = ((y.length : Int) != 0)
  | .byt y => y.size ≤ sizeLine ∧ k = ((y.size : Int) != 0)
  | .ref p => (∃ xs, SqL K H p xs ∧ k = !xs.isEmpty) ∨ (∃ xs, SqT K H p xs ∧ k = !xs.isEmpty) ∨ ∃ kvs, H p = some (.dK kvs) ∧ k = !kvs.isEmpty
  | _ => False
theorem isEmpty_kv {κ : Type} {kvs : List (κ × V)} {vs : List (κ × Value)} (r : KV kvs vs) : (!vs.isEmpty) = !kvs.isEmpty := by
  cases r <;> rfl
theorem isEmpty_of {xs : List V} {its : List Value} (r : Vals xs its) : (!its.toArray.isEmpty) = !xs.isEmpty := by
  cases r <;> simp
theorem line63 : (sizeLine : Nat) < 2 ^ 63 := by rw [sizeLine_eq]; decide
theorem tru_ok : TruR X (fun x H Q => ∃ k, TruV X.K x H k ∧ Q k H) := by
  intro pins s σ H x v Q I rx h
  obtain ⟨k, e, q⟩ := h
  have hl := line63
  have hs : sizeLine = 16777216 := sizeLine_eq
  cases x with
  | non =>
    cases rx
    have e' : k = false := e
    subst e'
    exact truthy_none ⟨H, I, q⟩
  | bl b =>
    cases rx
    have e' : k = b := e
    subst e'
    exact wpAny_truthy_bool ⟨H, I, q⟩
  | int i =>
    obtain ⟨t, rfl⟩ := rx
    have e' : k = (i != 0) := e
    subst e'
    exact PySem.P.truthy_int ⟨H, I, q⟩
  | str y =>
    obtain ⟨t, rfl⟩ := rx
    obtain ⟨hy, e'⟩ : y.length ≤ sizeLine ∧ k = ((y.length : Int) != 0) := e
    subst e'
    exact PySem.P.truthy_str (by omega) ⟨H, I.tok _, q⟩
  | byt y =>
    obtain ⟨t, rfl⟩ := rx
    obtain ⟨hy, e'⟩ : y.size ≤ sizeLine ∧ k = ((y.size : Int) != 0) := e
    subst e'
    exact PySem.W.truthy_bytes (by omega) ⟨H, I.tok _, q⟩
  | ref p =>
    cases rx
    have e' : (∃ xs, SqL X.K H p xs ∧ k = !xs.isEmpty) ∨ (∃ xs, SqT X.K H p xs ∧ k = !xs.isEmpty) ∨ ∃ kvs, H p = some (.dK kvs) ∧ k = !kvs.isEmpty := e
    rcases e' with ⟨xs, hx, e'⟩ | ⟨xs, hx, e'⟩ | ⟨kvs, hx, e'⟩
    · subst e'
      obtain ⟨its, r, pl, hz⟩ := I.list hx
      have hlen := r.length
      exact wpAny_truthy_list pl.isList (by simp only [List.size_toArray]; omega) ⟨H, I.tok _, by rw [isEmpty_of r]; exact q⟩
    · subst e'
      obtain ⟨its, r, pl, hz⟩ := I.tuple hx
      have hlen := r.length
      exact truthy_tuple pl (by simp only [List.size_toArray]; omega) ⟨H, I.tok _, by rw [isEmpty_of r]; exact q⟩
    · subst e'
      obtain ⟨hz, hS, vs, r, m⟩ : kvs.length ≤ sizeLine ∧ (p == sysModules) = false ∧ ∃ vs, KV kvs vs ∧ s.heap.DictOf (mixKind X.prog X.w) p vs := I.hok p _ hx
      have hlen : kvs.length = vs.length := Paired.length r
      exact wpAny_truthy_dict hS m (by omega) ⟨H, I.tok _, by rw [isEmpty_kv r]; exact q⟩
  | _ => exact (show False from e).elim
/-- any expression whose test is its value's truth (a name, a call, a subscript, a field ..: he by fun _ => rfl) -/
theorem pt_truth (ha : PE X a ta) (he : ∀ whole, isTrue a X.env whole = (do let v ← whole; standAt a.pos; holding [v] (truthy v))) :
    PT X a (fun σ H Q => ta σ H fun x H' => ∃ k, TruV X.K x H' k ∧ Q k H') := by
  intro pins s σ H Q I h
  exact isTrue_plain (thn (ha pins s σ H _ I h) fun v s1 ⟨x, H1, I1, r1, q1⟩ => tru_ok pins s1 σ H1 x v Q I1 r1 q1) (he _)

/-! ### strs and bytes -/
theorem pe_byt {x : List UInt8} {k : Nat} : PE X (.Constant (.bytes x) k pos) (fun _ H Q => Q (.byt x.toArray) H) := fun _ _ _ H _ I h => PySem.W.Constant_bytes ⟨.byt x.toArray, H, I.tok _, ⟨_, rfl⟩, h⟩
theorem op_add_str : OpR X (binaryOp .Add) (fun x y H Q => ∃ i j, x = .str i ∧ y = .str j ∧ i.length + j.length ≤ sizeLine ∧ Q (.str (i ++ j)) H) := by
  intro pins s σ H x y v u Q I rx ry h
  obtain ⟨i, j, rfl, rfl, hz, q⟩ := h
  obtain ⟨t, rfl⟩ := rx
  obtain ⟨t', rfl⟩ := ry
  exact add_str (fun t' tk => ⟨.str (i ++ j), H, I.tok _, ⟨_, rfl⟩, q⟩) hz
theorem iop_add_str : OpR X (inplaceOp .Add) (fun x y H Q => ∃ i j, x = .str i ∧ y = .str j ∧ i.length + j.length ≤ sizeLine ∧ Q (.str (i ++ j)) H) := by
  intro pins s σ H x y v u Q I rx ry h
  obtain ⟨i, j, rfl, rfl, hz, q⟩ := h
  obtain ⟨t, rfl⟩ := rx
  obtain ⟨t', rfl⟩ := ry
  exact iadd_str (fun t' tk => ⟨.str (i ++ j), H, I.tok _, ⟨_, rfl⟩, q⟩) hz
theorem op_add_byt : OpR X (binaryOp .Add) (fun x y H Q => ∃ i j, x = .byt i ∧ y = .byt j ∧ i.size + j.size ≤ 16777216 ∧ Q (.byt (i ++ j)) H) := by
  intro pins s σ H x y v u Q I rx ry h
  obtain ⟨i, j, rfl, rfl, hz, q⟩ := h
  obtain ⟨t, rfl⟩ := rx
  obtain ⟨t', rfl⟩ := ry
  exact PySem.W.KBy.add_bytes hz (fun t' tk => ⟨.byt (i ++ j), H, I.tok _, ⟨_, rfl⟩, q⟩)

def PlainIxT (b : Expr) : Prop := ∀ o i, subscripted b false o i = operate [o, i] (getItem o i)
/-- s[i], 0 ≤ i < len -/
theorem pe_item_str (ha : PE X a ta) (hb : PE X b tb) (hs : PlainIxT b) :
    PE X (.Subscript a b pos) (tOp (fun x y H Q => ∃ z i c, x = .str z ∧ y = .int i ∧ 0 ≤ i ∧ i < 2 ^ 63 ∧ i < z.length ∧ z.cps[i.toNat]? = some c ∧ Q (.str ⟨#[c]⟩) H) ta tb) := by
  intro pins s σ H Q I h
  refine Subscript_ (binT ha hb I h fun v u s2 x y H2 I2 rx ry q => ?_)
  obtain ⟨z, i, c, rfl, rfl, h0, h63, h1, hc, q⟩ := q
  obtain ⟨t, rfl⟩ := rx
  obtain ⟨t', rfl⟩ := ry
  have e : seqIndex? i z.length = some i.toNat := PySem.StrLaws.seqIndex_nonneg h0 h1
  exact tail_any (typeIs_str s2 z t) slot_str_getitem.lookup (getItem_str (c := c) (by
    have e1 : decide (i < -(2 ^ 63 : Int)) = false := decide_eq_false (by omega)
    have e2 : decide (i ≥ 2 ^ 63) = false := decide_eq_false (by omega)
    rw [e1, e2] <;> rfl) (by rw [e]; exact hc) ⟨.str ⟨#[c]⟩, H2, I2.tok _, ⟨_, rfl⟩, q⟩) (hs _ _)
/-- b[i], 0 ≤ i < len -/
theorem pe_item_byt (ha : PE X a ta) (hb : PE X b tb) (hs : PlainIxT b) :
    PE X (.Subscript a b pos) (tOp (fun x y H Q => ∃ (z : List UInt8) (i : Int), x = .byt z.toArray ∧ y = .int i ∧ z.length ≤ sizeLine ∧ 0 ≤ i ∧ i < z.length ∧ Q (.int ((z.getD i.toNat 0).toNat : Nat)) H) ta tb) := by
  intro pins s σ H Q I h
  refine Subscript_ (binT ha hb I h fun v u s2 x y H2 I2 rx ry q => ?_)
  obtain ⟨z, i, rfl, rfl, hz, h0, h1, q⟩ := q
  obtain ⟨t, rfl⟩ := rx
  obtain ⟨t', rfl⟩ := ry
  have hl : sizeLine = 16777216 := sizeLine_eq
  exact tail_any (PySem.W.typeIs_bytes s2 z.toArray t) PySem.W.FB.slot_bytes_getitem.lookup (PySem.W.getItem_bytes (by omega) h0 h1 ⟨.int ((z.getD i.toNat 0).toNat : Nat), H2, I2.tok _, ⟨_, rfl⟩, q⟩) (hs _ _)

/-! ### scalar builtins, by CallR -/
theorem vals1 {x : V} {us : List Value} (r : Vals [x] us) : ∃ u, us = [u] ∧ RelV x u := by
  cases r with
  | cons r1 r2 => cases r2; exact ⟨_, rfl, r1⟩
theorem vals2 {x y : V} {us : List Value} (r : Vals [x, y] us) : ∃ u w', us = [u, w'] ∧ RelV x u ∧ RelV y w' := by
  cases r with
  | cons r1 r2 =>
    cases r2 with
    | cons r3 r4 => cases r4; exact ⟨_, _, rfl, r1, r3⟩
theorem call_abs : CallR X (.builtin "abs") (fun xs H Q => ∃ i, xs = [.int i] ∧ Q (.int (if i < 0 then -i else i)) H) := by
  intro pins s σ H xs us Q I r h
  obtain ⟨i, rfl, q⟩ := h
  obtain ⟨u, rfl, t, rfl⟩ := vals1 r
  exact call_abs_int fun u tk => ⟨.int (if i < 0 then -i else i), H, I.tok _, ⟨_, rfl⟩, q⟩
theorem call_max2 (hc : X.calm = true) : CallR X (.builtin "max") (fun xs H Q => ∃ i j, xs = [.int i, .int j] ∧ Q (.int (if j > i then j else i)) H) := by
  intro pins s σ H xs us Q I r h
  obtain ⟨i, j, rfl, q⟩ := h
  obtain ⟨u, w', rfl, ⟨t, rfl⟩, ⟨t', rfl⟩⟩ := vals2 r
  refine max_two_ints (I.ok.hd hc) fun h' tk k => ⟨_, H, I.kept k, ?_, q⟩
  by_cases hj : j > i
  · rw [if_pos hj, if_pos hj]; exact ⟨_, rfl⟩
  · rw [if_neg hj, if_neg hj]; exact ⟨_, rfl⟩
theorem call_min2 (hc : X.calm = true) : CallR X (.builtin "min") (fun xs H Q => ∃ i j, xs = [.int i, .int j] ∧ Q (.int (if j < i then j else i)) H) := by
  intro pins s σ H xs us Q I r h
  obtain ⟨i, j, rfl, q⟩ := h
  obtain ⟨u, w', rfl, ⟨t, rfl⟩, ⟨t', rfl⟩⟩ := vals2 r
  refine min_two_ints (I.ok.hd hc) fun h' tk k => ⟨_, H, I.kept k, ?_, q⟩
  by_cases hj : j < i
  · rw [if_pos hj, if_pos hj]; exact ⟨_, rfl⟩
  · rw [if_neg hj, if_neg hj]; exact ⟨_, rfl⟩
theorem call_int1 : CallR X (.type "int") (fun xs H Q => (∃ i, xs = [.int i] ∧ Q (.int i) H) ∨ ∃ k, xs = [.bl k] ∧ Q (.int (if k then 1 else 0)) H) := by
  intro pins s σ H xs us Q I r h
  rcases h with ⟨i, rfl, q⟩ | ⟨k, rfl, q⟩
  · obtain ⟨u, rfl, t, rfl⟩ := vals1 r
    exact call_int_int ⟨.int i, H, I, ⟨_, rfl⟩, q⟩
  · obtain ⟨u, rfl, r1⟩ := vals1 r
    cases r1
    exact call_int_bool ⟨.int (if k then 1 else 0), H, I.tok _, ⟨_, rfl⟩, q⟩
theorem call_bool1 : CallR X (.type "bool") (fun xs H Q => (∃ i, xs = [.int i] ∧ Q (.bl (i != 0)) H) ∨ ∃ k, xs = [.bl k] ∧ Q (.bl k) H) := by
  intro pins s σ H xs us Q I r h
  rcases h with ⟨i, rfl, q⟩ | ⟨k, rfl, q⟩
  · obtain ⟨u, rfl, t, rfl⟩ := vals1 r
    exact call_bool_int ⟨.bl (i != 0), H, I, rfl, q⟩
  · obtain ⟨u, rfl, r1⟩ := vals1 r
    cases r1
    exact call_bool_bool ⟨.bl k, H, I, rfl, q⟩
theorem call_str_int : CallR X (.type "str") (fun xs H Q => ∃ i, xs = [.int i] ∧ i.natAbs.log2 < 1920 ∧ Q (.str (toString i)) H) := by
  intro pins s σ H xs us Q I r h
  obtain ⟨i, rfl, hz, q⟩ := h
  obtain ⟨u, rfl, t, rfl⟩ := vals1 r
  exact PySem.P.str_of_int hz ⟨.str _, H, I.tok _, ⟨_, rfl⟩, q⟩
theorem call_ord : CallR X (.builtin "ord") (fun xs H Q => ∃ x, xs = [.str x] ∧ x.length = 1 ∧ Q (.int (x.cps.getD 0 0 : Nat)) H) := by
  intro pins s σ H xs us Q I r h
  obtain ⟨x, rfl, hz, q⟩ := h
  obtain ⟨u, rfl, t, rfl⟩ := vals1 r
  exact ord_of_one hz ⟨.int _, H, I.tok _, ⟨_, rfl⟩, q⟩
theorem call_chr : CallR X (.builtin "chr") (fun xs H Q => ∃ i, xs = [.int i] ∧ 0 ≤ i ∧ i ≤ 1114111 ∧ Q (.str ⟨#[i.toNat]⟩) H) := by
  intro pins s σ H xs us Q I r h
  obtain ⟨i, rfl, h0, h1, q⟩ := h
  obtain ⟨u, rfl, t, rfl⟩ := vals1 r
  exact chr_of_range h0 h1 ⟨.str _, H, I.tok _, ⟨_, rfl⟩, q⟩
/-- len of a str, a bytes, a list, a tuple -/
def LenV (K : PySem.W.Frag) (x : V) (H : Hp) (n : Nat) : Prop :=
  match x with
  | .str y => y.length ≤ sizeLine ∧ n = y.length
  | .byt y => y.size ≤ sizeLine ∧ n = y.size
  | .ref p => (∃ xs, SqL K H p xs ∧ n = xs.length) ∨ ∃ xs, SqT K H p xs ∧ n = xs.length
  | _ => False
theorem call_len : CallR X (.builtin "len") (fun xs H Q => ∃ x n, xs = [x] ∧ LenV X.K x H n ∧ Q (.int n) H) := by
  intro pins s σ H xs us Q I r h
  obtain ⟨x, n, rfl, e, q⟩ := h
  obtain ⟨u, rfl, rx⟩ := vals1 r
  have hl := line63
  have hs : sizeLine = 16777216 := sizeLine_eq
  cases x with
  | str y =>
    obtain ⟨t, rfl⟩ := rx
    obtain ⟨hy, e'⟩ : y.length ≤ sizeLine ∧ n = y.length := e
    subst e'
    exact len_str (by omega) ⟨.int _, H, I.tok _, ⟨_, rfl⟩, q⟩
  | byt y =>
    obtain ⟨t, rfl⟩ := rx
    obtain ⟨hy, e'⟩ : y.size ≤ sizeLine ∧ n = y.size := e
    subst e'
    exact PySem.W.len_bytes (by omega) ⟨.int _, H, I.tok _, ⟨_, rfl⟩, q⟩
  | ref p =>
    cases rx
    have e' : (∃ xs, SqL X.K H p xs ∧ n = xs.length) ∨ ∃ xs, SqT X.K H p xs ∧ n = xs.length := e
    rcases e' with ⟨xs, hx, e'⟩ | ⟨xs, hx, e'⟩
    · subst e'
      obtain ⟨its, r', pl, hz⟩ := I.list hx
      have hlen := r'.length
      exact Calls.call_len_list pl.isList (by simp only [List.size_toArray]; omega) ⟨.int xs.length, H, I.tok _, ⟨_, by simp only [List.size_toArray]; rw [hlen]⟩, q⟩
    · subst e'
      obtain ⟨its, r', pl, hz⟩ := I.tuple hx
      have hlen := r'.length
      exact len_tuple pl (by simp only [List.size_toArray]; omega) ⟨.int xs.length, H, I.tok _, ⟨_, by simp only [List.size_toArray]; rw [hlen]⟩, q⟩
  | _ => exact (show False from e).elim
/-- divmod: a new tuple -/
theorem call_divmod : CallR X (.builtin "divmod") (fun xs H Q => ∃ i j, xs = [.int i, .int j] ∧ CDiv i j ∧ ∀ p, H p = none → Q (.ref p) (upd H p (.tup [.int (i / j), .int (i % j)]))) := by
  intro pins s σ H xs us Q I r h
  obtain ⟨i, j, rfl, ⟨h1, h2⟩, q⟩ := h
  obtain ⟨u, w', rfl, ⟨t, rfl⟩, ⟨t', rfl⟩⟩ := vals2 r
  refine divmod_int (by omega) ?_ (.inl (PyProof.noPylong_small (by omega)))
  rw [Int.fdiv_eq_ediv_of_nonneg i (by omega), Int.fmod_eq_emod_of_nonneg i (by omega)]
  have hn : H s.heap.objs.size = none := I.hok.fresh (Nat.le_refl _)
  refine ⟨.ref s.heap.objs.size, _, ?_, rfl, q _ hn⟩
  refine I.laid (fun b o e => Heap.get?_push_of_some _ e) (Nat.le_refl _) ⟨by simp only [List.length_cons, List.length_nil]; rw [sizeLine_eq]; decide, [.int (i / j) s.toks, .int (i % j) (s.toks + 1)], .cons ⟨_, rfl⟩ (.cons ⟨_, rfl⟩ .nil), ?_⟩
  exact ⟨_, Heap.get?_push_size s.heap rfl, rfl, 0, rfl⟩
end
end L2

namespace L2
open PySem PySem.Spec PyProof.Rows

/-! ### an instance, its attributes a map -/
structure ObjM (h : Heap) (x dx C : Addr) (mA : Str → Option Value) : Prop where
  obj : h.get? x = some (PySem.W.instObj C dx)
  ns : h.Ns1 dx mA
  ne : dx ≠ x

theorem lookIn_ns {h : Heap} {dx : Addr} {mA : Str → Option Value} (n : h.Ns1 dx mA) : ∃ od, h.get? dx = some od ∧ ∀ name, PySem.W.lookIn name od = some (mA name) := by
  obtain ⟨o, es, ep, ho, hd, hk, _, hm⟩ := n
  refine ⟨o, ho, fun name => ?_⟩
  have e := hm name
  unfold nsFind findBy at e
  rw [← Array.find?_toList] at e
  unfold PySem.W.lookIn
  rw [hd]
  dsimp only
  split
  · rename_i y q
    rw [q] at e
    exact congrArg some e
  · rename_i q
    rw [q] at e
    have a : es.toList.any (·.refKey) = false := by
      rw [List.any_eq_false]
      intro y hy
      obtain ⟨z, t, hkey⟩ := hk y (Array.mem_toList_iff.mp hy)
      simp [DictEntry.refKey, hkey]
    have a' : ¬ es.toList.any (·.refKey) = true := by rw [a]; exact Bool.false_ne_true
    rw [if_neg a']
    exact congrArg some e

theorem ObjM.look {h : Heap} {x dx C : Addr} {mA : Str → Option Value} (I : ObjM h x dx C mA) : ∃ od, PySem.W.InstAt h x (PySem.W.instObj C dx) C (some od) ∧ ∀ name, PySem.W.lookIn name od = some (mA name) :=
  let ⟨od, ho, hl⟩ := lookIn_ns I.ns
  ⟨od, ⟨I.obj, rfl, rfl, ho⟩, hl⟩

section
variable {prog : Program} {w : World} {A : Around} {E : Value → Shared → Prop} {s : Shared} {K : PySem.W.Frag} {x dx C f : Addr} {mA : Str → Option Value} {name : Str} {v : Value}

theorem get_map {expr : Bool} {Q : Value → Shared → Prop} (X : K.In s.heap) (I : ObjM s.heap x dx C mA) (hg : PySem.W.plainGet K C name = true) (hh : PySem.W.hasDictIn K C = true)
    (ha : PySem.W.findIn K (.ref C) name = some none) (hv : mA name = some v) (hv' : PySem.W.handedIn v = true) (h : Q v { s with toks := s.toks + 1 }) :
    wpAny (model prog w) A (getAttr (.ref x) name expr) Q E s := by
  obtain ⟨od, J, hl⟩ := I.look
  exact PySem.W.get_value X J (PySem.W.plainGet_of hg).1 (PySem.W.findObj_own hh ha rfl (by rw [hl, hv])) hv' h

theorem get_const {expr : Bool} {a : Value} {Q : Value → Shared → Prop} (X : K.In s.heap) (I : ObjM s.heap x dx C mA) (hg : PySem.W.plainGet K C name = true) (hh : PySem.W.hasDictIn K C = true)
    (ha : PySem.W.findIn K (.ref C) name = some (some a)) (hn : PySem.W.specialIn K a "__get__" = some none) (hc : PySem.W.copiedNames.contains name = false) (hv : mA name = none) (hv' : PySem.W.handedIn a = true)
    (h : Q a { s with toks := s.toks + 1 }) : wpAny (model prog w) A (getAttr (.ref x) name expr) Q E s := by
  obtain ⟨od, J, hl⟩ := I.look
  exact PySem.W.get_value X J (PySem.W.plainGet_of hg).1 (PySem.W.findObj_cls hh ha hn hv' hc (by rw [hl, hv])) hv' h

theorem get_meth {pl : Sem Bool} {Q : Value × List Value → Shared → Prop} (X : K.In s.heap) (I : ObjM s.heap x dx C mA) (hg : PySem.W.plainGet K C name = true)
    (hf : PySem.W.findIn K (.ref C) name = some (some (.ref f))) (ht : PySem.W.isFn K (.ref f) = true) (hv : mA name = none) (h : Q (.ref f, [.ref x]) s) :
    wpAny (model prog w) A (getMethod (.ref x) name pl) Q E s := by
  obtain ⟨od, J, hl⟩ := I.look
  exact PySem.W.method_fn X J (PySem.W.plainGet_of hg).1 (PySem.W.plainGet_of hg).2 hf (beq_iff_eq.mp ht) (by show (PySem.W.lookIn name od).map (·.isSome) = some false; rw [hl, hv]; rfl) h

theorem set_map {ns : List Str} {Q : Unit → Shared → Prop} (X : K.In s.heap) (I : ObjM s.heap x dx C mA)
    (hs : PySem.W.findIn K (.ref C) "__setattr__" = some (some (.builtin "object.__setattr__"))) (hp : PySem.W.plainOver K C = true) (ht : PySem.W.takerIn K C name = some none) (hh : PySem.W.hasDictIn K C = true)
    (hw : PySem.Within mA ns) (hsz : ns.length ≤ sizeLine)
    (h : ∀ h', ObjM h' x dx C (fun y => if y = name then some v else mA y) → Heap.SameBut dx s.heap h' → Q () { s with heap := h', toks := s.toks + 2 }) :
    wpAny (model prog w) A (setAttr (.ref x) name v) Q E s := by
  obtain ⟨od, J, hl⟩ := I.look
  refine PySem.W.set_plain X J hs (PySem.W.osa_open (s := { s with toks := s.toks + 1 }) (r := none) X J hp ht fun b => ?_)
  obtain ⟨cd, hc, hd'⟩ := PySem.W.any_some hh
  have hx : s.heap.get? x = some ⟨.ref C, some dx, .plain, #[]⟩ := I.obj
  refine wpAny_bind (wpAny_pure (wpAny_bind (wpAny_bind (wpAny_loadPart hx (wpAny_bind (PySem.W.Looks.here (s := { s with toks := s.toks + 1 }) (PySem.W.looks_clsIn X hc) ?_))))))
  rw [hd']
  refine wpAny_pure (a := some dx) (wpAny_bind (wpAny_pure (wpAny_bind ?_)))
  refine wpAny_nsSet1 (s := { s with toks := s.toks + 1 }) I.ns fun h' hn2 hs2 => ?_
  obtain ⟨oD, esD, epD, hoD, hdD, hcD⟩ := hn2.count (PySem.Within.cons name v hw)
  refine wpAny_bind (wpAny_lookBehind hoD (by rw [hdD]; exact pastItsLine_dict (Nat.le_trans hcD (by rw [List.length_cons]; omega))) ?_)
  exact wpAny_pure (h _ ⟨(hs2.2 _ (Ne.symm I.ne)).trans I.obj, hn2, I.ne⟩ hs2)

/-- C(..): the dict at the heap's end, the instance behind it; then its __init__ -/
theorem make_map {R : Result → Shared → Prop} {vs : List Value} {kw : List (Str × Value)} (X : K.In s.heap) (hm : PySem.W.makesIn K C = true)
    (hi : PySem.W.findIn K (.ref C) "__init__" = some (some (.ref f))) (hf : PySem.W.typeIn K (.ref f) = some (.type "function"))
    (h : codeAny (model prog w) (A.under (.builtin "type.__call__" ⟨.ref C :: vs, kw⟩)) (.call (.ref f) ⟨.ref (s.heap.objs.size + 1) :: vs, kw⟩) (PySem.W.InitBack (s.heap.objs.size + 1) R)
      { s with heap := (s.heap.push PySem.W.emptyDict).push (PySem.W.instObj C s.heap.objs.size) }) :
    codeAny (model prog w) A (.call (.ref C) ⟨vs, kw⟩) R s := by
  obtain ⟨hh, g, d, t, os⟩ := s
  exact PySem.W.make_core (PySem.W.makes_of X hm) (PySem.W.looks_findIn X hi) (fun self => PySem.W.bind_fn X self hf) (.inl rfl) h
/-- C() where there is no __init__ but object's -/
theorem make_map0 {R : Result → Shared → Prop} (X : K.In s.heap) (hm : PySem.W.makesIn K C = true)
    (hi : PySem.W.findIn K (.ref C) "__init__" = some (some (.builtin "object.__init__")))
    (hb : ∀ self, PySem.W.Looks (model prog w) s.heap (bindSpecial (.builtin "object.__init__") self) (.builtin "object.__init__", [self]))
    (h : codeAny (model prog w) (A.under (.builtin "type.__call__" ⟨[.ref C], []⟩)) (.call (.builtin "object.__init__") ⟨[.ref (s.heap.objs.size + 1)], []⟩) (PySem.W.InitBack (s.heap.objs.size + 1) R)
      { s with heap := (s.heap.push PySem.W.emptyDict).push (PySem.W.instObj C s.heap.objs.size) }) :
    codeAny (model prog w) A (.call (.ref C) ⟨[], []⟩) R s := by
  obtain ⟨hh, g, d, t, os⟩ := s
  exact PySem.W.make_core (PySem.W.makes_of X hm) (PySem.W.looks_findIn X hi) hb (.inr ⟨rfl, rfl⟩) h
end

/-! ### the attributes as a list of pairs -/
def putF (f : Str) (v : V) : List (Str × V) → List (Str × V)
  | [] => [(f, v)]
  | (g, x) :: r => if g = f then (g, v) :: r else (g, x) :: putF f v r
theorem lookup_putF (f g : Str) (v : V) : ∀ fs : List (Str × V), (putF f v fs).lookup g = if g = f then some v else fs.lookup g
  | [] => by
    show List.lookup g [(f, v)] = _
    by_cases h : g = f
    · have hb : (g == f) = true := beq_iff_eq.mpr h
      simp only [List.lookup, hb, if_pos h]
    · have hb : (g == f) = false := beq_eq_false_iff_ne.mpr h
      simp only [List.lookup, hb, if_neg h]
  | (k, x) :: r => by
    have ih := lookup_putF f g v r
    rw [show putF f v ((k, x) :: r) = (if k = f then (k, v) :: r else (k, x) :: putF f v r) from rfl]
    by_cases hk : k = f
    · rw [if_pos hk]
      by_cases h : g = k
      · have hb : (g == k) = true := beq_iff_eq.mpr h
        simp only [List.lookup, hb, if_pos (h.trans hk)]
      · have hb : (g == k) = false := beq_eq_false_iff_ne.mpr h
        simp only [List.lookup, hb, if_neg (fun e : g = f => h (e.trans hk.symm))]
    · rw [if_neg hk]
      by_cases h : g = k
      · have hb : (g == k) = true := beq_iff_eq.mpr h
        simp only [List.lookup, hb, if_neg (fun e : g = f => hk (h.symm.trans e))]
      · have hb : (g == k) = false := beq_eq_false_iff_ne.mpr h
        simp only [List.lookup, hb]
        exact ih
theorem keys_putF (f : Str) (v : V) : ∀ fs : List (Str × V), f ∈ (putF f v fs).map (·.1) ∧ ∀ g, g ∈ fs.map (·.1) → g ∈ (putF f v fs).map (·.1)
  | [] => ⟨by simp [putF], fun g h => by simp at h⟩
  | (k, x) :: r => by
    obtain ⟨i1, i2⟩ := keys_putF f v r
    rw [show putF f v ((k, x) :: r) = (if k = f then (k, v) :: r else (k, x) :: putF f v r) from rfl]
    by_cases hk : k = f
    · rw [if_pos hk]
      subst hk
      exact ⟨by simp, fun g h => by simpa using h⟩
    · rw [if_neg hk]
      refine ⟨?_, fun g h => ?_⟩
      · rw [List.map_cons]
        exact List.mem_cons_of_mem _ i1
      · rw [List.map_cons] at h ⊢
        rcases List.mem_cons.mp h with e | e
        · exact List.mem_cons.mpr (.inl e)
        · exact List.mem_cons_of_mem _ (i2 g e)
theorem length_putF (f : Str) (v : V) : ∀ fs : List (Str × V), (putF f v fs).length ≤ fs.length + 1
  | [] => by simp [putF]
  | (k, x) :: r => by
    have ih := length_putF f v r
    rw [show putF f v ((k, x) :: r) = (if k = f then (k, v) :: r else (k, x) :: putF f v r) from rfl]
    by_cases hk : k = f
    · rw [if_pos hk, List.length_cons, List.length_cons]; omega
    · rw [if_neg hk, List.length_cons, List.length_cons]; omega

theorem RelO.some_of {v : V} {o : Option Value} (r : RelO (some v) o) : ∃ u, o = some u ∧ RelV v u := by
  cases o with
  | none => exact (show False from r).elim
  | some u => exact ⟨u, rfl, r⟩
theorem RelO.none_of {o : Option Value} (r : RelO none o) : o = none := by
  cases o with
  | none => rfl
  | some u => exact (show False from r).elim
theorem handed_of {v : V} {u : Value} (r : RelV v u) : PySem.W.handedIn u = true := by
  cases v with
  | non => cases (show u = Value.none from r); rfl
  | bl b => cases (show u = Value.bool b from r); rfl
  | int i => obtain ⟨t, e⟩ := (show ∃ t, u = Value.int i t from r); cases e; rfl
  | str x => obtain ⟨t, e⟩ := (show ∃ t, u = Value.str x t from r); cases e; rfl
  | byt b => obtain ⟨t, e⟩ := (show ∃ t, u = Value.bytes b t from r); cases e; rfl
  | flt b => obtain ⟨t, e⟩ := (show ∃ t, u = Value.float b t from r); cases e; rfl
  | ref a => cases (show u = Value.ref a from r); rfl
  | ty n => cases (show u = Value.type n from r); rfl

section
variable {P : Program} {w : World} {H H' : Hp} {h h' : Heap} {a C dx : Addr} {fs fs' : List (Str × V)}
theorem ins_get (hok : HOk P w H h) (e : H a = some (.ins C dx fs)) : ∃ mA, ObjM h a dx C mA ∧ (∀ f, RelO (fs.lookup f) (mA f)) ∧ PySem.Within mA (fs.map (·.1)) ∧ fs.length ≤ 1000 ∧ H dx = some (.own a) := by
  obtain ⟨d, z, ne, ob, mA, n, r, q⟩ := (show ObjOk P w H h a (.ins C dx fs) from hok a _ e)
  exact ⟨mA, ⟨ob, n, ne⟩, r, q, z, d⟩
end

/-! ### what of the text a class must have -/
structure Cls (K : PySem.W.Frag) (C : Addr) : Prop where
  pg : PySem.W.plainGet K C Str.empty = true
  hd : PySem.W.hasDictIn K C = true
  po : PySem.W.plainOver K C = true
  sa : PySem.W.findIn K (.ref C) "__setattr__" = some (some (.builtin "object.__setattr__"))
theorem Cls.get {K : PySem.W.Frag} {C : Addr} (c : Cls K C) (f : Str) : PySem.W.plainGet K C f = true := c.pg
/-- no class of it has the name -/
def NoAttr (K : PySem.W.Frag) (C : Addr) (f : Str) : Prop := PySem.W.findIn K (.ref C) f = some none
theorem NoAttr.taker {K : PySem.W.Frag} {C : Addr} {f : Str} (n : NoAttr K C f) : PySem.W.takerIn K C f = some none := by
  unfold PySem.W.takerIn
  rw [show PySem.W.findIn K (.ref C) f = some none from n]
  rfl
/-- a constant of the class -/
structure Con (K : PySem.W.Frag) (C : Addr) (f : Str) (v : V) (u : Value) : Prop where
  at_ : PySem.W.findIn K (.ref C) f = some (some u)
  rel : RelV v u
  get : PySem.W.specialIn K u "__get__" = some none
  cp : PySem.W.copiedNames.contains f = false
/-- a method: a plain def of the class or of one above it -/
structure Meth (K : PySem.W.Frag) (C : Addr) (m : Str) (f : Addr) : Prop where
  at_ : PySem.W.findIn K (.ref C) m = some (some (.ref f))
  fn : PySem.W.isFn K (.ref f) = true
  kp : PySem.W.keepIn K (.ref f) = true

section
variable {X : Cx} {pins : List (Addr × Obj)} {σ : St} {H : Hp} {s : Shared} {a C dx : Addr} {fs : List (Str × V)} {f : Str} {v : V} {A : Around} {E : Value → Shared → Prop}

theorem getattr_ok {b : Bool} {Q : Value → Shared → Prop} (I : Inv X pins σ H s) (e : H a = some (.ins C dx fs)) (c : Cls X.K C) (n : NoAttr X.K C f) (l : fs.lookup f = some v)
    (h : ∀ u s', Inv X pins σ H s' → RelV v u → Q u s') : wpAny (model X.prog X.w) A (getAttr (.ref a) f b) Q E s := by
  obtain ⟨mA, O, r, _, _, _⟩ := ins_get I.hok e
  obtain ⟨u, hu, ru⟩ := RelO.some_of (v := v) (o := mA f) (by rw [← l]; exact r f)
  exact get_map I.kIn O (c.get f) c.hd n hu (handed_of ru) (h u _ (I.tok _) ru)

theorem getcon_ok {b : Bool} {u : Value} {Q : Value → Shared → Prop} (I : Inv X pins σ H s) (e : H a = some (.ins C dx fs)) (c : Cls X.K C) (k : Con X.K C f v u) (l : fs.lookup f = none)
    (h : ∀ s', Inv X pins σ H s' → Q u s') : wpAny (model X.prog X.w) A (getAttr (.ref a) f b) Q E s := by
  obtain ⟨mA, O, r, _, _, _⟩ := ins_get I.hok e
  have hn : mA f = none := RelO.none_of (by rw [← l]; exact r f)
  exact get_const I.kIn O (c.get f) c.hd k.at_ k.get k.cp hn (handed_of k.rel) (h _ (I.tok _))

theorem getmeth_ok {m : Str} {g : Addr} {pl : Sem Bool} {Q : Value × List Value → Shared → Prop} (I : Inv X pins σ H s) (e : H a = some (.ins C dx fs)) (c : Cls X.K C) (k : Meth X.K C m g) (l : fs.lookup m = none)
    (h : Q (.ref g, [.ref a]) s) : wpAny (model X.prog X.w) A (getMethod (.ref a) m pl) Q E s := by
  obtain ⟨mA, O, r, _, _, _⟩ := ins_get I.hok e
  have hn : mA m = none := RelO.none_of (by rw [← l]; exact r m)
  exact get_meth I.kIn O (c.get m) k.at_ k.fn hn h

theorem setattr_ok {y : V} {u : Value} {Q : Unit → Shared → Prop} (I : Inv X pins σ H s) (e : H a = some (.ins C dx fs)) (c : Cls X.K C) (n : NoAttr X.K C f) (hl : fs.length < 1000) (ry : RelV y u)
    (h : ∀ s', Inv X pins σ (upd H a (.ins C dx (putF f y fs))) s' → Q () s') : wpAny (model X.prog X.w) A (setAttr (.ref a) f u) Q E s := by
  obtain ⟨mA, O, r, wi, _, ho⟩ := ins_get I.hok e
  have hz : (fs.map (·.1)).length ≤ sizeLine := by rw [List.length_map, sizeLine_eq]; omega
  refine set_map I.kIn O c.sa c.po n.taker c.hd wi hz fun h' O' sb => h _ ?_
  have hd : ∃ o, h'.get? dx = some o := let ⟨o, _, _, e', _⟩ := O'.ns; ⟨o, e'⟩
  refine I.write (x := a) (e := dx) (by rw [e]; exact True.intro) (.inr ho) (fun b q hb z => (sb.2 b hb).trans z) hd ?_
  refine ⟨by rw [upd_ne O.ne]; exact ho, ?_, O.ne, O'.obj, _, O'.ns, fun g => ?_, fun g hg => ?_⟩
  · have := length_putF f y fs; omega
  · show RelO ((putF f y fs).lookup g) (if g = f then some u else mA g)
    rw [lookup_putF]
    by_cases q : g = f
    · rw [if_pos q, if_pos q]; exact ry
    · rw [if_neg q, if_neg q]; exact r g
  · by_cases q : g = f
    · rw [q]; exact (keys_putF f y fs).1
    · refine (keys_putF f y fs).2 g (wi g fun z => hg ?_)
      show (if g = f then some u else mA g) = none
      rw [if_neg q]; exact z

/-- a new instance, tracked, without attributes -/
theorem Inv.made (I : Inv X pins σ H s) : Inv X pins σ (upd (upd H s.heap.objs.size (.own (s.heap.objs.size + 1))) (s.heap.objs.size + 1) (.ins C s.heap.objs.size []))
    { s with heap := (s.heap.push PySem.W.emptyDict).push (PySem.W.instObj C s.heap.objs.size) } := by
  have e1 : (s.heap.push PySem.W.emptyDict).get? s.heap.objs.size = some PySem.W.emptyDict := Heap.get?_push_size s.heap rfl
  have e2 : ((s.heap.push PySem.W.emptyDict).push (PySem.W.instObj C s.heap.objs.size)).get? (s.heap.objs.size + 1) = some (PySem.W.instObj C s.heap.objs.size) := by
    have := Heap.get?_push_size (s.heap.push PySem.W.emptyDict) (o := PySem.W.instObj C s.heap.objs.size) rfl
    rwa [Heap.size_push] at this
  have e3 : (s.heap.push PySem.W.emptyDict).Ns s.heap.objs.size (fun _ => none) := ⟨PySem.W.emptyDict, #[], _, e1, rfl, (fun e he => absurd he (by simp)), fun _ => rfl⟩
  have I1 := I.laid (a := s.heap.objs.size) (o := .own (s.heap.objs.size + 1)) (h' := s.heap.push PySem.W.emptyDict) (t' := s.toks) (fun b u q => Heap.get?_push_of_some _ q) (Nat.le_refl _) ⟨_, e1⟩
  refine I1.laid (a := s.heap.objs.size + 1) (o := .ins C s.heap.objs.size []) (t' := s.toks) (fun b u q => Heap.get?_push_of_some _ q) (Nat.le_of_eq (Heap.size_push _ _)) ?_
  have ne : s.heap.objs.size ≠ s.heap.objs.size + 1 := Nat.ne_of_lt (Nat.lt_succ_self _)
  refine ⟨by rw [upd_ne ne, upd_same], Nat.zero_le _, ne, e2, fun _ => none, (Heap.Ns1.of_empty e3).at fun o q => Heap.get?_push_of_some _ q, fun _ => True.intro, fun y hy => absurd rfl hy⟩

/-- e.f where nothing but the object is asked: through attributeBase (super) and the last hold -/
theorem attr_of {prog : Program} {w : World} {env : Env} {e : Expr} {f : Str} {pos : Pos} {s : Shared} {Q : Value → Shared → Prop} (hb : attributeBase e f env (eval e env) = eval e env)
    (h : wpAny (model prog w) A (eval e env) (fun o s₁ => wpAny (model prog w) A (getAttr o f true) Q E s₁) E s) : wpAny (model prog w) A (eval (.Attribute e f pos) env) Q E s :=
  Attribute_any_ h (by rw [arm_eval_Attribute, hb])
end

/-! ### readings and rules -/
/-- e.f, an attribute of the instance -/
def tFld (K : PySem.W.Frag) (ta : TE) (f : Str) : TE := fun σ H Q => ta σ H fun x H1 => ∃ a C dx fs v, x = .ref a ∧ H1 a = some (.ins C dx fs) ∧ Cls K C ∧ NoAttr K C f ∧ fs.lookup f = some v ∧ Q v H1
/-- e.f, a constant of the class -/
def tCon (K : PySem.W.Frag) (ta : TE) (f : Str) : TE := fun σ H Q => ta σ H fun x H1 => ∃ a C dx fs v u, x = .ref a ∧ H1 a = some (.ins C dx fs) ∧ Cls K C ∧ Con K C f v u ∧ fs.lookup f = none ∧ Q v H1
/-- e.f = value -/
def sFld (K : PySem.W.Frag) (ta tv : TE) (f : Str) : TS := fun D σ H => tv σ H fun y H1 => ta σ H1 fun x H2 => ∃ a C dx fs, x = .ref a ∧ H2 a = some (.ins C dx fs) ∧ Cls K C ∧ NoAttr K C f ∧ fs.length < 1000 ∧
  D.nx σ (upd H2 a (.ins C dx (putF f y fs)))
/-- an augmented operator on two values -/
def InOp (X : Cx) (op : Operator) (rd : V → V → Hp → VK → Prop) : Prop :=
  ∀ (pins : List (Addr × Obj)) (s : Shared) (σ : St) (H : Hp) (x y : V) (u v : Value) (Q : VK), Inv X pins σ H s → RelV x u → RelV y v → rd x y H Q → wpAny (model X.prog X.w) X.A (inplaceOp op u v) (EP X pins σ Q) X.xe s
/-- e.f op= value -/
def sFldAug (K : PySem.W.Frag) (ta tv : TE) (rd : V → V → Hp → VK → Prop) (f : Str) : TS := fun D σ H => ta σ H fun x H1 => ∃ a C dx fs v, x = .ref a ∧ H1 a = some (.ins C dx fs) ∧ Cls K C ∧ NoAttr K C f ∧ fs.lookup f = some v ∧
  tv σ H1 fun y H2 => rd v y H2 fun z H3 => ∃ dx' fs', H3 a = some (.ins C dx' fs') ∧ fs'.length < 1000 ∧ D.nx σ (upd H3 a (.ins C dx' (putF f z fs')))

section
variable {X : Cx} {o e value : Expr} {f : Str} {pos pos' tpos : Pos} {ta tv : TE}
theorem pe_fld (he : PE X e ta) (hb : attributeBase e f X.env (eval e X.env) = eval e X.env) : PE X (.Attribute e f pos) (tFld X.K ta f) := by
  intro pins s σ H Q I h
  refine attr_of hb (thn (he pins s σ H _ I h) fun u s1 ⟨x, H1, I1, rx, a, C, dx, fs, v, ex, ea, c, n, l, q⟩ => ?_)
  subst ex
  obtain rfl : u = Value.ref a := rx
  exact getattr_ok I1 ea c n l fun u' s2 I2 ru => ⟨v, H1, I2, ru, q⟩
theorem pe_con (he : PE X e ta) (hb : attributeBase e f X.env (eval e X.env) = eval e X.env) : PE X (.Attribute e f pos) (tCon X.K ta f) := by
  intro pins s σ H Q I h
  refine attr_of hb (thn (he pins s σ H _ I h) fun u s1 ⟨x, H1, I1, rx, a, C, dx, fs, v, u0, ex, ea, c, k, l, q⟩ => ?_)
  subst ex
  obtain rfl : u = Value.ref a := rx
  exact getcon_ok I1 ea c k l fun s2 I2 => ⟨v, H1, I2, k.rel, q⟩
theorem ps_fld (ha : PE X o ta) (hv : PE X value tv) (hs : swapsWith value (some (.Attribute o f pos')) pos.line X.env = pure false) : PS X (.Assign [.Attribute o f pos'] value pos) (sFld X.K ta tv f) := by
  intro pins s σ H D I h
  refine plainObj_wpAny_Assign_Attribute (thn (hv pins s σ H _ I h) fun u s1 ⟨y, H1, I1, ry, q⟩ => thn (ha pins s1 σ H1 _ I1 q) fun ov s2 ⟨x, H2, I2, rx, a, C, dx, fs, ex, ea, c, n, l, q2⟩ => ?_) hs
  subst ex
  obtain rfl : ov = Value.ref a := rx
  exact setattr_ok I2 ea c n l ry fun s3 I3 => ⟨σ, _, I3, q2⟩
theorem ps_fldaug {op : Operator} {rd : V → V → Hp → VK → Prop} (ha : PE X o ta) (hv : PE X value tv) (hop : InOp X op rd) : PS X (.AugAssign (.Attribute o f tpos) op value pos) (sFldAug X.K ta tv rd f) := by
  intro pins s σ H D I h
  refine wpAny_AugAssign_AttributeAny (thn (ha pins s σ H _ I h) fun ov s1 ⟨x, H1, I1, rx, a, C, dx, fs, v, ex, ea, c, n, l, q⟩ => ?_)
  subst ex
  obtain rfl : ov = Value.ref a := rx
  refine getattr_ok I1 ea c n l fun u s2 I2 ru => thn (hv pins s2 σ H1 _ I2 q) fun w3 s3 ⟨y, H2, I3, ry, q3⟩ => thn (hop pins s3 σ H2 v y u w3 _ I3 ru ry q3) fun w4 s4 ⟨z, H3, I4, rz, dx', fs', ea', l', q4⟩ => ?_
  exact setattr_ok I4 ea' c n l' rz fun s5 I5 => ⟨σ, _, I5, q4⟩
def rAdd : V → V → Hp → VK → Prop := fun x y H Q => ∃ i j, x = .int i ∧ y = .int j ∧ Q (.int (i + j)) H
def rSub : V → V → Hp → VK → Prop := fun x y H Q => ∃ i j, x = .int i ∧ y = .int j ∧ Q (.int (i - j)) H
theorem in_add : InOp X .Add rAdd := by
  rintro pins s σ H x y u v Q I rx ry ⟨i, j, rfl, rfl, q⟩
  obtain ⟨t, rfl⟩ := (show ∃ t, u = Value.int i t from rx)
  obtain ⟨t', rfl⟩ := (show ∃ t', v = Value.int j t' from ry)
  exact PyProof.Rows.iadd_int ⟨.int (i + j), H, I.tok _, ⟨_, rfl⟩, q⟩
theorem in_sub : InOp X .Sub rSub := by
  rintro pins s σ H x y u v Q I rx ry ⟨i, j, rfl, rfl, q⟩
  obtain ⟨t, rfl⟩ := (show ∃ t, u = Value.int i t from rx)
  obtain ⟨t', rfl⟩ := (show ∃ t', v = Value.int j t' from ry)
  exact PyProof.Rows.isub_int ⟨.int (i - j), H, I.tok _, ⟨_, rfl⟩, q⟩

/-- what is between an instance and its method: the tree of a method call -/
theorem methcall_of {pl : Sem Bool} {m : Str} {apos : Pos} {args : List Expr} {pins : List (Addr × Obj)} {s : Shared} {σ : St} {H : Hp} {Q : Value → Shared → Prop} {te : TE} (he : PE X e te) (I : Inv X pins σ H s)
    (h : te σ H fun x H1 => ∃ a C dx fs g, x = .ref a ∧ H1 a = some (.ins C dx fs) ∧ Cls X.K C ∧ Meth X.K C m g ∧ fs.lookup m = none ∧
      ∀ s1, Inv X pins σ H1 s1 → wpAny (model X.prog X.w) X.A (callWith pos (.ref g) [.ref a] (backTo pos (starEach args X.env)) (backToKw pos (keywordEach [] X.env))) Q X.xe s1)
    (ht : eval (.Call (.Attribute e m apos) args [] pos) X.env = (do
      let ov ← eval e X.env
      standAt apos.atName
      let (f, first) ← holding [ov] (getMethod ov m pl)
      callWith pos f first (backTo pos (starEach args X.env)) (backToKw pos (keywordEach [] X.env)))) :
    wpAny (model X.prog X.w) X.A (eval (.Call (.Attribute e m apos) args [] pos) X.env) Q X.xe s := by
  refine PySem.W.methodCall_KW (pl := pl) (thn (he pins s σ H _ I h) fun u s1 ⟨x, H1, I1, rx, a, C, dx, fs, g, ex, ea, c, k, l, q⟩ => ?_) ht
  subst ex
  obtain rfl : u = Value.ref a := rx
  exact getmeth_ok I1 ea c k l (q s1 I1)
end

/-! ### isinstance -/
section
variable {X : Cx} {pins : List (Addr × Obj)} {σ : St} {H : Hp} {s : Shared} {A : Around} {E : Value → Shared → Prop} {Q : Value → Shared → Prop} {c : Value} {b : Bool}
/-- the type of a value, as the fragment's deciders take it; for an instance its class -/
inductive TyOf (K : PySem.W.Frag) (H : Hp) : V → Value → Prop where
  | non : TyOf K H .non (.type "NoneType")
  | bl (x : Bool) : TyOf K H (.bl x) (.type "bool")
  | int (i : Int) : TyOf K H (.int i) (.type "int")
  | str (x : Str) : TyOf K H (.str x) (.type "str")
  | flt (x : UInt64) : TyOf K H (.flt x) (.type "float")
  | lst {a : Addr} {xs : List V} (e : H a = some (.lst xs)) : TyOf K H (.ref a) (.type "list")
  | frz {a : Addr} {o : Obj} {xs : List V} (e : H a = some (.frz o (.lst xs))) : TyOf K H (.ref a) (.type "list")
  | tup {a : Addr} {xs : List V} (e : H a = some (.tup xs)) : TyOf K H (.ref a) (.type "tuple")
  | dK {a : Addr} {kvs : List (Key × V)} (e : H a = some (.dK kvs)) : TyOf K H (.ref a) (.type "dict")
  | dT {a : Addr} {kvs : List (List Key × V)} (e : H a = some (.dT kvs)) : TyOf K H (.ref a) (.type "dict")
  | ins {a C dx : Addr} {fs : List (Str × V)} (e : H a = some (.ins C dx fs)) (cl : Cls K C) (ha : PySem.W.findIn K (.ref C) "__class__" = some (some (.builtin "object.__class__")))
      (hn : PySem.W.specialIn K (.builtin "object.__class__") "__get__" = some (some (.builtin "getset_descriptor.__get__"))) (htk : PySem.W.takesIn K (.builtin "object.__class__") = some true)
      (hm : PySem.W.mroIn K C (.type "object") = some true) : TyOf K H (.ref a) (.ref C)
/-- isinstance(x, c) for one class c, a built-in or an own one: kitOne's answer -/
theorem isinst_ok {x : V} {u t : Value} (I : Inv X pins σ H s) (rx : RelV x u) (ty : TyOf X.K H x t) (e : PySem.W.kitOne X.K t c = some b) (h : ∀ tk, Q (.bool b) { s with toks := tk }) :
    wpAny (model X.prog X.w) A (call (.builtin "isinstance") [u, c]) Q E s := by
  cases ty with
  | non => cases (show u = Value.none from rx); exact PySem.W.kia_one PySem.W.kitx_none I.kIn True.intro e (fun z => nomatch z) h
  | bl y => cases (show u = Value.bool y from rx); exact PySem.W.kia_one PySem.W.kitx_bool I.kIn True.intro e (fun z => nomatch z) h
  | int i => obtain ⟨t, q⟩ := (show ∃ t, u = Value.int i t from rx); cases q; exact PySem.W.kia_one PySem.W.kitx_int I.kIn True.intro e (fun z => nomatch z) h
  | str y => obtain ⟨t, q⟩ := (show ∃ t, u = Value.str y t from rx); cases q; exact PySem.W.kia_one PySem.W.kitx_str I.kIn True.intro e (fun z => nomatch z) h
  | flt y => obtain ⟨t, q⟩ := (show ∃ t, u = Value.float y t from rx); cases q; exact PySem.W.kia_one PySem.W.kitx_float I.kIn True.intro e (fun z => nomatch z) h
  | @lst a xs ea =>
    cases (show u = Value.ref a from rx)
    obtain ⟨_, _, n, _, h1⟩ := (show ObjOk X.prog X.w H s.heap a (.lst xs) from I.hok a _ ea)
    exact PySem.W.kia_one PySem.W.kitx_list I.kIn ⟨_, h1, rfl⟩ e (fun z => nomatch z) h
  | @frz a ob xs ea =>
    cases (show u = Value.ref a from rx)
    obtain ⟨_, _, _, n, _, h1⟩ := (show ObjOk X.prog X.w H s.heap a (.frz ob (.lst xs)) from I.hok a _ ea)
    exact PySem.W.kia_one PySem.W.kitx_list I.kIn ⟨_, h1, rfl⟩ e (fun z => nomatch z) h
  | @tup a xs ea =>
    cases (show u = Value.ref a from rx)
    obtain ⟨_, _, _, p⟩ := (show ObjOk X.prog X.w H s.heap a (.tup xs) from I.hok a _ ea)
    obtain ⟨o, h1, h2, _⟩ := p
    exact PySem.W.kia_one PySem.W.kitx_tuple I.kIn ⟨o, h1, h2⟩ e (fun z => nomatch z) h
  | @dK a kvs ea =>
    cases (show u = Value.ref a from rx)
    obtain ⟨_, _, vs, _, p⟩ := (show ObjOk X.prog X.w H s.heap a (.dK kvs) from I.hok a _ ea)
    obtain ⟨o, es, ep, h1, h2, _⟩ := p
    exact PySem.W.kia_one PySem.W.kitx_dict I.kIn ⟨o, h1, h2.1⟩ e (fun z => nomatch z) h
  | @dT a kvs ea =>
    cases (show u = Value.ref a from rx)
    obtain ⟨_, _, xs, _, o, es, ep, h1, h2, _⟩ := (show ObjOk X.prog X.w H s.heap a (.dT kvs) from I.hok a _ ea)
    exact PySem.W.kia_one PySem.W.kitx_dict I.kIn ⟨o, h1, h2.1⟩ e (fun z => nomatch z) h
  | @ins a C dx fs ea cl ha hn htk hm =>
    cases (show u = Value.ref a from rx)
    obtain ⟨mA, O, _⟩ := ins_get I.hok ea
    obtain ⟨od, J, _⟩ := O.look
    exact PySem.W.kia_one (PySem.W.kitx_own (cl.get _) cl.hd ha hn htk hm) I.kIn J e (fun z => nomatch z) h
end
end L2

namespace L2
open PySem PySem.Spec PyProof.Rows

/-! ### room -/
structure Room (k : Nat) (A : Around) : Prop where
  hd : A.handled = none
  dp : A.depth + 3 * k + 5 < recursionLimit
  un : A.units + 16 * k + 200 < cLine
theorem Room.mono {j k : Nat} {A : Around} (r : Room k A) (h : j ≤ k) : Room j A := ⟨r.hd, by have := r.dp; omega, by have := r.un; omega⟩
theorem Room.deeper {k : Nat} {A : Around} (r : Room (k + 1) A) (env : Env) : Room k (A.deeper env) :=
  ⟨r.hd, by have := r.dp; show A.depth + 1 + 3 * k + 5 < _; omega, by have := r.un; show A.units + 3 + 16 * k + 200 < _; omega⟩
theorem Room.in1 {k : Nat} {A : Around} (r : Room (k + 1) A) : Room k A.in1 :=
  ⟨r.hd, by have := r.dp; show A.depth + 3 * k + 5 < _; omega, by have := r.un; show A.units + 1 + 16 * k + 200 < _; omega⟩
theorem make_depth {A : Around} {C : Addr} {us : List Value} {kw : List (Str × Value)} : (A.under (.builtin "type.__call__" ⟨.ref C :: us, kw⟩)).depth = A.depth + 1 := by
  first | rfl | simp [Around.under, Code.weight, Code.isCreation, Code.isGuard, Code.isCaller, Code.frames, Code.isFrame, guardIds]
theorem make_units {A : Around} {C : Addr} {us : List Value} {kw : List (Str × Value)} : (A.under (.builtin "type.__call__" ⟨.ref C :: us, kw⟩)).units = A.units + 1 := by
  first | rfl | simp [Around.under, Code.cUnits, Code.frames, Code.isFrame]
theorem Room.make {k : Nat} {A : Around} (r : Room (k + 1) A) (C : Addr) (us : List Value) (kw : List (Str × Value)) : Room k (A.under (.builtin "type.__call__" ⟨.ref C :: us, kw⟩)) :=
  ⟨r.hd, by have := r.dp; rw [make_depth]; omega, by have := r.un; rw [make_units]; omega⟩
theorem Room.depth {k : Nat} {A : Around} (r : Room k A) : A.depth < recursionLimit := by have := r.dp; omega
theorem Room.units {k : Nat} {A : Around} (r : Room k A) : A.units + 64 < cLine := by have := r.un; omega
theorem Room.units0 {k : Nat} {A : Around} (r : Room k A) : A.units < cLine := by have := r.un; omega

/-! ### argument lists and displays -/
def tNil : TA := fun _ H Q => Q [] H
def tCons (ta : TE) (tr : TA) : TA := fun σ H Q => ta σ H fun x H1 => tr σ H1 fun xs H2 => Q (x :: xs) H2
section
variable {X : Cx} {e : Expr} {es : List Expr} {te : TE} {t : TA} {pos : Pos}
theorem pa_nil : PA X [] tNil := fun _ _ _ _ H Q I h => Calls.spliced_nil ⟨[], H, I, .nil, h⟩
theorem pa_cons (ha : PE X e te) (hr : PA X es t) (hs : starEach (e :: es) X.env = (false, eval e X.env) :: starEach es X.env := by rfl) : PA X (e :: es) (tCons te t) := by
  intro pos pins s σ H Q I h
  rw [hs]
  show wpAny _ _ (spliced ((false, eval e X.env) :: backTo pos (starEach es X.env))) _ _ s
  refine Calls.spliced_cons (thn (ha pins s σ H _ I h) fun u s1 ⟨x, H1, I1, r1, q1⟩ => ?_)
  exact thn (hr pos pins s1 σ H1 _ I1 q1) fun us s2 ⟨xs, H2, I2, r2, q2⟩ => ⟨x :: xs, H2, I2, .cons r1 r2, q2⟩

/-- a tuple, a list of written items -/
def tTup (t : TA) : TE := fun σ H Q => t σ H fun xs H1 => xs.length ≤ sizeLine ∧ ∀ p, H1 p = none → Q (.ref p) (upd H1 p (.tup xs))
def tLst (t : TA) : TE := fun σ H Q => t σ H fun xs H1 => xs.length ≤ sizeLine ∧ ∀ p, H1 p = none → Q (.ref p) (upd H1 p (.lst xs))
theorem pe_tup {x1} (h : PA X es t) : PE X (.Tuple es x1 pos) (tTup t) := by
  intro pins s σ H Q I hq
  refine wpAny_Tuple_spliced (thn (h pos pins s σ H _ I hq) fun us s1 ⟨xs, H1, I1, r, z, q⟩ => ⟨by rw [← r.length]; exact z, ?_⟩)
  have hf : H1 s1.heap.objs.size = none := I1.hok.fresh (Nat.le_refl _)
  refine ⟨.ref s1.heap.objs.size, upd H1 s1.heap.objs.size (.tup xs), I1.laid (t' := s1.toks) (fun b u e => Heap.get?_push_of_some _ e) (Nat.le_refl _) ?_, rfl, q _ hf⟩
  exact ⟨z, us, r, ⟨_, Heap.get?_push_size _ rfl, rfl, _, rfl⟩⟩
theorem pe_lst (h : PA X es t) : PE X (.List es pos) (tLst t) := by
  intro pins s σ H Q I hq
  refine wpAny_List_spliced (thn (h pos pins s σ H _ I hq) fun us s1 ⟨xs, H1, I1, r, z, q⟩ => ⟨by rw [← r.length]; exact z, ?_⟩)
  have hf : H1 s1.heap.objs.size = none := I1.hok.fresh (Nat.le_refl _)
  refine ⟨.ref s1.heap.objs.size, upd H1 s1.heap.objs.size (.lst xs), I1.laid (t' := s1.toks) (fun b u e => Heap.get?_push_of_some _ e) (Nat.le_refl _) ?_, rfl, q _ hf⟩
  exact ⟨z, us, 0, r, Heap.get?_push_size _ rfl⟩
end

/-! ### what a def promises -/
/-- a def's promise: the bound arguments in the parameters' order, the heap, the wanted end, the wanted exception -/
abbrev Sp := List V → Hp → VK → XK → Prop
/-- how an exception lies behind a call (file 08 gives it): the callers' frames, abstract heap and state ahead of the call, the wish, the exception, the state -/
abbrev CXT := List Env → Hp → Shared → XK → Value → Shared → Prop

/-- the state at a call -/
structure Env0 (P : Program) (w : World) (K : PySem.W.Frag) (mg : Str → Option Value) (base : Heap) (A : Around) (outer : List Env) (s : Shared) (H : Hp) : Prop where
  frames : A.frames = some outer
  mod : Mod K mg base
  bs : ∀ b o, base.get? b = some o → s.heap.get? b = some o ∧ H b = none
  bsz : base.objs.size ≤ s.heap.objs.size
  funs : s.heap.FunFrames base outer
  frf : ∀ b ∈ frs outer, H b = none
  hok : HOk P w H s.heap
  bare : AllBare s.gens
/-- a call's end -/
def CE (outer : List Env) (P : Program) (w : World) (H : Hp) (s : Shared) (Q : VK) (u : Value) (s' : Shared) : Prop :=
  ∃ v H', s'.os = s.os ∧ AllBare s'.gens ∧ Un (frs outer) [] H H' s.heap s'.heap ∧ HOk P w H' s'.heap ∧ RelV v u ∧ Q v H'
def CR (CX : CXT) (outer : List Env) (P : Program) (w : World) (H : Hp) (s : Shared) (Q : VK) (E : XK) (r : Result) (s' : Shared) : Prop :=
  match r with
  | .ok (.ret u) => CE outer P w H s Q u s'
  | .ok _ => False
  | .error e => CX outer H s E e s'
structure FnOk (P : Program) (w : World) (K : PySem.W.Frag) (mg : Str → Option Value) (base : Heap) (CX : CXT) (k : Nat) (f : Addr) (fd : FuncData) (ps : List Str) (sp : Sp) : Prop where
  len : ∀ vs H Q E, sp vs H Q E → vs.length = ps.length
  run : ∀ (A : Around) (outer : List Env) (s : Shared) (H : Hp) (args : Args) (us : List Value) (vs : List V) (Q : VK) (E : XK), Room k A → Env0 P w K mg base A outer s H → BindsTo s fd args (ps.zip us) → Vals vs us → sp vs H Q E →
    codeAny (model P w) A (.call (.ref f) args) (CR CX outer P w H s Q E) s
theorem FnOk.mono {P : Program} {w : World} {K : PySem.W.Frag} {mg : Str → Option Value} {base : Heap} {CX : CXT} {j k : Nat} {f : Addr} {fd : FuncData} {ps : List Str} {sp : Sp} (F : FnOk P w K mg base CX j f fd ps sp) (h : j ≤ k) :
    FnOk P w K mg base CX k f fd ps sp := ⟨F.len, fun A outer s H args us vs Q E hr => F.run A outer s H args us vs Q E (hr.mono h)⟩
/-- a weaker promise -/
theorem FnOk.imp {P : Program} {w : World} {K : PySem.W.Frag} {mg : Str → Option Value} {base : Heap} {CX : CXT} {k : Nat} {f : Addr} {fd : FuncData} {ps : List Str} {sp sp' : Sp} (F : FnOk P w K mg base CX k f fd ps sp)
    (h : ∀ vs H Q E, sp' vs H Q E → sp vs H Q E) : FnOk P w K mg base CX k f fd ps sp' :=
  ⟨fun vs H Q E q => F.len vs H Q E (h _ _ _ _ q), fun A outer s H args us vs Q E hr he hb hv hs => F.run A outer s H args us vs Q E hr he hb hv (h _ _ _ _ hs)⟩

theorem Env0.make {P : Program} {w : World} {K : PySem.W.Frag} {mg : Str → Option Value} {base : Heap} {A : Around} {outer : List Env} {s : Shared} {H : Hp} (e : Env0 P w K mg base A outer s H) (C : Addr) (us : List Value) (kw : List (Str × Value)) :
    Env0 P w K mg base (A.under (.builtin "type.__call__" ⟨.ref C :: us, kw⟩)) outer s H := ⟨by first | exact e.frames | (simpa [Around.under, Code.envs, Code.isFrame, pushEnvs] using e.frames), e.mod, e.bs, e.bsz, e.funs, e.frf, e.hok, e.bare⟩
theorem Env0.in1 {P : Program} {w : World} {K : PySem.W.Frag} {mg : Str → Option Value} {base : Heap} {A : Around} {outer : List Env} {s : Shared} {H : Hp} (e : Env0 P w K mg base A outer s H) :
    Env0 P w K mg base A.in1 outer s H := ⟨e.frames, e.mod, e.bs, e.bsz, e.funs, e.frf, e.hok, e.bare⟩

section
variable {X : Cx} {pins : List (Addr × Obj)} {σ : St} {H : Hp} {s s' : Shared}
/-- from a body: what a callee wants -/
theorem Inv.env0 (I : Inv X pins σ H s) : Env0 X.prog X.w X.K X.mg X.base X.A X.stack s H :=
  ⟨I.ok.frames, I.ok.mod, I.bs, Nat.le_trans I.ok.bsz I.sz, I.stack, I.stkFree, I.hok, I.bare⟩
/-- behind a call -/
theorem Inv.after {Q : VK} {u : Value} (I : Inv X pins σ H s) (h : CE X.stack X.prog X.w H s Q u s') : EP X pins σ Q u s' := by
  obtain ⟨v, H', os, bare, un, hok, r, q⟩ := h
  obtain ⟨hh, g, d, t, os'⟩ := s'
  obtain rfl : os' = s.os := os
  exact ⟨v, H', I.call (h' := hh) (g' := g) (d' := d) (t' := t) (ch := []) un hok bare (fun b z => absurd z (by simp)), r, q⟩
end

/-! ### calls -/
/-- f(..): the written arguments, then the defaults dvs; E: what is wanted of an exception -/
def tCall (sp : Sp) (dvs : List V) (E : XK) (t : TA) : TE := fun σ H Q => t σ H fun vs H1 => sp (vs ++ dvs) H1 Q E
/-- o.m(..) of an instance of the class at C -/
def tMeth (C : Addr) (m : Str) (sp : Sp) (dvs : List V) (E : XK) (ta : TE) (t : TA) : TE := fun σ H Q => ta σ H fun x H1 => ∃ a dx fs, x = .ref a ∧ H1 a = some (.ins C dx fs) ∧ fs.lookup m = none ∧
  t σ H1 fun vs H2 => sp (x :: (vs ++ dvs)) H2 Q E
/-- C(..): a new instance and its dict, then __init__ -/
def tMake (C : Addr) (sp : Sp) (dvs : List V) (E : XK) (t : TA) : TE := fun σ H Q => t σ H fun vs H1 => ∀ x dx, H1 x = none → H1 dx = none → dx ≠ x →
  sp (.ref x :: (vs ++ dvs)) (upd (upd H1 dx (.own x)) x (.ins C dx [])) (fun v H2 => v = .non ∧ Q (.ref x) H2) E

/-- how the parameters are bound: us the positional arguments, kw the keywords' values by name, ds the defaults that fill up -/
def Binds (K : PySem.W.Frag) (fd : FuncData) (ps : List Str) (ds : List Value) : Prop :=
  ∀ (s : Shared) (us : List Value), K.In s.heap → (us ++ ds).length = ps.length → BindsTo s fd ⟨us, []⟩ (ps.zip (us ++ ds))
/-- every parameter is given -/
theorem Binds.all {K : PySem.W.Frag} {fd : FuncData} {ps : List Str} (h : ∀ us : List Value, us.length = ps.length → bindArgs fd ⟨us, []⟩ = pure (ps.zip us)) : Binds K fd ps [] := fun s us _ hl => by
  rw [List.append_nil] at hl ⊢
  exact .of_eq (h us hl)

/-- an exception of a callee reaches what this body wants of exceptions -/
def Passes (CX : CXT) (X : Cx) (E : XK) : Prop := ∀ (pins : List (Addr × Obj)) (σ : St) (H : Hp) (s : Shared) (e : Value) (s' : Shared), Inv X pins σ H s → CX X.stack H s E e s' → X.xe e s'

section
variable {X : Cx} {CX : CXT} {k : Nat} {f C : Addr} {fd : FuncData} {ps : List Str} {sp : Sp} {dvs : List V} {ds : List Value} {E : XK} {x m : Str} {p pos apos : Pos} {e o : Expr} {es : List Expr} {ta : TE} {t : TA}

/-- the callee runs -/
theorem run_fn {pins : List (Addr × Obj)} {σ : St} {H : Hp} {s : Shared} {Q : VK} {us : List Value} {vs : List V} (F : FnOk X.prog X.w X.K X.mg X.base CX k f fd ps sp) (hr : Room k X.A) (hb : Binds X.K fd ps ds) (hd : Vals dvs ds) (hx : Passes CX X E)
    (I : Inv X pins σ H s) (r : Vals vs us) (h : sp (vs ++ dvs) H Q E) : wpAny (model X.prog X.w) X.A (call (.ref f) us) (EP X pins σ Q) X.xe s := by
  have r2 : Vals (vs ++ dvs) (us ++ ds) := r.append hd
  have hl : (us ++ ds).length = ps.length := by rw [← r2.length]; exact F.len _ _ _ _ h
  refine wpAny_call (codeAny_mono (F.run X.A X.stack s H ⟨us, []⟩ (us ++ ds) (vs ++ dvs) Q E hr I.env0 (hb s us I.kIn hl) r2 h) fun r s' hq => ?_)
  cases r with
  | error e => exact hx pins σ H s e s' I hq
  | ok fl =>
    cases fl with
    | ret u => exact I.after hq
    | next => exact False.elim hq
    | brk => exact False.elim hq
    | cont => exact False.elim hq

theorem pe_call (F : FnOk X.prog X.w X.K X.mg X.base CX k f fd ps sp) (hr : Room k X.A) (hg : Gl X x) (hm : X.mg x = some (.ref f)) (hk : PySem.W.keepIn X.K (.ref f) = true) (hb : Binds X.K fd ps ds) (hd : Vals dvs ds) (hx : Passes CX X E)
    (ha : PA X (e :: es) t) (hdb : (x == ("__debug__" : Str)) = false := by decide) (he : starEach (e :: es) X.env = (false, eval e X.env) :: starEach es X.env := by rfl) (hpl : (backTo pos (starEach es X.env)).any (·.1) = false := by rfl) :
    PE X (.Call (.Name x p) (e :: es) [] pos) (tCall sp dvs E t) := by
  intro pins s σ H Q I h
  refine wpAny_Call_Name_kw (ld_glob I hg hm ?_ hdb)
  refine PySem.W.callWith_K (h₀ := X.base) I.ok.mod.kin hk (thn (ha pos pins s σ H _ I h) fun us s1 ⟨vs, H1, I1, r, q⟩ => ⟨I1.kIn, ?_⟩) he hpl
  exact run_fn F hr hb hd hx I1 r q
theorem pe_call0 (F : FnOk X.prog X.w X.K X.mg X.base CX k f fd ps sp) (hr : Room k X.A) (hg : Gl X x) (hm : X.mg x = some (.ref f)) (hk : PySem.W.keepIn X.K (.ref f) = true) (hb : Binds X.K fd ps ds) (hd : Vals dvs ds) (hx : Passes CX X E)
    (hdb : (x == ("__debug__" : Str)) = false := by decide) : PE X (.Call (.Name x p) [] [] pos) (tCall sp dvs E tNil) := by
  intro pins s σ H Q I h
  refine wpAny_Call_Name_kw (ld_glob I hg hm ?_ hdb)
  exact PySem.W.callWith_K0 I.kIn hk (run_fn (us := []) F hr hb hd hx I .nil h)

/-- o.m(e, ..) -/
theorem pe_meth {pl : Sem Bool} (he : PE X o ta) (c : Cls X.K C) (hm : Meth X.K C m f) (F : FnOk X.prog X.w X.K X.mg X.base CX k f fd ps sp) (hr : Room k X.A) (hb : Binds X.K fd ps ds) (hd : Vals dvs ds) (hx : Passes CX X E) (ha : PA X (e :: es) t)
    (hst : starEach (e :: es) X.env = (false, eval e X.env) :: starEach es X.env := by rfl) (hpl : (backTo pos (starEach es X.env)).any (·.1) = false := by rfl)
    (ht : eval (.Call (.Attribute o m apos) (e :: es) [] pos) X.env = (do
      let ov ← eval o X.env
      standAt apos.atName
      let (f, first) ← holding [ov] (getMethod ov m pl)
      callWith pos f first (backTo pos (starEach (e :: es) X.env)) (backToKw pos (keywordEach [] X.env))) := by rfl) :
    PE X (.Call (.Attribute o m apos) (e :: es) [] pos) (tMeth C m sp dvs E ta t) := by
  intro pins s σ H Q I h
  refine PySem.W.methodCall_KW (pl := pl) (thn (he pins s σ H _ I h) fun u s1 ⟨x, H1, I1, rx, a, dx, fs, ex, ea, l, q⟩ => ?_) ht
  subst ex
  obtain rfl : u = Value.ref a := rx
  refine getmeth_ok I1 ea c hm l ?_
  refine PySem.W.callWith_K (first := [.ref a]) (h₀ := X.base) I.ok.mod.kin hm.kp (thn (ha pos pins s1 σ H1 _ I1 q) fun us s2 ⟨vs, H2, I2, r, q2⟩ => ⟨I2.kIn, ?_⟩) hst hpl
  exact run_fn (us := .ref a :: us) (vs := .ref a :: vs) F hr hb hd hx I2 (.cons rfl r) q2
/-- o.m() -/
theorem pe_meth0 {pl : Sem Bool} (he : PE X o ta) (c : Cls X.K C) (hm : Meth X.K C m f) (F : FnOk X.prog X.w X.K X.mg X.base CX k f fd ps sp) (hr : Room k X.A) (hb : Binds X.K fd ps ds) (hd : Vals dvs ds) (hx : Passes CX X E)
    (ht : eval (.Call (.Attribute o m apos) [] [] pos) X.env = (do
      let ov ← eval o X.env
      standAt apos.atName
      let (f, first) ← holding [ov] (getMethod ov m pl)
      callWith pos f first (backTo pos (starEach [] X.env)) (backToKw pos (keywordEach [] X.env))) := by rfl) :
    PE X (.Call (.Attribute o m apos) [] [] pos) (tMeth C m sp dvs E ta tNil) := by
  intro pins s σ H Q I h
  refine PySem.W.methodCall_KW (pl := pl) (thn (he pins s σ H _ I h) fun u s1 ⟨x, H1, I1, rx, a, dx, fs, ex, ea, l, q⟩ => ?_) ht
  subst ex
  obtain rfl : u = Value.ref a := rx
  refine getmeth_ok I1 ea c hm l ?_
  exact PySem.W.callWith_K0 (first := [.ref a]) I1.kIn hm.kp (run_fn (us := [.ref a]) (vs := [.ref a]) F hr hb hd hx I1 (.cons rfl .nil) q)

/-- what a class must have to be made -/
structure Mk (K : PySem.W.Frag) (C f : Addr) : Prop where
  makes : PySem.W.makesIn K C = true
  init : PySem.W.findIn K (.ref C) "__init__" = some (some (.ref f))
  fn : PySem.W.isFn K (.ref f) = true
  kp : PySem.W.keepIn K (.ref C) = true

theorem run_make {pins : List (Addr × Obj)} {σ : St} {H : Hp} {s : Shared} {Q : VK} {us : List Value} {vs : List V} (M : Mk X.K C f) (F : FnOk X.prog X.w X.K X.mg X.base CX k f fd ps sp) (hr : Room (k + 1) X.A) (hb : Binds X.K fd ps ds) (hd : Vals dvs ds)
    (hx : Passes CX X E) (I : Inv X pins σ H s) (r : Vals vs us)
    (h : ∀ x dx, H x = none → H dx = none → dx ≠ x → sp (.ref x :: (vs ++ dvs)) (upd (upd H dx (.own x)) x (.ins C dx [])) (fun v H2 => v = .non ∧ Q (.ref x) H2) E) :
    wpAny (model X.prog X.w) X.A (call (.ref C) us) (EP X pins σ Q) X.xe s := by
  have hq := h (s.heap.objs.size + 1) s.heap.objs.size (I.hok.fresh (Nat.le_succ _)) (I.hok.fresh (Nat.le_refl _)) (Nat.ne_of_lt (Nat.lt_succ_self _))
  have I2 := Inv.made (C := C) I
  have r2 : Vals (V.ref (s.heap.objs.size + 1) :: (vs ++ dvs)) (Value.ref (s.heap.objs.size + 1) :: (us ++ ds)) := .cons rfl (r.append hd)
  have hl : (Value.ref (s.heap.objs.size + 1) :: us ++ ds).length = ps.length := by
    have e := r2.length
    rw [F.len _ _ _ _ hq] at e
    exact e.symm
  refine wpAny_call (make_map (f := f) I.kIn M.makes M.init (beq_iff_eq.mp M.fn) (codeAny_mono (F.run _ X.stack _ _ ⟨Value.ref (s.heap.objs.size + 1) :: us, []⟩ (Value.ref (s.heap.objs.size + 1) :: (us ++ ds)) _ _ E (hr.make C us [])
    (I2.env0.make C us []) (hb _ (Value.ref (s.heap.objs.size + 1) :: us) I2.kIn hl) r2 hq) fun r s' hq' => ?_))
  cases r with
  | error e => exact hx pins σ _ _ e s' I2 hq'
  | ok fl =>
    cases fl with
    | ret u =>
      obtain ⟨v, H', I3, rv, ev, q3⟩ := I2.after hq'
      subst ev
      exact ⟨rv, ⟨V.ref (s.heap.objs.size + 1), H', I3, rfl, q3⟩⟩
    | next => exact False.elim hq'
    | brk => exact False.elim hq'
    | cont => exact False.elim hq'
theorem pe_make (M : Mk X.K C f) (F : FnOk X.prog X.w X.K X.mg X.base CX k f fd ps sp) (hr : Room (k + 1) X.A) (hg : Gl X x) (hm : X.mg x = some (.ref C)) (hb : Binds X.K fd ps ds) (hd : Vals dvs ds) (hx : Passes CX X E)
    (ha : PA X (e :: es) t) (hdb : (x == ("__debug__" : Str)) = false := by decide) (he : starEach (e :: es) X.env = (false, eval e X.env) :: starEach es X.env := by rfl) (hpl : (backTo pos (starEach es X.env)).any (·.1) = false := by rfl) :
    PE X (.Call (.Name x p) (e :: es) [] pos) (tMake C sp dvs E t) := by
  intro pins s σ H Q I h
  refine wpAny_Call_Name_kw (ld_glob I hg hm ?_ hdb)
  refine PySem.W.callWith_K (h₀ := X.base) I.ok.mod.kin M.kp (thn (ha pos pins s σ H _ I h) fun us s1 ⟨vs, H1, I1, r, q⟩ => ⟨I1.kIn, ?_⟩) he hpl
  exact run_make M F hr hb hd hx I1 r q
theorem pe_make0 (M : Mk X.K C f) (F : FnOk X.prog X.w X.K X.mg X.base CX k f fd ps sp) (hr : Room (k + 1) X.A) (hg : Gl X x) (hm : X.mg x = some (.ref C)) (hb : Binds X.K fd ps ds) (hd : Vals dvs ds) (hx : Passes CX X E)
    (hdb : (x == ("__debug__" : Str)) = false := by decide) : PE X (.Call (.Name x p) [] [] pos) (tMake C sp dvs E tNil) := by
  intro pins s σ H Q I h
  refine wpAny_Call_Name_kw (ld_glob I hg hm ?_ hdb)
  exact PySem.W.callWith_K0 I.kIn M.kp (run_make (us := []) M F hr hb hd hx I .nil h)
end

/-! ### keywords -/
/-- the values of the keywords, from the left -/
def PK (X : Cx) (kws : List Keyword) (t : TA) : Prop :=
  ∀ (pos : Pos) (pins : List (Addr × Obj)) (s : Shared) (σ : St) (H : Hp) (Q : List V → Hp → Prop), Inv X pins σ H s → t σ H Q → wpAny (model X.prog X.w) X.A (evalAll ((backToKw pos (keywordEach kws X.env)).map (·.2))) (AP X pins σ Q) X.xe s
section
variable {X : Cx} {CX : CXT} {k : Nat} {f C : Addr} {fd : FuncData} {ps ks : List Str} {sp : Sp} {E : XK} {x m : Str} {p pos apos kpos : Pos} {e o : Expr} {es : List Expr} {kws : List Keyword} {te ta : TE} {t tk : TA} {nm : Option Str}
theorem pk_nil : PK X [] tNil := fun _ _ _ _ H Q I h => wpAny_evalAll_nil ⟨[], H, I, .nil, h⟩
theorem pk_cons (ha : PE X e te) (hr : PK X kws t) : PK X (⟨nm, e, kpos⟩ :: kws) (tCons te t) := by
  intro pos pins s σ H Q I h
  show wpAny _ _ (evalAll ((do let v ← eval e X.env; standAt pos; pure v) :: (backToKw pos (keywordEach kws X.env)).map (·.2))) _ _ s
  refine wpAny_evalAll_cons (wpAny_bind (thn (ha pins s σ H _ I h) fun u s1 ⟨x, H1, I1, r1, q1⟩ => wpAny_bind (wpAny_standAt (wpAny_pure ?_))))
  exact thn (hr pos pins s1 σ H1 _ I1 q1) fun us s2 ⟨xs, H2, I2, r2, q2⟩ => ⟨x :: xs, H2, I2, .cons r1 r2, q2⟩

/-- how a call with keywords binds: g puts the positional values us and the keywords' values ws (names ks) in the parameters' order, defaults among them -/
structure KBinds (K : PySem.W.Frag) (fd : FuncData) (ps ks : List Str) (g : List Value → List Value → List Value) (gV : List V → List V → List V) : Prop where
  to : ∀ (s : Shared) (us ws : List Value), K.In s.heap → (g us ws).length = ps.length → BindsTo s fd ⟨us, ks.zip ws⟩ (ps.zip (g us ws))
  rel : ∀ {vs : List V} {us : List Value} {zs : List V} {ws : List Value}, Vals vs us → Vals zs ws → Vals (gV vs zs) (g us ws)
def tCallK (sp : Sp) (gV : List V → List V → List V) (E : XK) (t tk : TA) : TE := fun σ H Q => t σ H fun vs H1 => tk σ H1 fun zs H2 => sp (gV vs zs) H2 Q E
variable {g : List Value → List Value → List Value} {gV : List V → List V → List V}
theorem run_fnk {pins : List (Addr × Obj)} {σ : St} {H : Hp} {s : Shared} {Q : VK} {us ws : List Value} {vs zs : List V} (F : FnOk X.prog X.w X.K X.mg X.base CX k f fd ps sp) (hr : Room k X.A) (hb : KBinds X.K fd ps ks g gV) (hx : Passes CX X E)
    (I : Inv X pins σ H s) (r : Vals vs us) (rz : Vals zs ws) (h : sp (gV vs zs) H Q E) : wpAny (model X.prog X.w) X.A (call (.ref f) us (ks.zip ws)) (EP X pins σ Q) X.xe s := by
  have r2 := hb.rel r rz
  have hl : (g us ws).length = ps.length := by rw [← r2.length]; exact F.len _ _ _ _ h
  refine wpAny_call (codeAny_mono (F.run X.A X.stack s H ⟨us, ks.zip ws⟩ (g us ws) (gV vs zs) Q E hr I.env0 (hb.to s us ws I.kIn hl) r2 h) fun r s' hq => ?_)
  cases r with
  | error e => exact hx pins σ H s e s' I hq
  | ok fl =>
    cases fl with
    | ret u => exact I.after hq
    | next => exact False.elim hq
    | brk => exact False.elim hq
    | cont => exact False.elim hq
/-- f(e, .., k = v, ..) -/
theorem pe_callK (F : FnOk X.prog X.w X.K X.mg X.base CX k f fd ps sp) (hr : Room k X.A) (hg : Gl X x) (hm : X.mg x = some (.ref f)) (hk : PySem.W.keepIn X.K (.ref f) = true) (hb : KBinds X.K fd ps ks g gV) (hx : Passes CX X E)
    (ha : PA X (e :: es) t) (hkw : PK X kws tk) (hall : (backToKw pos (keywordEach kws X.env)).all (·.1.isSome) = true := by rfl) (hks : (backToKw pos (keywordEach kws X.env)).filterMap (·.1) = ks := by rfl)
    (hdb : (x == ("__debug__" : Str)) = false := by decide) (he : starEach (e :: es) X.env = (false, eval e X.env) :: starEach es X.env := by rfl)
    (hpl : ((backTo pos (starEach (e :: es) X.env)).any (·.1) || (backToKw pos (keywordEach kws X.env)).any (·.1.isNone)) = false := by rfl) :
    PE X (.Call (.Name x p) (e :: es) kws pos) (tCallK sp gV E t tk) := by
  intro pins s σ H Q I h
  refine wpAny_Call_Name_kw (ld_glob I hg hm ?_ hdb)
  refine PySem.W.callWith_KW (h₀ := X.base) I.ok.mod.kin hk hall (thn (ha pos pins s σ H _ I h) fun us s1 ⟨vs, H1, I1, r, q⟩ => ?_) hpl he
  refine thn (hkw pos pins s1 σ H1 _ I1 q) fun ws s2 ⟨zs, H2, I2, rz, q2⟩ => ⟨I2.kIn, ?_⟩
  rw [hks]
  exact run_fnk F hr hb hx I2 r rz q2
end

/-! ### a def's body keeps its promise -/
/-- names: the parameters first -/
structure FnScope (N P : List Str) (sc : Scope) : Prop where
  kind : sc.kind = .function
  co : sc.isCoroutine = false
  gen : sc.isGenerator = false
  nd : N.Nodup
  pre : N.take P.length = P
  par : ∀ x ∈ P, sc.names.lookup x = some .local ∨ sc.names.lookup x = some .cell
  nofree : ∀ y ∈ sc.names, y.2 ≠ .free

theorem bindL_out {kindOf : Str → Option NameKind} {x : Str} : ∀ {binds : List (Str × Value)} {m : Str → Option Value}, (∀ v, (x, v) ∉ binds) → bindL kindOf binds m x = m x
  | [], _, _ => rfl
  | (n, v) :: r, m, h => by
    unfold bindL
    rw [bindL_out fun w hw => h w (List.mem_cons_of_mem _ hw)]
    split
    · have : x ≠ n := by rintro rfl; exact h v List.mem_cons_self
      simp [this]
    · rfl
theorem bindC_out {kindOf : Str → Option NameKind} {x : Str} : ∀ {binds : List (Str × Value)} {m : Str → Option Value}, (∀ v, (x, v) ∉ binds) → bindC kindOf binds m x = m x
  | [], _, _ => rfl
  | (n, v) :: r, m, h => by
    unfold bindC
    rw [bindC_out fun w hw => h w (List.mem_cons_of_mem _ hw)]
    split
    · rfl
    · have : x ≠ n := by rintro rfl; exact h v List.mem_cons_self
      simp [this]
theorem bindL_get {kindOf : Str → Option NameKind} {x : Str} {v : Value} : ∀ {P : List Str} {vs : List Value} {i : Nat} {m : Str → Option Value}, P.Nodup → P[i]? = some x → vs[i]? = some v → kindOf x = some .local →
    bindL kindOf (P.zip vs) m x = some v
  | [], _, _, _, _, h, _, _ => by simp at h
  | _ :: _, [], _, _, _, _, h, _ => by simp at h
  | p :: P, w :: vs, 0, m, nd, h1, h2, hk => by
    simp at h1 h2; subst h1; subst h2
    show bindL kindOf ((p, w) :: P.zip vs) m p = _
    unfold bindL
    rw [bindL_out fun v hv => (List.nodup_cons.mp nd).1 (List.of_mem_zip hv).1, if_pos hk]
    simp
  | p :: P, w :: vs, i + 1, m, nd, h1, h2, hk => by
    show bindL kindOf ((p, w) :: P.zip vs) m x = _
    unfold bindL
    exact bindL_get (i := i) (List.nodup_cons.mp nd).2 (by simpa using h1) (by simpa using h2) hk
theorem bindC_get {kindOf : Str → Option NameKind} {x : Str} {v : Value} : ∀ {P : List Str} {vs : List Value} {i : Nat} {m : Str → Option Value}, P.Nodup → P[i]? = some x → vs[i]? = some v → kindOf x ≠ some .local →
    bindC kindOf (P.zip vs) m x = some v
  | [], _, _, _, _, h, _, _ => by simp at h
  | _ :: _, [], _, _, _, _, h, _ => by simp at h
  | p :: P, w :: vs, 0, m, nd, h1, h2, hk => by
    simp at h1 h2; subst h1; subst h2
    show bindC kindOf ((p, w) :: P.zip vs) m p = _
    unfold bindC
    rw [bindC_out fun v hv => (List.nodup_cons.mp nd).1 (List.of_mem_zip hv).1, if_neg hk]
    simp
  | p :: P, w :: vs, i + 1, m, nd, h1, h2, hk => by
    show bindC kindOf ((p, w) :: P.zip vs) m x = _
    unfold bindC
    exact bindC_get (i := i) (List.nodup_cons.mp nd).2 (by simpa using h1) (by simpa using h2) hk

/-- the names' values at the entry -/
def start (N : List Str) (vs : List V) : St := vs.map some ++ List.replicate (N.length - vs.length) none

/-- the context of a def's body, at its entry; an exception leaves the frame, then lies as CX says -/
def cxOf (CX : CXT) (P : Program) (w : World) (K : PySem.W.Frag) (mg : Str → Option Value) (base : Heap) (N : List Str) (qual : Str) (scope : Scope) (f : Addr) (cd : Value) (A : Around) (outer : List Env) (s : Shared) (H : Hp) (E : XK) : Cx where
  prog := P
  w := w
  K := K
  mg := mg
  base := base
  A := A.deeper (envOfC qual scope s.heap.objs.size f cd)
  N := N
  s₀ := s
  H₀ := H
  env := envOfC qual scope s.heap.objs.size f cd
  outer := outer
  stack := envOfC qual scope s.heap.objs.size f cd :: outer
  ex := []
  calm := true
  fn := fun _ => true
  pn := []
  xe := fun e s' => wpAny (model P w) (A.deeper (envOfC qual scope s.heap.objs.size f cd)) (leaving (envOfC qual scope s.heap.objs.size f cd) e) (fun _ s'' => CX outer H s E e s'') (fun e' s'' => CX outer H s E e' s'') s'

theorem cell_has {sc : Scope} {n : Nat} {x : Str} (h : sc.names.lookup x = some .cell) : ∃ c, (cellsFrom n sc.names []).lookup x = some c := by
  have q := PySem.W.cellsFrom_some sc.names n [] (.inl h)
  exact Option.isSome_iff_exists.mp q

theorem inv_start {CX : CXT} {P : Program} {w : World} {K : PySem.W.Frag} {mg : Str → Option Value} {base : Heap} {N ps : List Str} {qual : Str} {scope : Scope} {f : Addr} {cd : Value} {A : Around} {outer : List Env} {s s1 : Shared} {H : Hp} {E : XK} {us : List Value} {vs : List V}
    (S : FnScope N ps scope) (hd : A.handled = none) (e0 : Env0 P w K mg base A outer s H) (hl : vs.length = ps.length) (r : Vals vs us)
    (x : InCallC s s.heap.objs.size (bindL (envOfC qual scope s.heap.objs.size f cd).kindOf (ps.zip us) fun _ => none) (cellsFrom (s.heap.objs.size + 1) scope.names []) (bindC (envOfC qual scope s.heap.objs.size f cd).kindOf (ps.zip us) fun _ => none) s1) :
    Inv (cxOf CX P w K mg base N qual scope f cd A outer s H E) [] (start N vs) H s1 := by
  have hpl : ps.length ≤ N.length := by have := congrArg List.length S.pre; rw [List.length_take] at this; omega
  obtain ⟨h1, tk, rfl, hk⟩ := x.done
  have noA : ∀ b : Addr, b ∉ (cxOf CX P w K mg base N qual scope f cd A outer s H E).ex := fun b z => absurd (show b ∈ ([] : List Addr) from z) (by simp)
  refine ⟨⟨e0.mod, S.kind, rfl, rfl, Nat.le_refl _, fun y z c h1 h2 => ?_, fun y hy => ?_, fun y c _ h => ?_, fun _ => hd, Around.frames_deeper e0.frames, .inr ⟨rfl, rfl⟩, fun b z => absurd z (noA b), e0.bs, e0.bsz, fun b _ _ => noA b, fun b z => absurd z (noA b), e0.funs, e0.frf⟩,
    rfl, e0.bare, Un.kept hk, ⟨_, x.toInCall.ns, fun i y v h1 h2 h3 => ?_⟩, fun y c h => ⟨_, x.cell y c h⟩, e0.hok.fresh (Nat.le_refl _), fun y c h => ?_, fun p hp => absurd (show p ∈ ([] : List (Addr × Obj)) from hp) (by simp), e0.hok.kept hk, ?_⟩
  · exact name_of_addr x.apart (PySem.mem_of_lookup h1) (PySem.mem_of_lookup h2)
  · have hy : scope.names.lookup y = some .cell ∨ scope.names.lookup y = some .free := hy
    rcases hy with hy | hy
    · exact cell_has hy
    · exact absurd rfl (S.nofree _ (PySem.mem_of_lookup hy))
  · exact Nat.le_of_lt (x.above y c (PySem.mem_of_lookup h))
  · have hi : i < vs.length := by
      unfold start at h2
      by_cases hi : i < vs.length
      · exact hi
      · rw [List.getElem?_append_right (by simpa using hi)] at h2
        rw [List.getElem?_replicate] at h2
        split at h2 <;> cases h2
    have ha : vs[i]? = some v := by
      unfold start at h2
      rw [List.getElem?_append_left (by simpa using hi), List.getElem?_map] at h2
      cases e : vs[i]? with
      | none => rw [e] at h2; cases h2
      | some a => rw [e] at h2; cases h2; rfl
    obtain ⟨u, hu, rv⟩ := r.get ha
    have hp : ps[i]? = some y := by
      rw [← S.pre, List.getElem?_take_of_lt (by omega)]; exact h1
    have ndP : ps.Nodup := by rw [← S.pre]; exact S.nd.sublist (List.take_sublist _ _)
    refine ⟨u, rv, ?_⟩
    rcases S.par y (List.mem_of_getElem? hp) with k | k
    · exact .inl ⟨k, bindL_get ndP hp hu k⟩
    · obtain ⟨c, e⟩ := cell_has (n := s.heap.objs.size + 1) k
      refine .inr ⟨.inl k, c, e, ?_⟩
      have q := x.cell y c e
      rw [bindC_get ndP hp hu (by show scope.names.lookup y ≠ _; rw [k]; decide)] at q
      exact q
  · exact e0.hok.fresh (Nat.le_of_lt (x.above y c (PySem.mem_of_lookup h)))
  · unfold start
    show _ = N.length
    rw [List.length_append, List.length_map, List.length_replicate]
    omega

/-- THE RULE: a def (or a method) of the text, by its body. The body's reading t is chosen for each entry; it is run at the parameters' values -/
theorem fn_of {CX : CXT} {P : Program} {w : World} {K : PySem.W.Frag} {mg : Str → Option Value} {base : Heap} {k : Nat} {f : Addr} {name qual : Str} {params : Arguments} {body : List Stmt} {scope : Scope} {dV kV doc pm cdv ct oc : Value} {an od : Option Addr}
    {osl : Array (Option Value)} {N ps : List Str} {sp : Sp} (lk : K.lookup f = some ⟨oc, od, .func (PySem.W.fnOf name qual params body scope dV kV doc pm an cdv ct), osl⟩) (hcd : PySem.W.codeIn K cdv qual = true) (S : FnScope N ps scope)
    (len : ∀ vs H Q E, sp vs H Q E → vs.length = ps.length)
    (hbody : ∀ (A : Around) (outer : List Env) (s : Shared) (H : Hp) (vs : List V) (Q : VK) (E : XK), Room k (A.deeper (envOfC qual scope s.heap.objs.size f cdv)) → sp vs H Q E →
      ∃ t, PSs (cxOf CX P w K mg base N qual scope f cdv A outer s H E) body t ∧ t { nx := fun _ H' => Q .non H', rt := Q } (start N vs) H) :
    FnOk P w K mg base CX (k + 1) f (PySem.W.fnOf name qual params body scope dV kV doc pm an cdv ct) ps sp := by
  refine ⟨len, fun A outer s H args us vs Q E hr e0 hb r hsp => ?_⟩
  have hl := len _ _ _ _ hsp
  have KX : K.In s.heap := e0.mod.kin.keeps fun b o e => (e0.bs b o e).1
  have lim : s.heap.NoLimit := e0.mod.nolimit.keeps fun b o e => (e0.bs b o e).1
  have hkind : ∀ y ∈ ps.zip us, scope.names.lookup y.1 = some .local ∨ (scope.names.lookup y.1 = some .cell ∧ ((cellsFrom (s.heap.objs.size + 1) scope.names []).lookup y.1).isSome = true) := fun ⟨n, v⟩ hy => by
    rcases S.par n (List.of_mem_zip hy).1 with q | q
    · exact .inl q
    · exact .inr ⟨q, PySem.W.cellsFrom_some _ _ _ (.inl q)⟩
  refine codeAny_call_function hr.depth (KX _ _ lk) rfl S.co S.gen rfl (PySem.W.codeRec_of KX hcd) (hb _ _ _ _ ?_)
  refine wpAny_newFunctionEnv_cells S.kind hkind fun env he s1 x => ?_
  subst he
  refine ⟨lim.keeps x.toInCall.keep, codeAny_func ?_⟩
  obtain ⟨t, ht, hq⟩ := hbody A outer s H vs Q E (hr.deeper _) hsp
  have I : Inv (cxOf CX P w K mg base N qual scope f cdv A outer s H E) [] (start N vs) H s1 := inv_start S hr.hd e0 hl r x
  refine wpAny_mono (ht [] s1 (start N vs) H _ I hq) (fun fl s' hs => ?_) fun e s' hs => hs
  have fin : ∀ {σ' : St} {H' : Hp} {v : V} {u : Value}, Inv (cxOf CX P w K mg base N qual scope f cdv A outer s H E) [] σ' H' s' → RelV v u → Q v H' → CE outer P w H s Q u s' :=
    fun {σ' H' v u} J rv q => ⟨v, H', J.os, J.bare, J.base, J.hok, rv, q⟩
  cases fl with
  | ret u =>
    obtain ⟨v, σ', H', J, rv, q⟩ := hs
    exact fin J rv q
  | next =>
    obtain ⟨σ', H', J, q⟩ := hs
    exact fin (v := V.non) (u := Value.none) J rfl q
  | brk =>
    obtain ⟨_, _, _, q⟩ := hs
    exact False.elim q
  | cont =>
    obtain ⟨_, _, _, q⟩ := hs
    exact False.elim q
end L2

namespace L2
open PySem PySem.Spec PyProof.Rows
section
variable {X : Cx} {x : Str} {p pos : Pos} {e : Expr} {es : List Expr} {t : TA} {id T : String} {r : List V → Hp → VK → Prop}

def tCB (r : List V → Hp → VK → Prop) (t : TA) : TE := fun σ H Q => t σ H fun vs H1 => r vs H1 Q
/-- f(e, ..), f a built-in function -/
theorem pe_callB (hc : CallR X (.builtin id) r) (hg : Gl X x) (hm : X.mg x = none) (hv : bootBuiltins x = some (.builtin id)) (ha : PA X (e :: es) t) (hn : x ≠ "__name__" := by decide) (hdb : (x == ("__debug__" : Str)) = false := by decide)
    (he : starEach (e :: es) X.env = (false, eval e X.env) :: starEach es X.env := by rfl) (hpl : (backTo pos (starEach es X.env)).any (·.1) = false := by rfl) : PE X (.Call (.Name x p) (e :: es) [] pos) (tCB r t) := by
  intro pins s σ H Q I h
  refine wpAny_Call_Name_kw (ld_blt I hg hm hv ?_ hn hdb)
  exact PyProof.Rows.callWith_builtin1 (thn (ha pos pins s σ H _ I h) fun us s1 ⟨vs, H1, I1, r1, q1⟩ => hc pins s1 σ H1 vs us Q I1 r1 q1) he hpl
/-- T(e, ..), T a built-in type -/
theorem pe_callTy (hc : CallR X (.type T) r) (hg : Gl X x) (hm : X.mg x = none) (hv : bootBuiltins x = some (.type T)) (ha : PA X (e :: es) t) (hn : x ≠ "__name__" := by decide) (hdb : (x == ("__debug__" : Str)) = false := by decide)
    (he : starEach (e :: es) X.env = (false, eval e X.env) :: starEach es X.env := by rfl) (hpl : (backTo pos (starEach es X.env)).any (·.1) = false := by rfl) : PE X (.Call (.Name x p) (e :: es) [] pos) (tCB r t) := by
  intro pins s σ H Q I h
  refine wpAny_Call_Name_kw (ld_blt I hg hm hv ?_ hn hdb)
  exact PyProof.Rows.callWith_type1 (thn (ha pos pins s σ H _ I h) fun us s1 ⟨vs, H1, I1, r1, q1⟩ => hc pins s1 σ H1 vs us Q I1 r1 q1) he hpl
/-- T() -/
theorem pe_callTy0 (hc : CallR X (.type T) r) (hg : Gl X x) (hm : X.mg x = none) (hv : bootBuiltins x = some (.type T)) (hn : x ≠ "__name__" := by decide) (hdb : (x == ("__debug__" : Str)) = false := by decide) :
    PE X (.Call (.Name x p) [] [] pos) (tCB r tNil) := by
  intro pins s σ H Q I h
  refine wpAny_Call_Name_kw (ld_blt I hg hm hv ?_ hn hdb)
  exact PyProof.Rows.callWith_type0 (hc pins s σ H [] [] Q I .nil h)
end
end L2

namespace HT
open PySem PyProof.Rows

/-- t < u of tuples of ints -/
def lexLt : List Int → List Int → Bool
  | [], [] => false
  | [], _ :: _ => true
  | _ :: _, [] => false
  | x :: xs, y :: ys => if x = y then lexLt xs ys else decide (x < y)
theorem lexLt_cons (x y : Int) (xs ys : List Int) : lexLt (x :: xs) (y :: ys) = if x = y then lexLt xs ys else decide (x < y) := rfl
theorem lexLt_nil_nil : lexLt [] [] = false := rfl
theorem lexLt_nil_cons (y : Int) (ys : List Int) : lexLt [] (y :: ys) = true := rfl
theorem lexLt_cons_nil (x : Int) (xs : List Int) : lexLt (x :: xs) [] = false := rfl

theorem eqAt_int (A : Around) (s : Shared) (a : Int) (t : Tok) (c : Int) (u : Tok) : ∃ e, SeqAt.EqAt A s (.int a t) (.int c u) e ∧ (e = true ↔ a = c) :=
  ⟨(a == c), SeqAt.EqAt.int_int a t c u, by simp⟩
theorem rcLt_int (A : Around) (s : Shared) (a : Int) (t : Tok) (c : Int) (u : Tok) (prog : Program) (w : World) (E : Value → Shared → Prop) (Q : Value → Shared → Prop) (h : Q (.bool (decide (a < c))) s) :
    wpAny (model prog w) A (richCompare .Lt (.int a t) (.int c u)) Q E s :=
  (PyProof.Rows.lt_int h : wpAny (model prog w) A (compareOp .Lt (.int a t) (.int c u)) Q E s)

section
open PySem.SeqAt
open PySem.AutoSeq1 (wpAny_loadPart')
open PySem.MeetsSeq PySem.MeetsSeq2 PySem.MeetsSeq3

theorem tuple_lt_ints (l b : Addr) (items items2 : Array Value) (n n2 : Nat) (dd dd2 : Option Addr) (sl sl2 : Array (Option Value)) (ns ms : List Int) (hi : IntsAre items.toList ns) (hj : IntsAre items2.toList ms) :
    Meets (Builtin.«tuple.__lt__» ⟨[.ref l, .ref b], []⟩)
      (fun _ R s => s.heap.get? l = some { cls := .type "tuple", dict := dd, data := .seq items n, slots := sl } ∧ s.heap.get? b = some { cls := .type "tuple", dict := dd2, data := .seq items2 n2, slots := sl2 } ∧
        R (.ok (.ret (.bool (lexLt ns ms)))) s) :=
  .of_wp fun prog w A R s h => by
    obtain ⟨hp, g, d, tk, os⟩ := s; obtain ⟨hl, hb, h⟩ := h
    have f2 := AutoSeq1.sub_tuple_tuple
    have z1 : items.size = ns.length := by rw [← hi.length]; simp
    have z2 : items2.size = ms.length := by rw [← hj.length]; simp
    wp_walk using wpAny_loadPart' hl, wpAny_loadPart' hb, wpAny_forIn_list _ (fun rest b s' => b.1 = none ∧ s' = ⟨hp, g, d, tk, os⟩ ∧ ∃ (vs ws : List Value) (ns' ms' : List Int), rest = vs.zip ws ∧
      IntsAre vs ns' ∧ IntsAre ws ms' ∧ ns'.length + items2.size = ms'.length + items.size ∧ R (.ok (.ret (.bool (lexLt ns' ms')))) ⟨hp, g, d, tk, os⟩) _
    case turn =>
      rintro ⟨y, x⟩ rest b s' ⟨hb', rfl, vs, ws, ns', ms', hz, hvi, hwi, hlen, hR⟩
      cases hvi with
      | nil => rw [List.zip_nil_left] at hz; cases hz
      | cons a t hvi' =>
        cases hwi with
        | nil => rw [List.zip_nil_right] at hz; cases hz
        | cons c u hwi' =>
          rw [List.zip_cons_cons] at hz
          injection hz with hyx hrest
          injection hyx with hy hx
          subst hy hx
          rw [lexLt_cons] at hR
          simp only [List.length_cons] at hlen
          obtain ⟨e, he, hiff⟩ := eqAt_int A.in1 ⟨hp, g, d, tk, os⟩ a t c u
          refine wpAny_bind (he prog w _ _ ?_)
          cases e with
          | true =>
            rw [if_pos (hiff.mp rfl)] at hR
            wp_walk
            exact ⟨rfl, rfl, _, _, _, _, hrest, hvi', hwi', by omega, hR⟩
          | false =>
            rw [if_neg (fun q => absurd (hiff.mpr q) Bool.false_ne_true)] at hR
            have hri := rcLt_int A.in1 ⟨hp, g, d, tk, os⟩ a t c u prog w
            wp_walk using hri
            exact ⟨_, rfl, by simpa using hR⟩
    case fin =>
      rintro ⟨b1, b2⟩ s' ⟨hb', rfl, vs, ws, ns', ms', hz, hvi, hwi, hlen, hR⟩
      simp only at hb'
      subst hb'
      have hv : lexLt ns' ms' = decide (items.size < items2.size) := by
        cases hvi with
        | nil =>
          cases hwi with
          | nil =>
            simp only [List.length_nil] at hlen
            rw [lexLt_nil_nil]
            exact (decide_eq_false (by omega)).symm
          | cons c u hw =>
            simp only [List.length_nil, List.length_cons] at hlen
            rw [lexLt_nil_cons]
            exact (decide_eq_true (by omega)).symm
        | cons a t hv =>
          cases hwi with
          | nil =>
            simp only [List.length_nil, List.length_cons] at hlen
            rw [lexLt_cons_nil]
            exact (decide_eq_false (by omega)).symm
          | cons c u hw =>
            rw [List.zip_cons_cons] at hz
            cases hz
      rw [hv] at hR
      wp_walk
      exact ⟨_, rfl, by simpa [Builtin.Tuple.tupleCompareSizes] using hR⟩
    case h =>
      exact ⟨rfl, rfl, items.toList, items2.toList, ns, ms, rfl, hi, hj, by omega, h⟩
end

section
variable {prog : Program} {w : World} {A : Around} {E : Value → Shared → Prop} {s : Shared}

theorem lt_tupInts {l b : Addr} {items items2 : Array Value} {ns ms : List Int} {Q : Value → Shared → Prop} (hl : IsTup s.heap l items) (hb : IsTup s.heap b items2) (hi : IntsAre items.toList ns) (hj : IntsAre items2.toList ms)
    (hu : A.units < cLine) (h : Q (.bool (lexLt ns ms)) s) : wpAny (model prog w) A (compareOp .Lt (.ref l) (.ref b)) Q E s := by
  obtain ⟨⟨cls, dd, data, sl⟩, ho, hc, n, hd⟩ := id hl
  obtain ⟨⟨cls2, dd2, data2, sl2⟩, ho2, hc2, n2, hd2⟩ := id hb
  simp only at hc hd hc2 hd2
  subst hc hd hc2 hd2
  exact richCompare_meets_room (op := .Lt) ⟨_, ho, rfl⟩ ⟨_, ho2, rfl⟩ PySem.F.slot_tuple_lt PySem.F.entry_tuple_lt (PySem.F.args_tuple_lt_2 _ _) (tuple_lt_ints l b items items2 n n2 dd dd2 sl sl2 ns ms hi hj)
    ⟨ho, ho2, show Value.bool (lexLt ns ms) ≠ Value.notImplemented ∧ Q (.bool (lexLt ns ms)) s from ⟨(fun x => nomatch x), h⟩⟩ hu

/-- t + u, t not empty -/
theorem cat_tup {t b : Addr} {vs ws : List Value} {Q : Value → Shared → Prop} (ht : IsTup s.heap t vs.toArray) (hb : IsTup s.heap b ws.toArray) (hv : vs ≠ [])
    (h1 : ws = [] → Q (.ref t) s) (h2 : ws ≠ [] → Q (.ref s.heap.objs.size) { s with heap := s.heap.push { cls := .type "tuple", data := .seq (vs ++ ws).toArray } })
    (hsz : vs.length + ws.length ≤ sizeLine) : wpAny (model prog w) A (binaryOp .Add (.ref t) (.ref b)) Q E s := by
  obtain ⟨⟨cls, dd, data, sl⟩, ho, hc, n, hd⟩ := id ht
  obtain ⟨⟨cls2, dd2, data2, sl2⟩, ho2, hc2, n2, hd2⟩ := id hb
  simp only at hc hd hc2 hd2
  subst hc hd hc2 hd2
  have e : vs.toArray ++ ws.toArray = (vs ++ ws).toArray := by simp
  by_cases hw : ws = []
  · exact concat_meets ⟨_, ho, rfl⟩ ⟨_, ho2, rfl⟩ noFill_tuple_add seq_tuple_add PySem.F.slot_tuple_add PySem.F.entry_tuple_add (PySem.F.args_tuple_add_2 _ _)
      (tuple_addW1 t b vs.toArray ws.toArray n n2 dd dd2 sl sl2 (by simpa using hv) (by simp [hw])) ⟨ho, ho2, h1 hw⟩
  · refine concat_meets ⟨_, ho, rfl⟩ ⟨_, ho2, rfl⟩ noFill_tuple_add seq_tuple_add PySem.F.slot_tuple_add PySem.F.entry_tuple_add (PySem.F.args_tuple_add_2 _ _)
      (tuple_addW2 t b vs.toArray ws.toArray n n2 dd dd2 sl sl2 (by simpa using hv) (by simpa using hw) (by rw [List.size_toArray, List.size_toArray]; exact hsz)) ⟨ho, ho2, ?_⟩
    rw [e]
    exact h2 hw

/-! ### t[a:b], not the whole -/
/-- a slice's bound as a place among n (d where it is left out) -/
def sIx (n d : Nat) : Option Int → Nat
  | none => d
  | some v => if v < 0 then (v + (n : Int)).toNat else min v.toNat n
theorem sIx_none (n d : Nat) : sIx n d none = d := rfl
theorem sIx_nat (n d k : Nat) : sIx n d (some (k : Int)) = min k n := by
  show (if (k : Int) < 0 then ((k : Int) + (n : Int)).toNat else min (k : Int).toNat n) = min k n
  rw [if_neg (by omega), Int.toNat_natCast]
theorem sIx_le (n d : Nat) (hd : d ≤ n) (o : Option Int) : sIx n d o ≤ n := by
  cases o with
  | none => exact hd
  | some v =>
    show (if v < 0 then (v + (n : Int)).toNat else min v.toNat n) ≤ n
    by_cases hv : v < 0
    · rw [if_pos hv]; omega
    · rw [if_neg hv]; exact Nat.min_le_right _ _
theorem clip_eq (v : Int) (n d : Nat) : (if v < 0 then max (v + (n : Int)) 0 else min v (n : Int)) = ((sIx n d (some v) : Nat) : Int) := by
  show (if v < 0 then max (v + (n : Int)) 0 else min v (n : Int)) = (((if v < 0 then (v + (n : Int)).toNat else min v.toNat n) : Nat) : Int)
  by_cases hv : v < 0
  · simp only [if_pos hv]; omega
  · simp only [if_neg hv]; omega
theorem adjust_gen (lo hi : Option Int) (n : Nat) : Builtin.Slice.sliceAdjust lo hi 1 (n : Int) = (((sIx n 0 lo : Nat) : Int), ((sIx n n hi : Nat) : Int)) := by
  have h1 : ¬ ((1 : Int) < 0) := by omega
  unfold Builtin.Slice.sliceAdjust
  simp only [h1, if_false]
  refine Prod.ext ?_ ?_
  · cases lo with
    | none => rfl
    | some v => exact clip_eq v n 0
  · cases hi with
    | none => rfl
    | some v => exact clip_eq v n n
theorem places_gen (i j : Nat) : Builtin.Slice.slicePlaces (i : Int) (j : Int) 1 = j - i := by
  unfold Builtin.Slice.slicePlaces
  have h1 : (1 : Int) > 0 := by omega
  simp only [h1, if_true, Int.ediv_one]
  split <;> omega
theorem slicePart_ {v : Value} {o : Option Int} {Q : Option Int → Shared → Prop} (p : IsPart v o) (h : Q o s) : wpAny (model prog w) A (Builtin.Slice.slicePartIndex v) Q E s := by
  cases p with
  | none => exact slicePart_none h
  | int i t => exact slicePart_int h
theorem sliceApplied_gen {sl : Addr} {vl vu : Value} {lo hi : Option Int} {n : Nat} {Q : Int × Int × Nat → Shared → Prop} (hs : s.heap.IsSliceOf sl vl vu .none) (pl : IsPart vl lo) (pu : IsPart vu hi)
    (h : Q (((sIx n 0 lo : Nat) : Int), 1, sIx n n hi - sIx n 0 lo) s) : wpAny (model prog w) A (Builtin.Slice.sliceApplied (.ref sl) (pure (n : Int))) Q E s := by
  obtain ⟨os, hos, hcs, hds⟩ := id hs
  unfold Builtin.Slice.sliceApplied Builtin.Slice.sliceFields
  refine wpAny_bind (wpAny_bind (wpAny_field hos hds (x := vl) rfl (wpAny_bind (wpAny_field hos hds (x := vu) rfl (wpAny_bind (wpAny_field hos hds (x := .none) rfl (wpAny_pure ?_)))))))
  refine wpAny_bind (slicePart_none ?_)
  show wpAny _ _ (if ((1 : Int) == 0) = true then _ else _) _ _ s
  rw [if_neg (by decide)]
  refine wpAny_bind (slicePart_ pl (wpAny_bind (slicePart_ pu (wpAny_bind (wpAny_pure ?_)))))
  show wpAny _ _ (match Builtin.Slice.sliceAdjust lo hi 1 (n : Int) with | (lo, hi) => pure (lo, (1 : Int), Builtin.Slice.slicePlaces lo hi 1)) _ _ s
  rw [adjust_gen lo hi n]
  show wpAny _ _ (pure (((sIx n 0 lo : Nat) : Int), (1 : Int), Builtin.Slice.slicePlaces ((sIx n 0 lo : Nat) : Int) ((sIx n n hi : Nat) : Int) 1)) _ _ s
  rw [places_gen]
  exact wpAny_pure h
theorem pick_gen (xs : Array Value) (i k : Nat) : ((List.range k).filterMap fun (m : Nat) => xs[((i : Int) + (m : Int) * 1).toNat]?).toArray = ((xs.toList.drop i).take k).toArray := by
  have e : (fun (m : Nat) => xs[((i : Int) + (m : Int) * 1).toNat]?) = fun m => xs[i + m]? := by
    funext m
    have : ((i : Int) + (m : Int) * 1).toNat = i + m := by omega
    rw [this]
  rw [e]
  have := pick_run xs i k
  rw [List.filterMap_map] at this
  have e2 : ((fun x => xs[x]?) ∘ fun x => i + x) = fun m => xs[i + m]? := rfl
  rw [e2] at this
  rw [this]

theorem getItem_tuple_cut {t sl : Addr} {items : Array Value} {vl vu : Value} {lo hi : Option Int} {Q : Value → Shared → Prop} (ht : IsTup s.heap t items) (hs : s.heap.IsSliceOf sl vl vu .none) (pl : IsPart vl lo) (pu : IsPart vu hi)
    (hw : ¬ (sIx items.size 0 lo = 0 ∧ sIx items.size items.size hi = items.size))
    (h : Q (.ref s.heap.objs.size) { s with heap := s.heap.push { cls := .type "tuple", data := .seq ((items.toList.drop (sIx items.size 0 lo)).take (sIx items.size items.size hi - sIx items.size 0 lo)).toArray } })
    (hsz : items.size ≤ sizeLine) : wpAny (model prog w) A (getItem (.ref t) (.ref sl)) Q E s := by
  have htake : sizeOk (.seq ((items.toList.drop (sIx items.size 0 lo)).take (sIx items.size items.size hi - sIx items.size 0 lo)).toArray) := by
    show ((items.toList.drop (sIx items.size 0 lo)).take (sIx items.size items.size hi - sIx items.size 0 lo)).toArray.size ≤ sizeLine
    rw [List.size_toArray, List.length_take, List.length_drop, Array.length_toList]
    omega
  have hj : sIx items.size items.size hi ≤ items.size := sIx_le _ _ (Nat.le_refl _) hi
  obtain ⟨os, hos, hcs, hds⟩ := id hs
  have hTs : s.TypeIs (.ref sl) "slice" := ⟨os, hos, hcs⟩
  unfold getItem
  try with_reducible refine wpAny_holding ?_
  first | refine wpAny_bind (wpAny_pure ?_) | skip
  refine wpAny_bind (wpAny_sequenceKey ht.typeIs (by decide) ?_)
  refine wpAny_bind (wpAny_callSpecial?_slot (name := Str.ofString "__getitem__") ht.typeIs PyProof.Rows.slot_tuple_getitem
    (wpAny_call_entry PyProof.Rows.slot_tuple_getitem ht.typeIs entry_tuple_getitem ?_ (args_tuple_getitem _ _)))
  show wpAny _ _ (Builtin.Tuple.tupleItemsOf (.ref t) >>= _) _ _ s
  refine wpAny_bind (tupleItemsOf_ ht ?_)
  refine wpAny_bind (wpAny_typeOf hTs ?_)
  rw [if_pos (by decide)]
  refine wpAny_bind (sliceApplied_gen hs pl pu ?_)
  have hno : ¬ ((((sIx items.size 0 lo : Nat) : Int) == 0 && (1 : Int) == 1 && (sIx items.size items.size hi - sIx items.size 0 lo) == items.size) = true) := by
    intro q
    rw [Bool.and_eq_true, Bool.and_eq_true] at q
    have q1 : ((sIx items.size 0 lo : Nat) : Int) = 0 := eq_of_beq q.1.1
    have q2 : sIx items.size items.size hi - sIx items.size 0 lo = items.size := eq_of_beq q.2
    exact hw ⟨by omega, by omega⟩
  show wpAny _ _ (if (((sIx items.size 0 lo : Nat) : Int) == 0 && (1 : Int) == 1 && (sIx items.size items.size hi - sIx items.size 0 lo) == items.size) = true then _ else _) _ _ s
  rw [if_neg hno, pick_gen]
  first
    | exact wpAny_bind (m := Builtin.Tuple.tupleExact _) (wpAny_newObj_type (wpAny_pure ⟨_, rfl, wpAny_pure h⟩) htake)
    | exact wpAny_bind (m := Builtin.Tuple.tupleExact _) (wpAny_newObj_type (wpAny_bind (wpAny_pure (wpAny_pure ⟨_, rfl, wpAny_pure h⟩))) htake)
    | exact wpAny_bind (wpAny_bind (m := Builtin.Tuple.tupleExact _) (wpAny_newObj_type (wpAny_pure (wpAny_pure ⟨_, rfl, wpAny_pure h⟩)) htake))
    | exact wpAny_bind (wpAny_bind (m := Builtin.Tuple.tupleExact _) (wpAny_newObj_type (wpAny_pure ⟨_, rfl, wpAny_pure h⟩) htake))
end
end HT

namespace L2
open PySem PySem.Spec PyProof.Rows

/-! ### the parts of a slice -/
abbrev TO := St → Hp → (Option Int → Hp → Prop) → Prop
/-- a slice's part (left out, or an int) -/
def PO (X : Cx) (e : Option Expr) (t : TO) : Prop :=
  ∀ (pins : List (Addr × Obj)) (s : Shared) (σ : St) (H : Hp) (Q : Option Int → Hp → Prop), Inv X pins σ H s → t σ H Q →
    wpAny (model X.prog X.w) X.A (evalPart e X.env) (fun u s' => ∃ o H', Inv X pins σ H' s' ∧ IsPart u o ∧ Q o H') X.xe s
def tNoPart : TO := fun _ H Q => Q none H
def tPart (t : TE) : TO := fun σ H Q => t σ H fun x H1 => ∃ i, x = .int i ∧ Q (some i) H1

theorem intsAre_of {ns : List Int} : ∀ {us : List Value}, Vals (ns.map V.int) us → IntsAre us ns := by
  induction ns with
  | nil => intro us r; rw [List.map_nil] at r; cases r; exact .nil
  | cons n ns ih =>
    intro us r
    rw [List.map_cons] at r
    cases r with
    | cons r1 r2 =>
      obtain ⟨t, e⟩ := r1
      subst e
      exact .cons n t (ih r2)

section
variable {X : Cx} {e : Expr} {te : TE} {lo hi : Option Expr} {tl th : TO} {pos p2 : Pos}

theorem po_none : PO X none tNoPart := by
  intro pins s σ H Q I h
  rw [evalPart_none]
  exact wpAny_pure ⟨none, H, I, .none, h⟩
theorem po_some (h : PE X e te) : PO X (some e) (tPart te) := by
  intro pins s σ H Q I hw
  rw [evalPart_some]
  refine thn (h pins s σ H _ I hw) fun u s1 ⟨x, H1, I1, r1, q1⟩ => ?_
  obtain ⟨i, rfl, q⟩ := q1
  obtain ⟨t, rfl⟩ := r1
  exact ⟨some i, H1, I1, .int i t, q⟩

/-- what a slice of a value is, by values: the slice object stands at sl -/
def SlR (X : Cx) (r : V → Option Int → Option Int → Hp → VK → Prop) : Prop :=
  ∀ (pins : List (Addr × Obj)) (s : Shared) (σ : St) (H : Hp) (x : V) (v vl vu : Value) (lo hi : Option Int) (sl : Addr) (Q : VK), Inv X pins σ H s → RelV x v → s.heap.IsSliceOf sl vl vu .none → IsPart vl lo → IsPart vu hi → r x lo hi H Q →
    ∃ T id, typeLookup (.type T) "__getitem__" = pure (some (.builtin id)) ∧ s.TypeIs v T ∧ wpAny (model X.prog X.w) X.A (getItem v (.ref sl)) (EP X pins σ Q) X.xe s
theorem SlR.or {r r' : V → Option Int → Option Int → Hp → VK → Prop} (h : SlR X r) (h' : SlR X r') : SlR X (fun x lo hi H Q => r x lo hi H Q ∨ r' x lo hi H Q) := by
  intro pins s σ H x v vl vu lo hi sl Q I rx hs pl pu q
  rcases q with q | q
  · exact h pins s σ H x v vl vu lo hi sl Q I rx hs pl pu q
  · exact h' pins s σ H x v vl vu lo hi sl Q I rx hs pl pu q
def tSl (r : V → Option Int → Option Int → Hp → VK → Prop) (te : TE) (tl th : TO) : TE := fun σ H Q => te σ H fun x H1 => tl σ H1 fun l H2 => th σ H2 fun u H3 => r x l u H3 Q
/-- a[lo:hi], any a -/
theorem pe_slice {r : V → Option Int → Option Int → Hp → VK → Prop} (hr : SlR X r) (he : PE X e te) (hl : PO X lo tl) (hu : PO X hi th) : PE X (.Subscript e (.Slice lo hi none p2) pos) (tSl r te tl th) := by
  intro pins s σ H Q I h
  refine Subscript_ (thn (he pins s σ H _ I h) fun v s1 ⟨x, H1, I1, r1, q1⟩ => ?_)
  refine wpAny_Slice (thn (hl pins s1 σ H1 _ I1 q1) fun vl s2 ⟨l, H2, I2, pl, q2⟩ => thn (hu pins s2 σ H2 _ I2 q2) fun vu s3 ⟨u, H3, I3, pu, q3⟩ => ?_)
  rw [evalPart_none]
  refine wpAny_pure ?_
  have I4 : Inv X pins σ H3 { s3 with heap := s3.heap.push { cls := .type "slice", data := .fields #[vl, vu, .none] } } := I3.kept (t' := s3.toks) fun b ob q => Heap.get?_push_of_some _ q
  obtain ⟨T, id, hT, ht, hg⟩ := hr pins { s3 with heap := s3.heap.push { cls := .type "slice", data := .fields #[vl, vu, .none] } } σ H3 x v vl vu l u s3.heap.objs.size Q I4 r1 (Heap.IsSliceOf.new ..) pl pu q3
  show wpAny (model X.prog X.w) X.A (subscriptTail e (.Slice lo hi none p2) v (.ref s3.heap.objs.size)) (EP X pins σ Q) X.xe { s3 with heap := s3.heap.push { cls := .type "slice", data := .fields #[vl, vu, .none] } }
  exact tail_any (ops := [.ref s3.heap.objs.size, v]) ht hT hg (by with_unfolding_all rfl)

/-- the items of xs[lo:hi] -/
def cutV (xs : List V) (lo hi : Option Int) : List V := (xs.drop (HT.sIx xs.length 0 lo)).take (HT.sIx xs.length xs.length hi - HT.sIx xs.length 0 lo)
theorem cutV_length (xs : List V) (lo hi : Option Int) : (cutV xs lo hi).length ≤ xs.length := by
  unfold cutV
  rw [List.length_take, List.length_drop]
  omega
/-- t[lo:hi], not the whole of it (the whole would be t itself) -/
def rSlT (K : PySem.W.Frag) : V → Option Int → Option Int → Hp → VK → Prop := fun x lo hi H Q => ∃ a xs, x = .ref a ∧ SqT K H a xs ∧
  ¬ (HT.sIx xs.length 0 lo = 0 ∧ HT.sIx xs.length xs.length hi = xs.length) ∧ ∀ p, H p = none → Q (.ref p) (upd H p (.tup (cutV xs lo hi)))
theorem sl_tup : SlR X (rSlT X.K) := by
  intro pins s σ H x v vl vu lo hi sl Q I rx hs pl pu h
  obtain ⟨a, xs, rfl, hx, hw, q⟩ := h
  cases rx
  obtain ⟨its, r, ht, hz⟩ := I.tuple hx
  have hlen : its.toArray.size = xs.length := by rw [List.size_toArray]; exact r.length.symm
  refine ⟨"tuple", _, PyProof.Rows.slot_tuple_getitem.lookup, ht.typeIs, ?_⟩
  refine HT.getItem_tuple_cut ht hs pl pu (by rw [hlen]; exact hw) ?_ (by rw [hlen]; exact hz)
  rw [hlen]
  refine ⟨.ref s.heap.objs.size, _, I.laid (t' := s.toks) (o := .tup (cutV xs lo hi)) (fun b ob q => Heap.get?_push_of_some _ q) (Nat.le_refl _) ?_, rfl, q _ (I.hok.fresh (Nat.le_refl _))⟩
  exact ⟨Nat.le_trans (cutV_length xs lo hi) hz, _, (r.drop (HT.sIx xs.length 0 lo)).take (HT.sIx xs.length xs.length hi - HT.sIx xs.length 0 lo), IsTup.new _ _⟩

/-! ### t < u, t + u -/
def rLtT (K : PySem.W.Frag) : R2 := fun x y H Q => ∃ a b ns ms, x = .ref a ∧ y = .ref b ∧ SqT K H a (ns.map V.int) ∧ SqT K H b (ms.map V.int) ∧ Q (.bl (HT.lexLt ns ms)) H
theorem op_ltT (hu : X.A.units < cLine) : OpR X (compareOp .Lt) (rLtT X.K) := by
  intro pins s σ H x y v u Q I rx ry h
  obtain ⟨a, b, ns, ms, rfl, rfl, ha, hb, q⟩ := h
  cases rx
  cases ry
  obtain ⟨its, r1, p1, _⟩ := I.tuple ha
  obtain ⟨its2, r2, p2, _⟩ := I.tuple hb
  have i1 : IntsAre its.toArray.toList ns := intsAre_of r1
  have i2 : IntsAre its2.toArray.toList ms := intsAre_of r2
  exact HT.lt_tupInts p1 p2 i1 i2 hu ⟨.bl (HT.lexLt ns ms), H, I, rfl, q⟩
/-- t + u, t not empty: u empty gives t itself -/
def rCatT (K : PySem.W.Frag) : R2 := fun x y H Q => ∃ a b xs ys, x = .ref a ∧ y = .ref b ∧ SqT K H a xs ∧ SqT K H b ys ∧ xs ≠ [] ∧ xs.length + ys.length ≤ sizeLine ∧
  (ys = [] → Q (.ref a) H) ∧ (ys ≠ [] → ∀ p, H p = none → Q (.ref p) (upd H p (.tup (xs ++ ys))))
theorem Vals.nil_iff {xs : List V} {us : List Value} (r : Vals xs us) : us = [] ↔ xs = [] := by
  cases r with
  | nil => simp
  | cons _ _ => simp
theorem op_catT : OpR X (binaryOp .Add) (rCatT X.K) := by
  intro pins s σ H x y v u Q I rx ry h
  obtain ⟨a, b, xs, ys, rfl, rfl, ha, hb, hx, hz, q1, q2⟩ := h
  cases rx
  cases ry
  obtain ⟨its, r1, p1, _⟩ := I.tuple ha
  obtain ⟨its2, r2, p2, _⟩ := I.tuple hb
  refine HT.cat_tup p1 p2 (fun z => hx (r1.nil_iff.mp z)) (fun z => ⟨.ref a, H, I, rfl, q1 (r2.nil_iff.mp z)⟩) (fun z => ?_) (by rw [← r1.length, ← r2.length]; exact hz)
  refine ⟨.ref s.heap.objs.size, _, I.laid (t' := s.toks) (o := .tup (xs ++ ys)) (fun b ob q => Heap.get?_push_of_some _ q) (Nat.le_refl _) ?_, rfl, q2 (fun w => z (r2.nil_iff.mpr w)) _ (I.hok.fresh (Nat.le_refl _))⟩
  exact ⟨by rw [List.length_append]; exact hz, _, r1.append r2, IsTup.new _ _⟩
/-- tuple(t) -/
theorem call_tupleT : CallR X (.type "tuple") (fun xs H Q => ∃ a ys, xs = [.ref a] ∧ SqT X.K H a ys ∧ Q (.ref a) H) := by
  intro pins s σ H xs us Q I r h
  obtain ⟨a, ys, rfl, ha, q⟩ := h
  obtain ⟨u, rfl, ru⟩ := vals1 r
  cases ru
  obtain ⟨its, _, p1, _⟩ := I.tuple ha
  exact call_tuple_same (items := its.toArray) p1 ⟨.ref a, H, I, rfl, q⟩
end
end L2

namespace L2
open PySem PySem.Spec PyProof.Rows

/-! ### places -/
/-- the place that an index of any sign means -/
def ixN (n : Nat) (i : Int) : Option Nat := if 0 ≤ i then (if i < n then some i.toNat else none) else if -(n : Int) ≤ i then some (i + n).toNat else none
def atI {α : Type} (xs : List α) (i : Int) : Option α := (ixN xs.length i).bind fun j => xs[j]?
theorem ixN_seq {n : Nat} {i : Int} {j : Nat} (h : ixN n i = some j) : seqIndex? i n = some j ∧ j < n ∧ -(n : Int) ≤ i ∧ i < n := by
  unfold ixN at h
  by_cases h0 : 0 ≤ i
  · rw [if_pos h0] at h
    by_cases h1 : i < n
    · rw [if_pos h1] at h
      have e : i.toNat = j := Option.some.inj h
      exact ⟨by rw [seqIndex_of h0 h1, e], by omega, by omega, h1⟩
    · rw [if_neg h1] at h; cases h
  · rw [if_neg h0] at h
    by_cases h1 : -(n : Int) ≤ i
    · rw [if_pos h1] at h
      have e : (i + n).toNat = j := Option.some.inj h
      exact ⟨by rw [seqIndex_neg (by omega) h1, e], by omega, h1, by omega⟩
    · rw [if_neg h1] at h; cases h
theorem atI_get {α : Type} {xs : List α} {i : Int} {v : α} (h : atI xs i = some v) : ∃ j, seqIndex? i xs.length = some j ∧ xs[j]? = some v ∧ j < xs.length ∧ -(xs.length : Int) ≤ i ∧ i < xs.length := by
  unfold atI at h
  cases e : ixN xs.length i with
  | none => rw [e] at h; cases h
  | some j =>
    rw [e] at h
    obtain ⟨h1, h2, h3, h4⟩ := ixN_seq e
    exact ⟨j, h1, h, h2, h3, h4⟩
theorem atI_nat {α : Type} {xs : List α} {j : Nat} {v : α} (h : xs[j]? = some v) : atI xs (j : Int) = some v := by
  have hj : j < xs.length := (List.getElem?_eq_some_iff.mp h).1
  have e : ixN xs.length (j : Int) = some j := by
    unfold ixN
    rw [if_pos (by omega), if_pos (by omega)]; simp
  unfold atI; rw [e]; exact h
theorem atI_last {α : Type} (xs : List α) (v : α) : atI (xs ++ [v]) (-1) = some v := by
  have hl : (xs ++ [v]).length = xs.length + 1 := by simp
  have e : ixN (xs ++ [v]).length (-1) = some xs.length := by
    unfold ixN
    rw [hl, if_neg (by decide), if_pos (by omega)]
    congr 1
    omega
  unfold atI
  rw [e]
  show (xs ++ [v])[xs.length]? = some v
  simp

/-! ### what may be subscripted -/
/-- what stands as an index of a plain subscript -/
def PlainIx (b : Expr) : Prop := ∀ o i, subscripted b false o i = operate [o, i] (getItem o i)
/-- a subscript by values -/
def IxR (X : Cx) (r : R2) : Prop :=
  ∀ (value slice : Expr) (pins : List (Addr × Obj)) (s : Shared) (σ : St) (H : Hp) (x y : V) (v u : Value) (Q : VK), Inv X pins σ H s → RelV x v → RelV y u → r x y H Q →
    subscripted slice false v u = operate [v, u] (getItem v u) → wpAny (model X.prog X.w) X.A (subscriptTail value slice v u) (EP X pins σ Q) X.xe s
/-- a call of a builtin's method by values: the receiver, the arguments -/
def MtR (X : Cx) (id : String) (r : V → List V → Hp → VK → Prop) : Prop :=
  ∀ (pins : List (Addr × Obj)) (s : Shared) (σ : St) (H : Hp) (x : V) (xs : List V) (v : Value) (us : List Value) (Q : VK), Inv X pins σ H s → RelV x v → Vals xs us → r x xs H Q →
    wpAny (model X.prog X.w) X.A (call (.builtin id) (v :: us)) (EP X pins σ Q) X.xe s
section
variable {X : Cx} {a b : Expr} {ta tb : TE} {pos : Pos}
theorem IxR.or {r r' : R2} (h : IxR X r) (h' : IxR X r') : IxR X (fun x y H Q => r x y H Q ∨ r' x y H Q) := by
  intro value slice pins s σ H x y v u Q I rx ry q hs
  rcases q with q | q
  · exact h value slice pins s σ H x y v u Q I rx ry q hs
  · exact h' value slice pins s σ H x y v u Q I rx ry q hs
theorem MtR.or {id : String} {r r' : V → List V → Hp → VK → Prop} (h : MtR X id r) (h' : MtR X id r') : MtR X id (fun x xs H Q => r x xs H Q ∨ r' x xs H Q) := by
  intro pins s σ H x xs v us Q I rx rs q
  rcases q with q | q
  · exact h pins s σ H x xs v us Q I rx rs q
  · exact h' pins s σ H x xs v us Q I rx rs q
/-- a[b] -/
theorem pe_ix {r : R2} (hr : IxR X r) (ha : PE X a ta) (hb : PE X b tb) (hs : PlainIx b) : PE X (.Subscript a b pos) (tOp r ta tb) := by
  intro pins s σ H Q I h
  exact Subscript_ (binT ha hb I h fun v u s2 x y H2 I2 rx ry q => hr a b pins s2 σ H2 x y v u Q I2 rx ry q (hs _ _))

def rIxL (K : PySem.W.Frag) : R2 := fun x y H Q => ∃ p xs i v, x = .ref p ∧ y = .int i ∧ SqL K H p xs ∧ atI xs i = some v ∧ Q v H
def rIxT (K : PySem.W.Frag) : R2 := fun x y H Q => ∃ p xs i v, x = .ref p ∧ y = .int i ∧ SqT K H p xs ∧ atI xs i = some v ∧ Q v H
def rIxS : R2 := fun x y H Q => ∃ z i c, x = .str z ∧ y = .int i ∧ z.length ≤ sizeLine ∧ atI z.cps.toList i = some c ∧ Q (.str ⟨#[c]⟩) H
theorem ix_list : IxR X (rIxL X.K) := by
  intro value slice pins s σ H x y v u Q I rx ry h hs
  obtain ⟨p, xs, i, z, rfl, rfl, hq, he, q⟩ := h
  cases rx
  obtain ⟨t, rfl⟩ := ry
  obtain ⟨its, r, pl, hz⟩ := I.list hq
  obtain ⟨j, h1, h2, h3, h4, h5⟩ := atI_get he
  obtain ⟨w, ew, rw'⟩ := r.get h2
  have hl := r.length
  have hn := line63
  have fin : EP X pins σ Q w s := ⟨z, H, I, rw', q⟩
  by_cases h0 : 0 ≤ i
  · have hj : i.toNat = j := by
      rw [seqIndex_of h0 h5] at h1
      exact Option.some.inj h1
    exact item_listR pl.isList h0 (by omega) (by rw [hj]; simpa using ew) fin hs
  · have hj : (i + (its.toArray.size : Int)).toNat = j := by
      rw [seqIndex_neg (by omega) h4] at h1
      rw [List.size_toArray, ← hl]
      exact Option.some.inj h1
    exact subscriptTail_builtinR (x := w) pl.isList.typeIs slot_list_getitem.lookup
      (wpAny_getItem_list_neg (Q := fun r s' => r = w ∧ EP X pins σ Q r s') pl.isList (by omega) (by rw [List.size_toArray] <;> omega) (by omega) (by rw [hj]; simpa using ew) ⟨rfl, fin⟩) hs
theorem ix_tup : IxR X (rIxT X.K) := by
  intro value slice pins s σ H x y v u Q I rx ry h hs
  obtain ⟨p, xs, i, z, rfl, rfl, hq, he, q⟩ := h
  cases rx
  obtain ⟨t, rfl⟩ := ry
  obtain ⟨its, r, pl, hz⟩ := I.tuple hq
  obtain ⟨j, h1, h2, h3, h4, h5⟩ := atI_get he
  obtain ⟨w, ew, rw'⟩ := r.get h2
  have hl := r.length
  have hn := line63
  have fin : EP X pins σ Q w s := ⟨z, H, I, rw', q⟩
  exact subscriptTail_builtinR (x := w) pl.typeIs slot_tuple_getitem.lookup
    (getItem_tuple (j := j) (Q := fun r s' => r = w ∧ EP X pins σ Q r s') pl (by omega) (by omega) (by rw [List.size_toArray, ← hl]; exact h1) (by simpa using ew) ⟨rfl, fin⟩) hs
theorem ix_str : IxR X rIxS := by
  intro value slice pins s σ H x y v u Q I rx ry h hs
  obtain ⟨z, i, c, rfl, rfl, hz, he, q⟩ := h
  obtain ⟨t, rfl⟩ := rx
  obtain ⟨t', rfl⟩ := ry
  obtain ⟨j, h1, h2, h3, h4, h5⟩ := atI_get he
  have hl : z.cps.toList.length = z.length := by simp [Str.length]
  rw [hl] at h1 h4 h5
  have hn := line63
  exact tail_any (typeIs_str s z t) slot_str_getitem.lookup (getItem_str (c := c) (by
    have e1 : decide (i < -(2 ^ 63 : Int)) = false := decide_eq_false (by omega)
    have e2 : decide (i ≥ 2 ^ 63) = false := decide_eq_false (by omega)
    rw [e1, e2, Bool.or_false]) (by rw [h1]; simpa using h2) ⟨.str ⟨#[c]⟩, H, I.tok _, ⟨_, rfl⟩, q⟩) hs
/-- list, tuple or str -/
def rIx (K : PySem.W.Frag) : R2 := fun x y H Q => rIxL K x y H Q ∨ rIxT K x y H Q ∨ rIxS x y H Q
theorem ix_seq : IxR X (rIx X.K) := ix_list.or (ix_tup.or ix_str)

/-! ### xs[i] = v, any sign -/
/-- the list's object behind a store -/
theorem mapSeq_set (its : List Value) (n j : Nat) (u : Value) : Obj.mapSeq (·.setIfInBounds j u) { cls := .type "list", data := .seq its.toArray n } = { cls := .type "list", data := .seq (its.set j u).toArray n } := by
  simp [Obj.mapSeq]
theorem Inv.lst {pins : List (Addr × Obj)} {σ : St} {H : Hp} {s : Shared} {p : Addr} {xs : List V} (I : Inv X pins σ H s) (h : H p = some (.lst xs)) :
    ∃ (its : List Value) (n : Nat), Vals xs its ∧ s.heap.get? p = some { cls := .type "list", data := .seq its.toArray n } ∧ xs.length ≤ sizeLine := by
  obtain ⟨z, its, n, r, e⟩ := I.hok p _ h
  exact ⟨its, n, r, e, z⟩
/-- the list at p is written by an update of its object -/
theorem Inv.lstUpd {pins : List (Addr × Obj)} {σ : St} {H : Hp} {s : Shared} {p : Addr} {xs ys : List V} {its its' : List Value} {n n' : Nat} {f : Obj → Obj} (I : Inv X pins σ H s) (h : H p = some (.lst xs))
    (ho : s.heap.get? p = some { cls := .type "list", data := .seq its.toArray n }) (hf : f { cls := .type "list", data := .seq its.toArray n } = { cls := .type "list", data := .seq its'.toArray n' }) (r : Vals ys its') (hz : ys.length ≤ sizeLine) (t : Nat) :
    Inv X pins σ (upd H p (.lst ys)) { s with heap := s.heap.update p f, toks := t } := by
  have e : (s.heap.update p f).get? p = some { cls := .type "list", data := .seq its'.toArray n' } := by
    rw [Heap.get?_update_self f ho (by rw [hf] <;> rfl), hf]
  refine I.write (x := p) (e := p) (by rw [h]; trivial) (.inl rfl) (fun b u hb q => (Heap.get?_update_other _ _ (Ne.symm hb)).trans q) ⟨_, e⟩ ?_
  exact ⟨hz, its', n', r, e⟩
def rSetL : V → V → V → Hp → (Hp → Prop) → Prop := fun o i v H Q => ∃ p xs k j, o = .ref p ∧ i = .int k ∧ H p = some (.lst xs) ∧ ixN xs.length k = some j ∧ Q (upd H p (.lst (xs.set j v)))
theorem set_list : PSet X rSetL := by
  intro pins s σ H o i v ov iv u Q I ro ri rv h
  obtain ⟨p, xs, k, j, rfl, rfl, hp, hj, q⟩ := h
  cases ro
  obtain ⟨t, rfl⟩ := ri
  obtain ⟨its, n, r, ho, hz⟩ := I.lst hp
  obtain ⟨h1, h2, h3, h4⟩ := ixN_seq hj
  have hl := r.length
  have hn := line63
  have I' : Inv X pins σ (upd H p (.lst (xs.set j v))) { s with heap := s.heap.update p (Obj.mapSeq (·.setIfInBounds j u)) } :=
    I.lstUpd hp ho (mapSeq_set its n j u) (r.set rv j) (by rw [List.length_set]; exact hz) s.toks
  by_cases h0 : 0 ≤ k
  · have hk : k.toNat = j := by
      rw [seqIndex_of h0 h4] at h1
      exact Option.some.inj h1
    exact PySem.W.ki_setAt ho h0 (by omega) (by rw [List.size_toArray, ← hl]; exact h4) (by rw [hk]; exact ⟨_, I', q⟩)
  · have hk : (k + (its.toArray.size : Int)).toNat = j := by
      rw [seqIndex_neg (by omega) h3] at h1
      rw [List.size_toArray, ← hl]
      exact Option.some.inj h1
    exact PySem.W.ki_setBack ho (by omega) (by rw [List.size_toArray, ← hl]; exact h3) (by omega) (by rw [hk]; exact ⟨_, I', q⟩)

/-! ### slices -/
theorem slice_bounds (lo hi : Option Int) (n : Nat) : (sliceBounds lo hi none n).1 = ((HT.sIx n 0 lo : Nat) : Int) ∧ (sliceBounds lo hi none n).2.1 = ((HT.sIx n n hi : Nat) : Int) ∧ (sliceBounds lo hi none n).2.2 = 1 := by
  refine ⟨?_, ?_, rfl⟩
  · cases lo with
    | none => simp [sliceBounds, HT.sIx]
    | some i =>
      simp only [sliceBounds, HT.sIx, Option.getD_none, show (1 : Int) > 0 by decide, if_true]
      by_cases h : i < 0
      · simp only [h, if_true] <;> omega
      · simp only [h, if_false] <;> omega
  · cases hi with
    | none => simp [sliceBounds, HT.sIx]
    | some i =>
      simp only [sliceBounds, HT.sIx, Option.getD_none, show (1 : Int) > 0 by decide, if_true]
      by_cases h : i < 0
      · simp only [h, if_true] <;> omega
      · simp only [h, if_false] <;> omega
theorem slicePick_cut (its : List Value) (lo hi : Option Int) : slicePick its.toArray lo hi none = ((its.drop (HT.sIx its.length 0 lo)).take (HT.sIx its.length its.length hi - HT.sIx its.length 0 lo)).toArray := by
  obtain ⟨h1, h2, h3⟩ := slice_bounds lo hi its.toArray.size
  unfold slicePick
  rw [h1, h2, h3]
  simp only [sliceRange_one, pick_run, List.size_toArray] <;> rfl
/-- xs[lo:hi] of a list: a new list -/
def rSlL (K : PySem.W.Frag) : V → Option Int → Option Int → Hp → VK → Prop := fun x lo hi H Q => ∃ a xs, x = .ref a ∧ SqL K H a xs ∧ ∀ p, H p = none → Q (.ref p) (upd H p (.lst (cutV xs lo hi)))
theorem sl_list : SlR X (rSlL X.K) := by
  intro pins s σ H x v vl vu lo hi sl Q I rx hs pl pu h
  obtain ⟨a, xs, rfl, hx, q⟩ := h
  cases rx
  obtain ⟨its, r, ht, hz⟩ := I.list hx
  have hlen := r.length
  refine ⟨"list", _, slot_list_getitem.lookup, ht.isList.typeIs, ?_⟩
  refine wpAny_getItem_list_slice ht.isList hs pl pu .none (by simp) ?_ (by rw [List.size_toArray] <;> omega)
  rw [slicePick_cut, ← hlen]
  refine ⟨.ref s.heap.objs.size, _, I.laid (t' := s.toks) (o := .lst (cutV xs lo hi)) (fun b ob q => Heap.get?_push_of_some _ q) (Nat.le_refl _) ?_, rfl, q _ (I.hok.fresh (Nat.le_refl _))⟩
  exact ⟨Nat.le_trans (cutV_length xs lo hi) hz, _, 0, (r.drop (HT.sIx xs.length 0 lo)).take (HT.sIx xs.length xs.length hi - HT.sIx xs.length 0 lo), Heap.get?_push_size _ rfl⟩

/-! ### in, not in: flat items -/
def flatV : V → Bool
  | .non => true
  | .bl _ => true
  | .int _ => true
  | .str _ => true
  | _ => false
/-- == of flat values -/
def eqV : V → V → Bool
  | .non, .non => true
  | .bl a, .bl b => a == b
  | .bl a, .int b => (if a then 1 else 0) == b
  | .int a, .bl b => a == (if b then 1 else 0)
  | .int a, .int b => a == b
  | .str a, .str b => a == b
  | _, _ => false
theorem eqAt_V {A : Around} {s : Shared} {y x : V} {u v : Value} (ry : RelV y u) (rx : RelV x v) (fy : flatV y = true) (fx : flatV x = true) : SeqAt.EqAt A s u v (eqV y x) := by
  cases y with
  | non =>
    cases ry
    cases x with
    | non => cases rx; exact SeqAt.EqAt.same _
    | bl b => cases rx; exact SeqAt.EqAt.none_bool b
    | int b => obtain ⟨t, rfl⟩ := rx; exact SeqAt.EqAt.none_int b t
    | str b => obtain ⟨t, rfl⟩ := rx; exact SeqAt.EqAt.none_str b t
    | _ => exact absurd (show false = true from fx) Bool.false_ne_true
  | bl a =>
    cases ry
    cases x with
    | non => cases rx; exact SeqAt.EqAt.bool_none a
    | bl b => cases rx; exact SeqAt.EqAt.bool_bool a b
    | int b => obtain ⟨t, rfl⟩ := rx; exact SeqAt.EqAt.bool_int a b t
    | str b => obtain ⟨t, rfl⟩ := rx; exact SeqAt.EqAt.bool_str a b t
    | _ => exact absurd (show false = true from fx) Bool.false_ne_true
  | int a =>
    obtain ⟨t', rfl⟩ := ry
    cases x with
    | non => cases rx; exact SeqAt.EqAt.int_none a t'
    | bl b => cases rx; exact SeqAt.EqAt.int_bool a t' b
    | int b => obtain ⟨t, rfl⟩ := rx; exact SeqAt.EqAt.int_int a t' b t
    | str b => obtain ⟨t, rfl⟩ := rx; exact SeqAt.EqAt.int_str a t' b t
    | _ => exact absurd (show false = true from fx) Bool.false_ne_true
  | str a =>
    obtain ⟨t', rfl⟩ := ry
    cases x with
    | non => cases rx; exact SeqAt.EqAt.str_none a t'
    | bl b => cases rx; exact SeqAt.EqAt.str_bool a t' b
    | int b => obtain ⟨t, rfl⟩ := rx; exact SeqAt.EqAt.str_int a t' b t
    | str b => obtain ⟨t, rfl⟩ := rx; exact SeqAt.EqAt.str_str a t' b t
    | _ => exact absurd (show false = true from fx) Bool.false_ne_true
  | _ => exact absurd (show false = true from fy) Bool.false_ne_true
/-- the items' answers, read off the values (a value's own answer does not lean on its token) -/
def eqU (x : V) (u : Value) : Bool := match u with
  | .none => eqV .non x
  | .bool b => eqV (.bl b) x
  | .int i _ => eqV (.int i) x
  | .str z _ => eqV (.str z) x
  | _ => false
theorem eqU_of {x y : V} {u : Value} (r : RelV y u) (f : flatV y = true) : eqU x u = eqV y x := by
  cases y with
  | non => cases r; rfl
  | bl b => cases r; rfl
  | int i => obtain ⟨t, rfl⟩ := r; rfl
  | str z => obtain ⟨t, rfl⟩ := r; rfl
  | _ => exact absurd (show false = true from f) Bool.false_ne_true
theorem any_eqU {x : V} : ∀ {xs : List V} {us : List Value}, Vals xs us → xs.all flatV = true → us.any (eqU x) = xs.any fun y => eqV y x
  | _, _, .nil, _ => rfl
  | y :: xs, u :: us, .cons r t, f => by
    rw [List.all_cons, Bool.and_eq_true] at f
    rw [List.any_cons, List.any_cons, eqU_of r f.1, any_eqU t f.2]
theorem mem_eqAt {A : Around} {s : Shared} {x : V} {v : Value} (rx : RelV x v) (fx : flatV x = true) : ∀ {xs : List V} {us : List Value}, Vals xs us → xs.all flatV = true → ∀ u ∈ us, SeqAt.EqAt A s u v (eqU x u)
  | _, _, .nil, _ => fun u hu => by cases hu
  | y :: xs, u :: us, .cons r t, f => fun u' hu => by
    rw [List.all_cons, Bool.and_eq_true] at f
    rcases List.mem_cons.mp hu with rfl | hu
    · rw [eqU_of r f.1]; exact eqAt_V r rx f.1 fx
    · exact mem_eqAt rx fx t f.2 u' hu
def inV (x : V) (xs : List V) : Bool := xs.any fun y => eqV y x
/-- x in a list or tuple of flat items -/
def rIn (K : PySem.W.Frag) (neg : Bool) : R2 := fun x y H Q => ∃ p xs, y = .ref p ∧ (SqL K H p xs ∨ SqT K H p xs) ∧ flatV x = true ∧ xs.all flatV = true ∧ Q (.bl (if neg then !inV x xs else inV x xs)) H
theorem op_in_seq : OpR X (compareOp .In) (rIn X.K false) := by
  intro pins s σ H x y v u Q I rx ry h
  obtain ⟨p, xs, rfl, hq, fx, fs, q⟩ := h
  cases ry
  rcases hq with hq | hq
  · obtain ⟨its, r, pl, hz⟩ := I.list hq
    refine SeqAt.in_listAt (eqU x) pl.isList (fun w hw => mem_eqAt rx fx r fs w (by simpa using hw)) ⟨.bl _, H, I, rfl, ?_⟩
    rw [show its.toArray.any (eqU x) = its.any (eqU x) by simp, any_eqU r fs]
    exact q
  · obtain ⟨its, r, pl, hz⟩ := I.tuple hq
    refine SeqAt.in_tupleAt (eqU x) pl (fun w hw => mem_eqAt rx fx r fs w (by simpa using hw)) ⟨.bl _, H, I, rfl, ?_⟩
    rw [show its.toArray.any (eqU x) = its.any (eqU x) by simp, any_eqU r fs]
    exact q
theorem op_notIn_seq : OpR X (compareOp .NotIn) (rIn X.K true) := by
  intro pins s σ H x y v u Q I rx ry h
  obtain ⟨p, xs, rfl, hq, fx, fs, q⟩ := h
  cases ry
  rcases hq with hq | hq
  · obtain ⟨its, r, pl, hz⟩ := I.list hq
    refine SeqAt.notIn_listAt (eqU x) pl.isList (fun w hw => mem_eqAt rx fx r fs w (by simpa using hw)) ⟨.bl _, H, I, rfl, ?_⟩
    rw [show its.toArray.any (eqU x) = its.any (eqU x) by simp, any_eqU r fs]
    exact q
  · obtain ⟨its, r, pl, hz⟩ := I.tuple hq
    refine SeqAt.notIn_tupleAt (eqU x) pl (fun w hw => mem_eqAt rx fx r fs w (by simpa using hw)) ⟨.bl _, H, I, rfl, ?_⟩
    rw [show its.toArray.any (eqU x) = its.any (eqU x) by simp, any_eqU r fs]
    exact q
theorem op_notIn_str : OpR X (compareOp .NotIn) (fun x y H Q => ∃ i j, x = .str i ∧ y = .str j ∧ Q (.bl (!(!(Builtin.Str.occurrences j i 0 j.length 1).isEmpty))) H) := by
  intro pins s σ H x y v u Q I rx ry h
  obtain ⟨i, j, rfl, rfl, q⟩ := h
  obtain ⟨t, rfl⟩ := rx
  obtain ⟨t', rfl⟩ := ry
  exact notIn_str ⟨.bl _, H, I, rfl, q⟩

/-! ### len, list(x), tuple(x) of any list or tuple that is read -/
theorem call_len_seq : CallR X (.builtin "len") (fun xs H Q => ∃ p ys, xs = [.ref p] ∧ (SqL X.K H p ys ∨ SqT X.K H p ys) ∧ Q (.int ys.length) H) := by
  intro pins s σ H xs us Q I r h
  obtain ⟨p, ys, rfl, hq, q⟩ := h
  obtain ⟨u, rfl, rx⟩ := vals1 r
  cases rx
  have hn := line63
  rcases hq with hq | hq
  · obtain ⟨its, r', pl, hz⟩ := I.list hq
    have hlen := r'.length
    exact Calls.call_len_list pl.isList (by simp only [List.size_toArray] <;> omega) ⟨.int ys.length, H, I.tok _, ⟨s.toks + 1, by rw [List.size_toArray, hlen]⟩, q⟩
  · obtain ⟨its, r', pl, hz⟩ := I.tuple hq
    have hlen := r'.length
    exact len_tuple pl (by simp only [List.size_toArray] <;> omega) ⟨.int ys.length, H, I.tok _, ⟨s.toks + 1, by rw [List.size_toArray, hlen]⟩, q⟩
theorem call_len_str : CallR X (.builtin "len") (fun xs H Q => ∃ z, xs = [.str z] ∧ z.length ≤ sizeLine ∧ Q (.int z.length) H) := by
  intro pins s σ H xs us Q I r h
  obtain ⟨z, rfl, hz, q⟩ := h
  obtain ⟨u, rfl, t, rfl⟩ := vals1 r
  have hn := line63
  exact len_str (by omega) ⟨.int z.length, H, I.tok _, ⟨_, rfl⟩, q⟩
theorem CallR.or {f : Value} {r r' : List V → Hp → VK → Prop} (h : CallR X f r) (h' : CallR X f r') : CallR X f (fun xs H Q => r xs H Q ∨ r' xs H Q) := by
  intro pins s σ H xs us Q I rs q
  rcases q with q | q
  · exact h pins s σ H xs us Q I rs q
  · exact h' pins s σ H xs us Q I rs q
theorem call_list_of : CallR X (.type "list") (fun xs H Q => ∃ p ys, xs = [.ref p] ∧ (SqL X.K H p ys ∨ SqT X.K H p ys) ∧ ∀ l, H l = none → Q (.ref l) (upd H l (.lst ys))) := by
  intro pins s σ H xs us Q I r h
  obtain ⟨p, ys, rfl, hq, q⟩ := h
  obtain ⟨u, rfl, rx⟩ := vals1 r
  cases rx
  have fin : ∀ (its : List Value), Vals ys its → ys.length ≤ sizeLine → ∀ (h' : Heap) (c' : Nat), (∀ b o', s.heap.get? b = some o' → h'.get? b = some o') →
      h'.get? s.heap.objs.size = some { cls := .type "list", dict := none, data := .seq its.toArray c', slots := #[] } → EP X pins σ Q (.ref s.heap.objs.size) { s with heap := h' } := fun its r' hz h' c' kp e =>
    ⟨.ref s.heap.objs.size, _, I.laid (t' := s.toks) kp (Nat.le_refl _) (show ObjOk X.prog X.w _ h' _ (.lst ys) from ⟨hz, its, c', r', e⟩), rfl, q _ (I.hok.fresh (Nat.le_refl _))⟩
  rcases hq with hq | hq
  · obtain ⟨its, r', pl, hz⟩ := I.list hq
    have hlen := r'.length
    obtain ⟨o, ho, hc, n, hd⟩ := pl.isList
    exact call_list_seq p (.inl rfl) ho hc hd (fun h' c' kp e => fin its r' hz h' c' kp e) (by simp only [List.size_toArray] <;> omega)
  · obtain ⟨its, r', pl, hz⟩ := I.tuple hq
    have hlen := r'.length
    obtain ⟨o, ho, hc, n, hd⟩ := pl
    exact call_list_seq p (.inr rfl) ho hc hd (fun h' c' kp e => fin its r' hz h' c' kp e) (by simp only [List.size_toArray] <;> omega)
theorem call_tuple_of : CallR X (.type "tuple") (fun xs H Q => ∃ p ys, xs = [.ref p] ∧ ((SqL X.K H p ys ∧ ∀ l, H l = none → Q (.ref l) (upd H l (.tup ys))) ∨ (SqT X.K H p ys ∧ Q (.ref p) H))) := by
  intro pins s σ H xs us Q I r h
  obtain ⟨p, ys, rfl, h⟩ := h
  obtain ⟨u, rfl, rx⟩ := vals1 r
  cases rx
  rcases h with ⟨hq, q⟩ | ⟨hq, q⟩
  · obtain ⟨its, r', pl, hz⟩ := I.list hq
    have hlen := r'.length
    refine call_tuple_list pl.isList (fun h' kp => ?_) (by simp only [List.size_toArray] <;> omega)
    have I1 : Inv X pins σ H { s with heap := h' } := I.kept (t' := s.toks) kp
    have I2 : Inv X pins σ (upd H h'.objs.size (.tup ys)) { s with heap := h'.push { cls := .type "tuple", data := .seq its.toArray } } :=
      I1.laid (t' := s.toks) (fun b o e => Heap.get?_push_of_some _ e) (Nat.le_refl _) (show ObjOk X.prog X.w _ _ _ (.tup ys) from ⟨hz, its, r', IsTup.new _ _⟩)
    exact ⟨.ref h'.objs.size, _, I2, rfl, q _ (I1.hok.fresh (Nat.le_refl _))⟩
  · obtain ⟨its, r', pl, hz⟩ := I.tuple hq
    exact call_tuple_same pl ⟨.ref p, H, I, rfl, q⟩

/-! ### the call of a builtin's method: o.m(..) -/
/-- the value is of that builtin type -/
def tyV (K : PySem.W.Frag) (T : String) (x : V) (H : Hp) : Prop := match x with
  | .str _ => T = "str"
  | .int _ => T = "int"
  | .ref p => (T = "list" ∧ ∃ xs, SqL K H p xs) ∨ (T = "tuple" ∧ ∃ o, K.lookup p = some o ∧ o.cls = .type "tuple" ∧ o.dict = none) ∨
      (T = "dict" ∧ ((∃ kvs, H p = some (.dK kvs)) ∨ ∃ kvs, H p = some (.dT kvs))) ∨ (T = "set" ∧ ∃ S n, H p = some (.set S n))
  | _ => False
theorem tyV_is {pins : List (Addr × Obj)} {σ : St} {H : Hp} {s : Shared} {T : String} {x : V} {v : Value} (I : Inv X pins σ H s) (r : RelV x v) (ty : tyV X.K T x H) :
    s.TypeIs v T ∧ ∀ a, v = .ref a → ∃ ob, s.heap.get? a = some ob ∧ ob.dict = none := by
  cases x with
  | str z =>
    obtain ⟨t, rfl⟩ := r
    cases (show T = "str" from ty)
    exact ⟨typeIs_str s z t, fun _ e => nomatch e⟩
  | int i =>
    obtain ⟨t, rfl⟩ := r
    cases (show T = "int" from ty)
    exact ⟨typeIs_int s i t, fun _ e => nomatch e⟩
  | ref p =>
    cases r
    rcases ty with ⟨rfl, xs, hq⟩ | ⟨rfl, o, hk, hc, hd⟩ | ⟨rfl, hk⟩ | ⟨rfl, S, n, hk⟩
    · obtain ⟨its, _, pl, _⟩ := I.list hq
      refine ⟨pl.isList.typeIs, fun a e => ?_⟩
      cases e
      obtain ⟨o, n, e, c, hd, _⟩ := pl
      exact ⟨o, e, hd⟩
    · refine ⟨⟨o, I.kIn p o hk, hc⟩, fun a e => ?_⟩
      cases e
      exact ⟨o, I.kIn _ o hk, hd⟩
    · have z : ∃ o, s.heap.get? p = some o ∧ o.ExactDict := by
        rcases hk with ⟨kvs, hk⟩ | ⟨kvs, hk⟩
        · obtain ⟨_, _, _, _, o, _, _, e, ex, _⟩ := I.hok p _ hk
          exact ⟨o, e, ex⟩
        · obtain ⟨_, _, _, _, o, _, _, e, ex, _⟩ := I.hok p _ hk
          exact ⟨o, e, ex⟩
      obtain ⟨o, e, ex⟩ := z
      refine ⟨⟨o, e, ex.1⟩, fun a e2 => ?_⟩
      cases e2
      exact ⟨o, e, ex.2.1⟩
    · obtain ⟨o, _, _, _, e, ex, _⟩ := I.hok p _ hk
      refine ⟨⟨o, e, ex.1⟩, fun a e2 => ?_⟩
      cases e2
      exact ⟨o, e, ex.2.1⟩
  | _ => exact False.elim ty
def tBM0 (K : PySem.W.Frag) (T : String) (r : V → List V → Hp → VK → Prop) (to : TE) : TE := fun σ H Q => to σ H fun x H1 => tyV K T x H1 ∧ r x [] H1 Q
def tBM (K : PySem.W.Frag) (T : String) (r : V → List V → Hp → VK → Prop) (to : TE) (t : TA) : TE := fun σ H Q => to σ H fun x H1 => tyV K T x H1 ∧ t σ H1 fun xs H2 => r x xs H2 Q
variable {o e : Expr} {es : List Expr} {to : TE} {t : TA} {name : Str} {apos cpos : Pos} {T id : String} {r : V → List V → Hp → VK → Prop}
theorem pe_bm0 (pa : PlainAttrs T) (slot : Slot T name id) (hty : typeOf (.builtin id) = pure (.type "method_descriptor")) (hm : MtR X id r) (ho : PE X o to)
    (hbase : attributeBase o name X.env (eval o X.env) = eval o X.env := by rfl) (hline : (apos.endLine == cpos.line) = true := by rfl) : PE X (.Call (.Attribute o name apos) [] [] cpos) (tBM0 X.K T r to) := by
  intro pins s σ H Q I h
  refine wpAny_Call_method0_late hbase hline (thn (ho pins s σ H _ I h) fun v s1 ⟨x, H1, I1, r1, ty, q1⟩ => ?_)
  obtain ⟨h1, h2⟩ := tyV_is I1 r1 ty
  exact ⟨T, id, pa, slot, hty, h1, h2, Calls.callWith_builtin rfl (PySem.evalArgs_none (hm pins s1 σ H1 x [] v [] Q I1 r1 .nil q1))⟩
theorem pe_bm (pa : PlainAttrs T) (slot : Slot T name id) (hty : typeOf (.builtin id) = pure (.type "method_descriptor")) (hm : MtR X id r) (ho : PE X o to) (ha : PA X (e :: es) t)
    (hbase : attributeBase o name X.env (eval o X.env) = eval o X.env := by rfl)
    (hfew : ((backTo cpos (starEach (e :: es) X.env)).all (fun x => !x.1) && (backToKw cpos (keywordEach [] X.env)).all (fun x => x.1.isSome)
      && decide ((e :: es).length + ([] : List Keyword).length + (if ([] : List Keyword).isEmpty then 0 else 1) < 30)) = true := by rfl)
    (hline : (apos.endLine == cpos.line) = true := by rfl) (hs : starEach (e :: es) X.env = (false, eval e X.env) :: starEach es X.env := by rfl) (hplain : (backTo cpos (starEach es X.env)).any (·.1) = false := by rfl) :
    PE X (.Call (.Attribute o name apos) (e :: es) [] cpos) (tBM X.K T r to t) := by
  intro pins s σ H Q I h
  refine wpAny_Call_method_late hbase hfew hline rfl (thn (ho pins s σ H _ I h) fun v s1 ⟨x, H1, I1, r1, ty, q1⟩ => ?_)
  obtain ⟨h1, h2⟩ := tyV_is I1 r1 ty
  refine ⟨T, id, pa, slot, hty, h1, h2, ?_⟩
  have hA := ha cpos pins s1 σ H1 _ I1 q1
  rw [hs] at hA ⊢
  refine Calls.callWith_builtin (by show (false || (backTo cpos (starEach es X.env)).any (·.1)) = false; rw [hplain] <;> rfl) (Calls.evalArgs_plain ?_)
  exact thn hA fun us s2 ⟨vs, H2, I2, r2, q2⟩ => hm pins s2 σ H2 x vs v us Q I2 r1 r2 q2
/- xs.append(e), list.index on a module's tuple .. are MtR facts of 06m -/
end
end L2

namespace L2
open PySem PySem.Spec PyProof.Rows

def MtM (X : Cx) (id : String) (r : V → List V → Hp → VK → Prop) : Prop :=
  ∀ (pins : List (Addr × Obj)) (s : Shared) (σ : St) (H : Hp) (x : V) (xs : List V) (v : Value) (us : List Value) (Q : VK), Inv X pins σ H s → RelV x v → Vals xs us → r x xs H Q →
    wpAny (model X.prog X.w) X.A (call (.builtin id) (v :: us)) (EP X pins σ Q) X.xe s

/-! ### lists of values -/
theorem Vals.one : ∀ {x : V} {us : List Value}, Vals [x] us → ∃ u, us = [u] ∧ RelV x u
  | _, _, .cons r .nil => ⟨_, rfl, r⟩
theorem Vals.two : ∀ {x y : V} {us : List Value}, Vals [x, y] us → ∃ u v, us = [u, v] ∧ RelV x u ∧ RelV y v
  | _, _, _, .cons r (.cons q .nil) => ⟨_, _, rfl, r, q⟩
theorem Vals.zero : ∀ {us : List Value}, Vals [] us → us = []
  | _, .nil => rfl
theorem Vals.dropLast {xs : List V} {us : List Value} (h : Vals xs us) : Vals xs.dropLast us.dropLast := by
  induction h with
  | nil => exact .nil
  | cons r t ih =>
    cases t with
    | nil => exact .nil
    | cons q t' => exact .cons r ih
theorem Vals.eraseIdx : ∀ {xs : List V} {us : List Value} (i : Nat), Vals xs us → Vals (xs.eraseIdx i) (us.eraseIdx i)
  | _, _, _, .nil => .nil
  | _, _, 0, .cons _ t => t
  | _, _, i + 1, .cons r t => .cons r (Vals.eraseIdx i t)
theorem Vals.reverse {xs : List V} {us : List Value} (h : Vals xs us) : Vals xs.reverse us.reverse := by
  induction h with
  | nil => exact .nil
  | cons r t ih => rw [List.reverse_cons, List.reverse_cons]; exact Vals.append ih (.cons r .nil)
theorem Vals.rep {xs : List V} {us : List Value} (h : Vals xs us) : ∀ k : Nat, Vals (List.replicate k xs).flatten (List.replicate k us).flatten
  | 0 => .nil
  | k + 1 => by
    rw [List.replicate_succ, List.replicate_succ, List.flatten_cons, List.flatten_cons]
    exact Vals.append h (Vals.rep h k)
theorem erase_last {α : Type} (l : List α) : l.eraseIdx (l.length - 1) = l.dropLast := by
  induction l with
  | nil => rfl
  | cons a r ih =>
    cases r with
    | nil => rfl
    | cons b r =>
      have e : (a :: b :: r).length - 1 = ((b :: r).length - 1) + 1 := by
        have h1 : (a :: b :: r).length = r.length + 2 := rfl
        have h2 : (b :: r).length = r.length + 1 := rfl
        omega
      rw [e, List.eraseIdx_cons_succ, ih]
      all_goals rfl
theorem len_erase {α : Type} : ∀ (l : List α) (i : Nat), (l.eraseIdx i).length ≤ l.length
  | [], _ => Nat.le_refl _
  | _ :: _, 0 => Nat.le_succ _
  | _ :: r, i + 1 => Nat.succ_le_succ (len_erase r i)
theorem foldl_rep (its : List Value) : ∀ (k : Nat) (acc : List Value),
    List.foldl (fun x1 x2 => x1 ++ x2) acc.toArray (List.replicate k its.toArray) = (acc ++ (List.replicate k its).flatten).toArray
  | 0, acc => by simp
  | k + 1, acc => by
    have e : acc.toArray ++ its.toArray = (acc ++ its).toArray := by simp
    have e2 : (acc ++ its) ++ (List.replicate k its).flatten = acc ++ (List.replicate (k + 1) its).flatten := by
      rw [List.replicate_succ, List.flatten_cons, List.append_assoc]
    rw [← e2, ← foldl_rep its k (acc ++ its), ← e, List.replicate_succ, List.foldl_cons]

section
variable {X : Cx} {pins : List (Addr × Obj)} {σ : St} {H : Hp} {s : Shared} {l b : Addr} {xs ys zs : List V}

/-! ### the two steps: a tracked list is rewritten, a new list is laid -/
theorem Inv.lset {its its' : List Value} {n : Nat} {f : Array Value → Array Value} {t' : Nat} (I : Inv X pins σ H s) (hH : H l = some (.lst xs))
    (e : s.heap.get? l = some { cls := .type "list", data := .seq its.toArray n }) (hf : f its.toArray = its'.toArray) (hv : Vals ys its') (hz : ys.length ≤ sizeLine) :
    Inv X pins σ (upd H l (.lst ys)) { s with heap := s.heap.update l (Obj.mapSeq f), toks := t' } := by
  have q := PySem.IsL.update e f
  rw [hf] at q
  refine I.write (x := l) (e := l) (by rw [hH]; exact trivial) (.inl rfl) (fun b' u hb hu => (Heap.get?_update_other s.heap (Obj.mapSeq f) (Ne.symm hb)).trans hu) ⟨_, q⟩ ?_
  exact ⟨hz, its', _, hv, q⟩
theorem Inv.lnew {its : List Value} {t' : Nat} (I : Inv X pins σ H s) (hv : Vals ys its) (hz : ys.length ≤ sizeLine) :
    Inv X pins σ (upd H s.heap.objs.size (.lst ys)) { s with heap := s.heap.push { cls := .type "list", data := .seq its.toArray }, toks := t' } :=
  I.laid (fun _ _ q => Heap.get?_push_of_some _ q) (Nat.le_refl _) ⟨hz, its, 0, hv, Heap.get?_push_size _ rfl⟩
theorem Inv.fresh (I : Inv X pins σ H s) : H s.heap.objs.size = none := I.hok.fresh (Nat.le_refl _)
theorem Inv.lstM (I : Inv X pins σ H s) (hH : H l = some (.lst xs)) : xs.length ≤ sizeLine ∧ ∃ (its : List Value) (n : Nat), Vals xs its ∧ xs.length = its.length ∧ s.heap.get? l = some { cls := .type "list", data := .seq its.toArray n } := by
  obtain ⟨z, its, n, r, e⟩ := I.hok l _ hH
  exact ⟨z, its, n, r, r.length, e⟩

theorem notLongL {n : Nat} (h : n ≤ sizeLine) : Builtin.List.listTooLong n = false := by
  unfold Builtin.List.listTooLong
  exact decide_eq_false (by omega)
end

section
variable {X : Cx}

/-! ### methods -/
def rAppend : V → List V → Hp → VK → Prop := fun x vs H Q => ∃ l xs y, x = .ref l ∧ vs = [y] ∧ H l = some (.lst xs) ∧ xs.length < sizeLine ∧ Q .non (upd H l (.lst (xs ++ [y])))
theorem mt_append : MtM X "list.append" rAppend := by
  intro pins s σ H x vs v us Q I rx rv h
  obtain ⟨l, xs, y, rfl, rfl, hH, hz, q⟩ := h
  cases rx
  obtain ⟨u, rfl, ru⟩ := rv.one
  obtain ⟨z, its, n, r, hl, e⟩ := I.lstM hH
  refine call_meets F.slot_list_append ⟨_, e, rfl⟩ F.entry_list_append (F.args_list_append_2 _ _) (PySem.list_append l its.toArray n u (by rw [List.size_toArray]; omega)) ⟨e, ?_⟩
  refine ⟨.non, _, I.lset (its' := its ++ [u]) hH e (by simp) (r.append (.cons ru .nil)) ?_, rfl, q⟩
  rw [List.length_append, List.length_singleton]
  omega

def rExtend : V → List V → Hp → VK → Prop := fun x vs H Q => ∃ l b xs zs, x = .ref l ∧ vs = [.ref b] ∧ H l = some (.lst xs) ∧ H b = some (.lst zs) ∧ xs.length + zs.length ≤ sizeLine ∧ Q .non (upd H l (.lst (xs ++ zs)))
theorem mt_extend : MtM X "list.extend" rExtend := by
  intro pins s σ H x vs v us Q I rx rv h
  obtain ⟨l, b, xs, zs, rfl, rfl, hH, hB, hz, q⟩ := h
  cases rx
  obtain ⟨u, rfl, ru⟩ := rv.one
  cases ru
  obtain ⟨z, its, n, r, hl, e⟩ := I.lstM hH
  obtain ⟨z2, its2, n2, r2, hl2, e2⟩ := I.lstM hB
  have hsz : its.toArray.size + its2.toArray.size ≤ sizeLine := by rw [List.size_toArray, List.size_toArray]; omega
  have hlong : ¬ (!its.toArray.isEmpty && Builtin.List.listTooLong (its.toArray.size + its2.toArray.size)) = true := by
    rw [notLongL hsz, Bool.and_false]
    exact Bool.false_ne_true
  refine call_meets F.slot_list_extend ⟨_, e, rfl⟩ F.entry_list_extend (F.args_list_extend_2 _ _)
    (AutoSeq1.list_extend_list_list_0 l its.toArray n b its2.toArray n2 hlong (by rw [List.size_toArray]; omega) (by omega)) ⟨e, e2, ?_⟩
  refine ⟨.non, _, I.lset (its' := its ++ its2) hH e (by simp) (r.append r2) ?_, rfl, q⟩
  rw [List.length_append]
  omega

def rPop : V → List V → Hp → VK → Prop := fun x vs H Q => ∃ l xs y, x = .ref l ∧ vs = [] ∧ H l = some (.lst xs) ∧ xs[xs.length - 1]? = some y ∧ Q y (upd H l (.lst xs.dropLast))
theorem mt_pop : MtM X "list.pop" rPop := by
  intro pins s σ H x vs v us Q I rx rv h
  obtain ⟨l, xs, y, rfl, rfl, hH, hy, q⟩ := h
  cases rx
  have hus := rv.zero
  subst hus
  obtain ⟨z, its, n, r, hl, e⟩ := I.lstM hH
  obtain ⟨u, hu, ru⟩ := r.get hy
  have hy' : its.toArray[its.toArray.size - 1]? = some u := by
    show its.toArray[its.length - 1]? = some u
    rw [← Array.getElem?_toList, ← hl]
    exact hu
  refine call_meets F.slot_list_pop ⟨_, e, rfl⟩ F.entry_list_pop (F.args_list_pop_1 _) (MeetsSeq.list_pop_last l its.toArray n u hy' (by rw [List.size_toArray]; omega)) ⟨e, ?_⟩
  refine ⟨y, _, I.lset (its' := its.dropLast) hH e ?_ r.dropLast ?_, ru, q⟩
  · show its.toArray.eraseIdxIfInBounds (its.toArray.size - 1) = its.dropLast.toArray
    rw [List.size_toArray, List.eraseIdxIfInBounds_toArray, erase_last]
  · rw [List.length_dropLast]
    omega

def rPopAt : V → List V → Hp → VK → Prop := fun x vs H Q => ∃ l xs i k y, x = .ref l ∧ vs = [.int i] ∧ H l = some (.lst xs) ∧ -(2 ^ 63) ≤ i ∧ i < 2 ^ 63 ∧ seqIndex? i xs.length = some k ∧ xs[k]? = some y ∧ Q y (upd H l (.lst (xs.eraseIdx k)))
theorem mt_popAt : MtM X "list.pop" rPopAt := by
  intro pins s σ H x vs v us Q I rx rv h
  obtain ⟨l, xs, i, k, y, rfl, rfl, hH, h1, h2, hk, hy, q⟩ := h
  cases rx
  obtain ⟨u, rfl, ru⟩ := rv.one
  obtain ⟨t, rfl⟩ := ru
  obtain ⟨z, its, n, r, hl, e⟩ := I.lstM hH
  obtain ⟨w, hw, rw'⟩ := r.get hy
  refine call_meets F.slot_list_pop ⟨_, e, rfl⟩ F.entry_list_pop (F.args_list_pop_2 _ _)
    (MeetsSeq.list_pop_at l its.toArray n i t k w (fitsIndex_both h1 h2) (by rw [List.size_toArray, ← hl]; exact hk) (by rw [← Array.getElem?_toList]; exact hw) (by rw [List.size_toArray]; omega)) ⟨e, ?_⟩
  refine ⟨y, _, I.lset (its' := its.eraseIdx k) hH e ?_ (r.eraseIdx k) ?_, rw', q⟩
  · show its.toArray.eraseIdxIfInBounds k = (its.eraseIdx k).toArray
    rw [List.eraseIdxIfInBounds_toArray]
  · have := len_erase xs k
    omega

def rReverse : V → List V → Hp → VK → Prop := fun x vs H Q => ∃ l xs, x = .ref l ∧ vs = [] ∧ H l = some (.lst xs) ∧ Q .non (upd H l (.lst xs.reverse))
theorem mt_reverse : MtM X "list.reverse" rReverse := by
  intro pins s σ H x vs v us Q I rx rv h
  obtain ⟨l, xs, rfl, rfl, hH, q⟩ := h
  cases rx
  have hus := rv.zero
  subst hus
  obtain ⟨z, its, n, r, hl, e⟩ := I.lstM hH
  refine call_meets F.slot_list_reverse ⟨_, e, rfl⟩ F.entry_list_reverse (F.args_list_reverse_1 _) (AutoSeq1.list_reverse_list_0 l its.toArray n (by rw [List.size_toArray]; omega)) ⟨e, ?_⟩
  refine ⟨.non, _, I.lset (its' := its.reverse) hH e (by simp) r.reverse ?_, rfl, q⟩
  rw [List.length_reverse]
  omega

def rClear : V → List V → Hp → VK → Prop := fun x vs H Q => ∃ l xs, x = .ref l ∧ vs = [] ∧ H l = some (.lst xs) ∧ Q .non (upd H l (.lst []))
theorem mt_clear : MtM X "list.clear" rClear := by
  intro pins s σ H x vs v us Q I rx rv h
  obtain ⟨l, xs, rfl, rfl, hH, q⟩ := h
  cases rx
  have hus := rv.zero
  subst hus
  obtain ⟨z, its, n, r, hl, e⟩ := I.lstM hH
  refine call_meets F.slot_list_clear ⟨_, e, rfl⟩ F.entry_list_clear (F.args_list_clear_1 _) (AutoSeq1.list_clear_list_0 l its.toArray n (by rw [List.size_toArray]; omega)) ⟨e, ?_⟩
  exact ⟨.non, _, I.lset (its' := []) (ys := []) hH e rfl .nil (Nat.zero_le _), rfl, q⟩

/-! ### list + list, list += list, list * int -/
def rCat : R2 := fun x y H Q => ∃ l b xs zs, x = .ref l ∧ y = .ref b ∧ H l = some (.lst xs) ∧ H b = some (.lst zs) ∧ xs.length + zs.length ≤ sizeLine ∧ ∀ p, H p = none → Q (.ref p) (upd H p (.lst (xs ++ zs)))
theorem op_cat : OpR X (binaryOp .Add) rCat := by
  intro pins s σ H x y v u Q I rx ry h
  obtain ⟨l, b, xs, zs, rfl, rfl, hH, hB, hz, q⟩ := h
  cases rx
  cases ry
  obtain ⟨z, its, n, r, hl, e⟩ := I.lstM hH
  obtain ⟨z2, its2, n2, r2, hl2, e2⟩ := I.lstM hB
  refine PySem.P.add_list e e2 ?_ (by rw [List.size_toArray, List.size_toArray]; omega)
  have ea : its.toArray ++ its2.toArray = (its ++ its2).toArray := by simp
  rw [ea]
  exact ⟨.ref _, _, I.lnew (t' := s.toks) (r.append r2) (by rw [List.length_append]; omega), rfl, q _ I.fresh⟩
/-- a list times an int (a negative one is nothing) -/
def rRep : R2 := fun x y H Q => ∃ l k xs, x = .ref l ∧ y = .int k ∧ H l = some (.lst xs) ∧ -(2 ^ 63) ≤ k ∧ k < 2 ^ 63 ∧ xs.length * k.toNat ≤ sizeLine ∧
  ∀ p, H p = none → Q (.ref p) (upd H p (.lst (List.replicate k.toNat xs).flatten))
theorem len_rep {α : Type} (xs : List α) (k : Nat) : (List.replicate k xs).flatten.length = k * xs.length := by
  induction k with
  | zero => simp
  | succ k ih => rw [List.replicate_succ, List.flatten_cons, List.length_append, ih, Nat.succ_mul, Nat.add_comm]
theorem op_rep : OpR X (binaryOp .Mult) rRep := by
  intro pins s σ H x y v u Q I rx ry h
  obtain ⟨l, k, xs, rfl, rfl, hH, h1, h2, hz, q⟩ := h
  cases rx
  obtain ⟨t, rfl⟩ := ry
  obtain ⟨z, its, n, r, hl, e⟩ := I.lstM hH
  have hlen : its.toArray.size * k.toNat ≤ sizeLine := by rw [List.size_toArray, ← hl]; exact hz
  have hcap : ¬ its.toArray.size * k.toNat > (2 ^ 63 - 1) / 8 := by
    have : (sizeLine : Nat) ≤ (2 ^ 63 - 1) / 8 := by decide
    omega
  have hfit : ¬ (!Builtin.List.listFitsIndex k) = true := by
    rw [fitsIndex_both h1 h2]
    exact Bool.false_ne_true
  have hlong : ¬ Builtin.List.listTooLong (its.toArray.size * k.toNat) = true := by
    rw [notLongL hlen]
    exact Bool.false_ne_true
  have hnew : List.foldl (fun x1 x2 => x1 ++ x2) #[] (List.replicate (if its.toArray.isEmpty = true then 0 else k.toNat) its.toArray) = (List.replicate k.toNat its).flatten.toArray := by
    have f0 : ∀ m : Nat, List.foldl (fun x1 x2 => x1 ++ x2) #[] (List.replicate m its.toArray) = (List.replicate m its).flatten.toArray := fun m => by
      have := foldl_rep its m []
      rw [List.nil_append] at this
      exact this
    rw [f0]
    cases its with
    | nil => simp
    | cons a r' => rw [if_neg (by simp)]
  refine wpAny_binaryOp_repeat_ref (T := "list") (U := "int") (by decide) ⟨_, e, rfl⟩ (fun s' => typeIs_int s' k t) noFill_list_mul F.fills_int_mul F.slot_int_rmul repeat_list F.slot_int_index.lookup
    (call_meets F.slot_int_rmul (typeIs_int s k t) F.entry_int_rmul (F.args_int_rmul_2 _ _) (int___rmul___int_list k t l its.toArray n)
      ⟨e, rfl, ⟨_, e, rfl⟩, call_meets F.slot_list_mul ⟨_, e, rfl⟩ F.entry_list_mul (F.args_list_mul_2 _ _) (AutoListH.list___mul___list_int_3 l its.toArray n k t hfit hcap hlong) ⟨e, ?_⟩⟩)
  rw [hnew]
  exact ⟨.ref _, _, I.lnew (t' := s.toks) (r.rep k.toNat) (by rw [len_rep, Nat.mul_comm]; exact hz), rfl, q _ I.fresh⟩

/-! ### del xs[i] -/
theorem del_list {pins : List (Addr × Obj)} {s : Shared} {σ : St} {H : Hp} {l : Addr} {xs : List V} {i : Int} {t : Tok} {k : Nat} {Q : Unit → Shared → Prop} (I : Inv X pins σ H s) (hH : H l = some (.lst xs))
    (h1 : -(2 ^ 63) ≤ i) (h2 : i < 2 ^ 63) (hk : seqIndex? i xs.length = some k) (h : ∀ s', Inv X pins σ (upd H l (.lst (xs.eraseIdx k))) s' → Q () s') :
    wpAny (model X.prog X.w) X.A (delItem (.ref l) (.int i t)) Q X.xe s := by
  obtain ⟨z, its, n, r, hl, e⟩ := I.lstM hH
  refine PySem.P.delItem_list (k := k) e (fitsIndex_both h1 h2) (by rw [List.size_toArray, ← hl]; exact hk) (h _ ?_) (by rw [List.size_toArray]; omega)
  refine I.lset (its' := its.eraseIdx k) (t' := s.toks) hH e ?_ (r.eraseIdx k) ?_
  · show its.toArray.eraseIdxIfInBounds k = (its.eraseIdx k).toArray
    rw [List.eraseIdxIfInBounds_toArray]
  · have := len_erase xs k
    omega
end

/-! ### xs[a:b] = ys -/
section
variable {prog : Program} {w : World} {A : Around} {E : Value → Shared → Prop} {s : Shared}
theorem splice_eq (its its2 : List Value) (a c : Nat) : its.toArray.extract 0 a ++ its2.toArray ++ its.toArray.extract c its.toArray.size = (its.take a ++ its2 ++ its.drop c).toArray := by
  apply Array.toList_inj.mp
  first
    | (simp
       exact List.take_of_length_le (by simp))
    | simp [List.take_of_length_le]
    | simp
theorem bounds_run {a c n : Nat} (hac : a ≤ c) (hc : c ≤ n) : sliceBounds (some (a : Int)) (some (c : Int)) none n = ((a : Int), (c : Int), 1) := by
  simp only [sliceBounds, Option.getD_none]
  have h1 : ¬ ((a : Int) < 0) := by omega
  have h2 : ¬ ((c : Int) < 0) := by omega
  simp only [h1, h2, if_false, show (1 : Int) > 0 by decide, if_true]
  congr 1
  · omega
  · congr 1; omega
set_option maxRecDepth 100000 in
/-- list.__setitem__ with a slice of step one and another list -/
theorem setItem_slice {l b sl : Addr} {items new : Array Value} {n n2 : Nat} {vl vu : Value} {a c : Nat} {Q : Unit → Shared → Prop}
    (e : s.heap.get? l = some { cls := .type "list", data := .seq items n }) (e2 : s.heap.get? b = some { cls := .type "list", data := .seq new n2 }) (hne : l ≠ b)
    (hs : s.heap.IsSliceOf sl vl vu .none) (pl : IsPart vl (some (a : Int))) (pu : IsPart vu (some (c : Int))) (hac : a ≤ c) (hc : c ≤ items.size)
    (hsz : items.size + new.size ≤ sizeLine) (h : Q () { s with heap := s.heap.update l (Obj.mapSeq fun xs => xs.extract 0 a ++ new ++ xs.extract c xs.size) }) :
    wpAny (model prog w) A (setItem (.ref l) (.ref sl) (.ref b)) Q E s := by
  have hl : s.heap.IsList l items := PySem.IsL.isList e
  have hb : s.heap.IsList b new := PySem.IsL.isList e2
  obtain ⟨os, hos, hcs, hds⟩ := id hs
  have hTs : s.TypeIs (.ref sl) "slice" := ⟨os, hos, hcs⟩
  have hstep : ¬ ((rawPart none == rawInt 0) = true) := Bool.false_ne_true
  have hsame : Builtin.List.listSameRef (.ref l) (.ref b) = false := by
    unfold Builtin.List.listSameRef
    exact beq_eq_false_iff_ne.mpr hne
  have hmax : (max (a : Int) (c : Int)).toNat = c := by omega
  have hz' : ((fun xs : Array Value => xs.extract 0 a ++ new ++ xs.extract c xs.size) items).size ≤ sizeLine + 1 := by
    simp only [Array.size_append, Array.size_extract]
    omega
  unfold setItem
  try with_reducible refine wpAny_holding ?_
  first | refine wpAny_bind (wpAny_pure ?_) | skip
  refine wpAny_bind (wpAny_sequenceKey hl.typeIs (by decide) ?_)
  refine wpAny_bind (wpAny_callSpecial?_slot (name := Str.ofString "__setitem__") hl.typeIs slot_list_setitem
    (wpAny_call_entry slot_list_setitem hl.typeIs entry_list_setitem ?_ (args_list_setitem _ _ _)))
  show wpAny _ _ (Builtin.List.listSubscript? (.ref sl) >>= _) _ _ s
  refine wpAny_bind ?_
  unfold Builtin.List.listSubscript?
  refine wpAny_bind (wpAny_specialOf hTs slice_no_index ?_)
  simp only [Option.isNone_none, if_true]
  refine wpAny_pure ?_
  show wpAny _ _ (typeOf (.ref sl) >>= _) _ _ s
  refine wpAny_bind (wpAny_typeOf hTs ?_)
  first
    | rw [if_neg (by decide)]
    | refine PySem.W.KFB.if_not (by decide) ?_
  rw [listSliceParts_eq]
  refine wpAny_bind (wpAny_bind (wpAny_field hos hds (x := .none) rfl (wpAny_bind (wpAny_listPart .none ?_))))
  rw [if_neg hstep]
  refine wpAny_bind (wpAny_field hos hds (x := vl) rfl (wpAny_bind (wpAny_listPart pl ?_)))
  refine wpAny_bind (wpAny_field hos hds (x := vu) rfl (wpAny_bind (wpAny_listPart pu (wpAny_pure ?_))))
  first
    | simp only [hsame, Bool.false_eq_true, if_false]
    | refine PySem.W.KFB.if_not hsame ?_
    | (dsimp only
       rw [if_neg (by rw [hsame]; exact Bool.false_ne_true)])
  refine wpAny_bind (m := Builtin.List.listAllItems (.ref b) "must assign iterable to extended slice") ?_
  unfold Builtin.List.listAllItems
  refine wpAny_bind (wpAny_typeOf hb.typeIs ?_)
  first
    | refine PySem.W.KFB.if_so (by decide) ?_
    | rw [if_pos (by decide)]
    | simp only [beq_self_eq_true, Bool.true_or, if_true]
  unfold Builtin.List.listItems
  refine wpAny_bind (wpAny_seqItems e2 rfl (wpAny_pure ?_))
  refine wpAny_bind (wpAny_bind (wpAny_seqItems e rfl (wpAny_pure ?_)))
  refine wpAny_bind (wpAny_of_eq ((sliceIndices_raw (some (a : Int)) (some (c : Int)) none items.size (by simp)).trans (congrArg (pure : Int × Int × Int → Sem (Int × Int × Int)) (bounds_run hac hc))) ?_)
  show wpAny _ _ (if ((1 : Int) == 1) = true then _ else _) _ _ s
  rw [if_pos (by decide)]
  refine wpAny_bind (wpAny_rule ?_)
  first
    | simp only [notLongL hsz, Bool.false_eq_true, if_false]
    | refine PySem.W.KFB.if_not (notLongL hsz) ?_
  first | refine wpAny_bind (wpAny_pure ?_) | skip
  show wpAny _ _ (updateSeq l (fun xs => xs.extract 0 ((a : Int)).toNat ++ new ++ xs.extract (max (a : Int) (c : Int)).toNat xs.size) >>= _) _ _ s
  rw [hmax, Int.toNat_natCast]
  refine wpAny_bind (wpAny_updateSeq (hz := Nat.le_trans (Nat.le_add_right _ _) hsz) (_hz' := hz') e rfl ?_)
  refine wpAny_bind (wpAny_letGo ?_)
  first
    | exact wpAny_bind (wpAny_pure (wpAny_pure ⟨.none, rfl, wpAny_pure h⟩))
    | exact wpAny_pure ⟨.none, rfl, wpAny_pure h⟩
end

section
variable {X : Cx}
/-- xs[a:c] = ys of another list, at the value level: sl is the slice object that was just made -/
theorem set_slice {pins : List (Addr × Obj)} {s : Shared} {σ : St} {H : Hp} {l b sl : Addr} {xs ys : List V} {a c : Int} {vl vu : Value} {Q : Unit → Shared → Prop} (I : Inv X pins σ H s)
    (hH : H l = some (.lst xs)) (hB : H b = some (.lst ys)) (hne : l ≠ b) (hs : s.heap.IsSliceOf sl vl vu .none) (ra : RelV (.int a) vl) (rc : RelV (.int c) vu) (h0 : 0 ≤ a) (hac : a ≤ c) (hc : c ≤ xs.length)
    (hz : xs.length + ys.length ≤ sizeLine) (h : ∀ s', Inv X pins σ (upd H l (.lst (xs.take a.toNat ++ ys ++ xs.drop c.toNat))) s' → Q () s') :
    wpAny (model X.prog X.w) X.A (setItem (.ref l) (.ref sl) (.ref b)) Q X.xe s := by
  obtain ⟨ta, rfl⟩ := ra
  obtain ⟨tc, rfl⟩ := rc
  obtain ⟨z, its, n, r, hl, e⟩ := I.lstM hH
  obtain ⟨z2, its2, n2, r2, hl2, e2⟩ := I.lstM hB
  obtain ⟨a', rfl⟩ := Int.eq_ofNat_of_zero_le h0
  obtain ⟨c', rfl⟩ := Int.eq_ofNat_of_zero_le (Int.le_trans h0 hac)
  simp only [Int.toNat_natCast] at h
  refine setItem_slice (a := a') (c := c') e e2 hne hs (.int _ _) (.int _ _) (by omega) (by rw [List.size_toArray]; omega) (by rw [List.size_toArray, List.size_toArray]; omega) (h _ ?_)
  refine I.lset (its' := its.take a' ++ its2 ++ its.drop c') (t' := s.toks) hH e ?_ (Vals.append (Vals.append (r.take _) r2) (r.drop _)) ?_
  · exact splice_eq its its2 a' c'
  · rw [List.length_append, List.length_append, List.length_take, List.length_drop]
    omega
end
end L2

namespace L2
open PySem PySem.Spec PyProof.Rows
/-! ### lists of pairs as tables -/
section
variable {κ : Type} [DecidableEq κ]
def valV (kvs : List (κ × V)) (k : κ) : Option V := (kvs.find? fun kv => decide (kv.1 = k)).map (·.2)
/-- in its place, or at the end -/
def putK (kvs : List (κ × V)) (k : κ) (v : V) : List (κ × V) :=
  if (kvs.any fun kv => decide (kv.1 = k)) = true then kvs.map (fun kv => if kv.1 = k then (kv.1, v) else kv) else kvs ++ [(k, v)]
def dropK (kvs : List (κ × V)) (k : κ) : List (κ × V) := kvs.filter fun kv => decide (kv.1 ≠ k)

theorem valV_nil {k : κ} : valV ([] : List (κ × V)) k = none := rfl
theorem valV_pos {p : κ × V} {r : List (κ × V)} {k : κ} (e : p.1 = k) : valV (p :: r) k = some p.2 := by simp [valV, List.find?_cons, e]
theorem valV_neg {p : κ × V} {r : List (κ × V)} {k : κ} (e : ¬ p.1 = k) : valV (p :: r) k = valV r k := by simp [valV, List.find?_cons, e]
theorem valV_any (k : κ) : ∀ kvs : List (κ × V), (kvs.any fun kv => decide (kv.1 = k)) = (valV kvs k).isSome
  | [] => rfl
  | p :: r => by
    rw [List.any_cons]
    by_cases e : p.1 = k
    · simp only [valV_pos e, decide_eq_true e, Bool.true_or, Option.isSome_some]
    · rw [valV_neg e, decide_eq_false e, Bool.false_or]; exact valV_any k r
theorem valV_map (k j : κ) (y : V) : ∀ kvs : List (κ × V), valV (kvs.map fun kv => if kv.1 = k then (kv.1, y) else kv) j = (valV kvs j).map fun x => if j = k then y else x
  | [] => rfl
  | p :: r => by
    have ih := valV_map k j y r
    rw [List.map_cons]
    by_cases h : p.1 = k
    · rw [if_pos h]
      by_cases e : p.1 = j
      · rw [valV_pos (p := (p.1, y)) e, valV_pos e, Option.map_some, if_pos (e.symm.trans h)]
      · rw [valV_neg (p := (p.1, y)) e, valV_neg e, ih]
    · rw [if_neg h]
      by_cases e : p.1 = j
      · rw [valV_pos (p := p) e, valV_pos e, Option.map_some, if_neg (fun z => h (e.trans z))]
      · rw [valV_neg (p := p) e, valV_neg e, ih]
theorem valV_snoc (k j : κ) (y : V) : ∀ kvs : List (κ × V), valV kvs k = none → valV (kvs ++ [(k, y)]) j = if j = k then some y else valV kvs j
  | [], _ => by
    by_cases e : k = j
    · rw [if_pos e.symm]; exact valV_pos (p := (k, y)) e
    · rw [if_neg (fun z => e z.symm)]; exact valV_neg (p := (k, y)) e
  | p :: r, hn => by
    rw [List.cons_append]
    have hk : ¬ p.1 = k := fun z => by rw [valV_pos z] at hn; cases hn
    rw [valV_neg hk] at hn
    have ih := valV_snoc k j y r hn
    by_cases e : p.1 = j
    · rw [valV_pos e, valV_pos e, if_neg (fun z => hk (e.trans z))]
    · rw [valV_neg e, valV_neg e, ih]
theorem valV_put (kvs : List (κ × V)) (k j : κ) (y : V) : valV (putK kvs k y) j = if j = k then some y else valV kvs j := by
  unfold putK
  by_cases a : (kvs.any fun kv => decide (kv.1 = k)) = true
  · rw [if_pos a, valV_map]
    rw [valV_any] at a
    by_cases e : j = k
    · obtain ⟨x, hx⟩ := Option.isSome_iff_exists.mp a
      rw [if_pos e, e, hx, Option.map_some, if_pos rfl]
    · rw [if_neg e]
      cases valV kvs j with
      | none => rfl
      | some x => rw [Option.map_some, if_neg e]
  · rw [if_neg a]
    refine valV_snoc k j y kvs ?_
    rw [valV_any] at a
    cases q : valV kvs k with
    | none => rfl
    | some x => rw [q] at a; exact (a rfl).elim
theorem length_putK (kvs : List (κ × V)) (k : κ) (v : V) : (putK kvs k v).length ≤ kvs.length + 1 := by
  unfold putK
  split
  · rw [List.length_map]; omega
  · rw [List.length_append, List.length_cons, List.length_nil]; omega
theorem putK_new {kvs : List (κ × V)} {k : κ} (v : V) (h : valV kvs k = none) : putK kvs k v = kvs ++ [(k, v)] := by
  unfold putK
  rw [valV_any, h]
  exact if_neg (by decide)

theorem RelO.isSome_eq {o : Option V} {u : Option Value} (r : RelO o u) : o.isSome = u.isSome := by
  cases o with
  | none => cases u with
    | none => rfl
    | some _ => exact (show False from r).elim
  | some _ => cases u with
    | none => exact (show False from r).elim
    | some _ => rfl
theorem RelO.getD {o : Option V} {u : Option Value} {d : V} {d' : Value} (r : RelO o u) (rd : RelV d d') : RelV (o.getD d) (u.getD d') := by
  cases o with
  | none => cases u with
    | none => exact rd
    | some _ => exact (show False from r).elim
  | some _ => cases u with
    | none => exact (show False from r).elim
    | some _ => exact r

/-- raw tables of the same keys -/
theorem KV.val {kvs : List (κ × V)} {vs : List (κ × Value)} (r : KV kvs vs) (k : κ) : RelO (valV kvs k) (valueAt vs k) := by
  unfold KV at r
  induction r with
  | nil => exact True.intro
  | @cons p q ps qs h t ih =>
    obtain ⟨h1, h2⟩ := h
    by_cases e : p.1 = k
    · have e' : q.1 = k := h1.symm.trans e
      have b : valueAt (q :: qs) k = some q.2 := by simp [valueAt, List.find?_cons, e']
      rw [valV_pos e, b]; exact h2
    · have e' : ¬ q.1 = k := fun z => e (h1.trans z)
      have b : valueAt (q :: qs) k = valueAt qs k := by simp [valueAt, List.find?_cons, e']
      rw [valV_neg e, b]; exact ih
theorem KV.any {kvs : List (κ × V)} {vs : List (κ × Value)} (r : KV kvs vs) (k : κ) : (kvs.any fun kv => decide (kv.1 = k)) = vs.any fun kv => decide (kv.1 = k) := by
  unfold KV at r
  induction r with
  | nil => rfl
  | cons h t ih => rw [List.any_cons, List.any_cons, ih, h.1]
theorem KV.repl {kvs : List (κ × V)} {vs : List (κ × Value)} (r : KV kvs vs) (k : κ) {y : V} {u : Value} (ry : RelV y u) :
    KV (kvs.map fun kv => if kv.1 = k then (kv.1, y) else kv) (vs.map fun kv => if kv.1 = k then (kv.1, u) else kv) := by
  unfold KV at r ⊢
  induction r with
  | nil => exact .nil
  | @cons p q ps qs h t ih =>
    rw [List.map_cons, List.map_cons]
    refine .cons ?_ ih
    obtain ⟨h1, h2⟩ := h
    by_cases e : p.1 = k
    · rw [if_pos e, if_pos (h1.symm.trans e)]; exact ⟨h1, ry⟩
    · rw [if_neg e, if_neg (fun z => e (h1.trans z))]; exact ⟨h1, h2⟩
theorem KV.put {kvs : List (κ × V)} {vs : List (κ × Value)} (r : KV kvs vs) (k : κ) {y : V} {u : Value} (ry : RelV y u) : KV (putK kvs k y) (stored vs k u) := by
  unfold putK stored
  rw [r.any k]
  by_cases e : (vs.any fun kv => decide (kv.1 = k)) = true
  · rw [if_pos e, if_pos e]; exact r.repl k ry
  · rw [if_neg e, if_neg e]; exact Paired.snoc r ⟨rfl, ry⟩
theorem KV.drop {kvs : List (κ × V)} {vs : List (κ × Value)} (r : KV kvs vs) (k : κ) : KV (dropK kvs k) (without vs k) := by
  unfold KV at r ⊢
  unfold dropK without
  induction r with
  | nil => exact .nil
  | @cons p q ps qs h t ih =>
    obtain ⟨h1, h2⟩ := h
    rw [List.filter_cons, List.filter_cons]
    by_cases e : p.1 = k
    · have a : ¬ decide (p.1 ≠ k) = true := by simp [e]
      have b : ¬ decide (q.1 ≠ k) = true := by simp [h1.symm.trans e]
      rw [if_neg a, if_neg b]; exact ih
    · have e' : ¬ q.1 = k := fun z => e (h1.trans z)
      have a : decide (p.1 ≠ k) = true := by simp [e]
      have b : decide (q.1 ≠ k) = true := by simp [e']
      rw [if_pos a, if_pos b]; exact .cons ⟨h1, h2⟩ ih
theorem KV.keys {kvs : List (κ × V)} {vs : List (κ × Value)} (r : KV kvs vs) : kvs.map (·.1) = vs.map (·.1) := by
  unfold KV at r
  induction r with
  | nil => rfl
  | cons h t ih => rw [List.map_cons, List.map_cons, ih, h.1]
theorem KV.length {kvs : List (κ × V)} {vs : List (κ × Value)} (r : KV kvs vs) : kvs.length = vs.length := Paired.length r
theorem dropK_le (kvs : List (κ × V)) (k : κ) : (dropK kvs k).length ≤ kvs.length := List.length_filter_le _ _
end


/-! ### a tracked dict, its keys ints and texts or tuples of these -/
theorem kV_is {P : Program} {w : World} {k : Key} {u : Value} (r : RelV (kV k) u) : (mixKind P w).is k u = true := by
  cases k with
  | inl i => obtain ⟨t, e⟩ := (show ∃ t, u = Value.int i t from r); subst e; exact mixKind_int P w i t
  | inr x => obtain ⟨t, e⟩ := (show ∃ t, u = Value.str x t from r); subst e; exact mixKind_str P w x t
theorem kV_inj {a b : Key} (e : kV a = kV b) : a = b := by
  cases a with
  | inl i => cases b with
    | inl j => have e' : V.int i = V.int j := e; injection e' with e'; rw [e']
    | inr y => exact nomatch (show V.int i = V.str y from e)
  | inr x => cases b with
    | inl j => exact nomatch (show V.str x = V.int j from e)
    | inr y => have e' : V.str x = V.str y := e; injection e' with e'; rw [e']
theorem kVs_inj : ∀ {a b : List Key}, a.map kV = b.map kV → a = b
  | [], [], _ => rfl
  | [], _ :: _, e => by simp at e
  | _ :: _, [], e => by simp at e
  | x :: xs, y :: ys, e => by
    rw [List.map_cons, List.map_cons] at e
    injection e with e1 e2
    rw [kV_inj e1, kVs_inj e2]
theorem items_are {P : Program} {w : World} : ∀ {ks : List Key} {us : List Value}, Vals (ks.map kV) us → ItemsAre (mixKind P w) ks us
  | [], _, r => by rw [List.map_nil] at r; cases r; exact .nil
  | k :: ks, _, r => by
    rw [List.map_cons] at r
    cases r with
    | cons h t => exact .cons (kV_is h) (items_are t)

/-- raw entries of a dict with tuple keys -/
abbrev KT (H : Hp) : List (List Key × V) → List (List Key × Addr × Value) → Prop := Paired fun p q => p.1 = q.1 ∧ H q.2.1 = some (.tup (p.1.map kV)) ∧ RelV p.2 q.2.2
theorem KT.val {H : Hp} {kvs : List (List Key × V)} {xs : List (List Key × Addr × Value)} (r : KT H kvs xs) (k : List Key) : RelO (valV kvs k) ((atKey xs k).map (·.2)) := by
  induction r with
  | nil => exact True.intro
  | @cons p q ps qs h t ih =>
    obtain ⟨h1, _, h2⟩ := h
    by_cases e : p.1 = k
    · have e' : q.1 = k := h1.symm.trans e
      have b : atKey (q :: qs) k = some q.2 := by simp [atKey, List.find?_cons, e']
      rw [valV_pos e, b]; exact h2
    · have e' : ¬ q.1 = k := fun z => e (h1.trans z)
      have b : atKey (q :: qs) k = atKey qs k := by simp [atKey, List.find?_cons, e']
      rw [valV_neg e, b]; exact ih
theorem KT.repl {H : Hp} {kvs : List (List Key × V)} {xs : List (List Key × Addr × Value)} (r : KT H kvs xs) (k : List Key) {y : V} {u : Value} (ry : RelV y u) :
    KT H (kvs.map fun kv => if kv.1 = k then (kv.1, y) else kv) (xs.map (putAt k u)) := by
  induction r with
  | nil => exact .nil
  | @cons p q ps qs h t ih =>
    rw [List.map_cons, List.map_cons]
    refine .cons ?_ ih
    obtain ⟨h1, h2, h3⟩ := h
    unfold putAt
    by_cases e : p.1 = k
    · rw [if_pos e, if_pos (h1.symm.trans e)]; exact ⟨h1, h2, ry⟩
    · rw [if_neg e, if_neg (fun z => e (h1.trans z))]; exact ⟨h1, h2, h3⟩
theorem KT.put {H : Hp} {kvs : List (List Key × V)} {xs : List (List Key × Addr × Value)} (r : KT H kvs xs) (k : List Key) {b : Addr} {y : V} {u : Value} (hb : H b = some (.tup (k.map kV))) (ry : RelV y u) :
    KT H (putK kvs k y) (storedH xs k b u) := by
  have e : (kvs.any fun kv => decide (kv.1 = k)) = (atKey xs k).isSome := by
    rw [valV_any, (r.val k).isSome_eq, Option.isSome_map]
  unfold putK storedH
  rw [e]
  by_cases q : (atKey xs k).isSome = true
  · rw [if_pos q, if_pos q]; exact r.repl k ry
  · rw [if_neg q, if_neg q]; exact Paired.snoc r ⟨rfl, hb, ry⟩
theorem KT.keeps {H H' : Hp} {kvs : List (List Key × V)} {xs : List (List Key × Addr × Value)} (r : KT H kvs xs) (ht : ∀ b ys, H b = some (.tup ys) → H' b = some (.tup ys)) : KT H' kvs xs :=
  Paired.mapP r fun _ _ z => ⟨z.1, ht _ _ z.2.1, z.2.2⟩

section
variable {P : Program} {w : World} {H : Hp} {h : Heap} {a : Addr}
theorem rd_of {u : HO} (ok : HOk P w H h) (e : Rd H a u) : ObjOk P w H h a u := e.ok ok
theorem dk_rd {kvs : List (Key × V)} (ok : HOk P w H h) (e : Rd H a (.dK kvs)) : kvs.length ≤ sizeLine ∧ (a == sysModules) = false ∧ ∃ vs, KV kvs vs ∧ h.DictOf (mixKind P w) a vs :=
  show ObjOk P w H h a (.dK kvs) from rd_of ok e
theorem dk_of {kvs : List (Key × V)} (ok : HOk P w H h) (e : H a = some (.dK kvs)) : kvs.length ≤ sizeLine ∧ (a == sysModules) = false ∧ ∃ vs, KV kvs vs ∧ h.DictOf (mixKind P w) a vs := dk_rd ok (.inl e)
/-- a tracked tuple of ints and texts is a key -/
theorem key_of {ks : List Key} (ok : HOk P w H h) (e : H a = some (.tup (ks.map kV))) : (tupleKind (mixKind P w)).is h ks a := by
  obtain ⟨_, its, r, o, h1, h2, n, h3⟩ := (show ObjOk P w H h a (.tup (ks.map kV)) from ok a _ e)
  exact ⟨o, its.toArray, n, h1, h2, h3, by simpa using items_are r⟩
theorem dt_rd {kvs : List (List Key × V)} (ok : HOk P w H h) (e : Rd H a (.dT kvs)) : kvs.length ≤ sizeLine ∧ (a == sysModules) = false ∧
    ∃ xs, KT H kvs xs ∧ h.DictOfH (tupleKind (mixKind P w)) a xs := by
  obtain ⟨z, y, xs, r, o, es, ep, h1, h2, h3, h4, h5⟩ := (show ObjOk P w H h a (.dT kvs) from rd_of ok e)
  refine ⟨z, y, xs, r, o, es, ep, h1, h2, h3, h4, fun x hx => ?_, h5⟩
  have all : ∀ {l : List (List Key × V)} {m : List (List Key × Addr × Value)}, KT H l m → ∀ x ∈ m, (tupleKind (mixKind P w)).is h x.1 x.2.1 := by
    intro l m q
    induction q with
    | nil => intro x hx; exact nomatch hx
    | @cons p q ps qs hq t ih =>
      intro x hx
      rcases List.mem_cons.mp hx with e | hx
      · subst e
        exact key_of ok (by rw [← hq.1]; exact hq.2.1)
      · exact ih x hx
  exact all r x hx
theorem dt_of {kvs : List (List Key × V)} (ok : HOk P w H h) (e : H a = some (.dT kvs)) : kvs.length ≤ sizeLine ∧ (a == sysModules) = false ∧
    ∃ xs, KT H kvs xs ∧ h.DictOfH (tupleKind (mixKind P w)) a xs := dt_rd ok (.inl e)
end

/-- what the dict at a holds at the key y -/
def DGet (H : Hp) (a : Addr) (y : V) (r : Option V) : Prop :=
  (∃ kvs k, Rd H a (.dK kvs) ∧ y = kV k ∧ r = valV kvs k) ∨ ∃ kvs k b, Rd H a (.dT kvs) ∧ y = .ref b ∧ H b = some (.tup (k.map kV)) ∧ r = valV kvs k
/-- the heap behind a[y] = v -/
def DPut (H : Hp) (a : Addr) (y v : V) (H' : Hp) : Prop :=
  (∃ kvs k, H a = some (.dK kvs) ∧ y = kV k ∧ kvs.length < sizeLine ∧ H' = upd H a (.dK (putK kvs k v))) ∨
  ∃ kvs k b, H a = some (.dT kvs) ∧ y = .ref b ∧ H b = some (.tup (k.map kV)) ∧ kvs.length < sizeLine ∧ H' = upd H a (.dT (putK kvs k v))
theorem DGet.k {H : Hp} {a : Addr} {kvs : List (Key × V)} {k : Key} (e : H a = some (.dK kvs)) : DGet H a (kV k) (valV kvs k) := .inl ⟨kvs, k, .inl e, rfl, rfl⟩
theorem DGet.t {H : Hp} {a b : Addr} {kvs : List (List Key × V)} {k : List Key} (e : H a = some (.dT kvs)) (eb : H b = some (.tup (k.map kV))) : DGet H a (.ref b) (valV kvs k) := .inr ⟨kvs, k, b, .inl e, rfl, eb, rfl⟩
theorem DPut.k {H : Hp} {a : Addr} {kvs : List (Key × V)} {k : Key} {v : V} (e : H a = some (.dK kvs)) (hl : kvs.length < sizeLine) : DPut H a (kV k) v (upd H a (.dK (putK kvs k v))) := .inl ⟨kvs, k, e, rfl, hl, rfl⟩
theorem DPut.t {H : Hp} {a b : Addr} {kvs : List (List Key × V)} {k : List Key} {v : V} (e : H a = some (.dT kvs)) (eb : H b = some (.tup (k.map kV))) (hl : kvs.length < sizeLine) :
    DPut H a (.ref b) v (upd H a (.dT (putK kvs k v))) := .inr ⟨kvs, k, b, e, rfl, eb, hl, rfl⟩


section
variable {X : Cx} {pins : List (Addr × Obj)} {σ : St} {H : Hp} {s : Shared} {a : Addr} {y v : V} {u r : Value} {o : Option V} {A : Around} {E : Value → Shared → Prop}

theorem Inv.big (I : Inv X pins σ H s) : sysModules < s.heap.objs.size := by
  have h : mainGlobals < s.heap.objs.size := (I.mod.glob.keeps I.bk).lt
  exact Nat.lt_trans (by decide) h

/-- d[y], there -/
theorem d_getItem {Q : Value → Shared → Prop} (hu : A.units + 1 < cLine) (I : Inv X pins σ H s) (g : DGet H a y (some v)) (ry : RelV y u) (h : ∀ w' s', Inv X pins σ H s' → RelV v w' → Q w' s') :
    wpAny (model X.prog X.w) A (getItem (.ref a) u) Q E s := by
  rcases g with ⟨kvs, k, e, ey, l⟩ | ⟨kvs, k, b, e, ey, eb, l⟩
  · subst ey
    obtain ⟨z, hd, vs, rel, dd⟩ := dk_rd I.hok e
    obtain ⟨w', hw, rw'⟩ := RelO.some_of (v := v) (o := valueAt vs k) (by rw [l]; exact rel.val k)
    exact wpAny_getItem_of (kV_is ry) dd.mapOf hw (h w' _ (I.tok _) rw')
  · subst ey
    cases (show u = Value.ref b from ry)
    obtain ⟨z, hd, xs, rel, dd⟩ := dt_rd I.hok e
    obtain ⟨w', hw, rw'⟩ := RelO.some_of (v := v) (o := (atKey xs k).map (·.2)) (by rw [l]; exact rel.val k)
    obtain ⟨p, hp, hp2⟩ := Option.map_eq_some_iff.mp hw
    refine wpAny_getItem_heap (tupleKind_room_in1 hu) (key_of I.hok eb) dd hp ?_
    rw [hp2]
    exact h w' _ (I.tok _) rw'
/-- y in d -/
theorem d_in {Q : Value → Shared → Prop} (hu : A.units + 1 < cLine) (I : Inv X pins σ H s) (g : DGet H a y o) (ry : RelV y u) (h : ∀ s', Inv X pins σ H s' → Q (.bool o.isSome) s') :
    wpAny (model X.prog X.w) A (compareOp .In u (.ref a)) Q E s := by
  rcases g with ⟨kvs, k, e, ey, l⟩ | ⟨kvs, k, b, e, ey, eb, l⟩
  · subst ey
    obtain ⟨z, hd, vs, rel, dd⟩ := dk_rd I.hok e
    refine wpAny_in_of (kV_is ry) hd dd.mapOf ?_
    rw [← (rel.val k).isSome_eq, ← l]
    exact h _ (I.tok _)
  · subst ey
    cases (show u = Value.ref b from ry)
    obtain ⟨z, hd, xs, rel, dd⟩ := dt_rd I.hok e
    refine wpAny_in_heap (tupleKind_room_in1 hu) (key_of I.hok eb) hd dd ?_
    have q := (rel.val k).isSome_eq
    rw [Option.isSome_map] at q
    rw [← q, ← l]
    exact h _ (I.tok _)
theorem d_notIn {Q : Value → Shared → Prop} (hu : A.units + 1 < cLine) (I : Inv X pins σ H s) (g : DGet H a y o) (ry : RelV y u) (h : ∀ s', Inv X pins σ H s' → Q (.bool (!o.isSome)) s') :
    wpAny (model X.prog X.w) A (compareOp .NotIn u (.ref a)) Q E s := by
  rcases g with ⟨kvs, k, e, ey, l⟩ | ⟨kvs, k, b, e, ey, eb, l⟩
  · subst ey
    obtain ⟨z, hd, vs, rel, dd⟩ := dk_rd I.hok e
    refine wpAny_notIn_of (kV_is ry) hd dd.mapOf ?_
    rw [← (rel.val k).isSome_eq, ← l]
    exact h _ (I.tok _)
  · subst ey
    cases (show u = Value.ref b from ry)
    obtain ⟨z, hd, xs, rel, dd⟩ := dt_rd I.hok e
    refine wpAny_notIn_heap (tupleKind_room_in1 hu) (key_of I.hok eb) hd dd ?_
    have q := (rel.val k).isSome_eq
    rw [Option.isSome_map] at q
    rw [← q, ← l]
    exact h _ (I.tok _)
/-- a dict's object is replaced -/
theorem d_write {h' : Heap} {t' : Nat} {ob : HO} (I : Inv X pins σ H s) (mu : Mut (H a)) (hs : Heap.SameBut a s.heap h') (he : ∃ q, h'.get? a = some q) (new : ObjOk X.prog X.w (upd H a ob) h' a ob) :
    Inv X pins σ (upd H a ob) { s with heap := h', toks := t' } :=
  I.write (x := a) (e := a) mu (.inl rfl) (fun b q hb z => (hs.2 b hb).trans z) he new
theorem dk_new {P : Program} {w : World} {H' : Hp} {h' : Heap} {kvs : List (Key × V)} {vs : List (Key × Value)} (z : kvs.length ≤ sizeLine) (hd : (a == sysModules) = false) (rel : KV kvs vs) (dd : h'.DictOf (mixKind P w) a vs) :
    ObjOk P w H' h' a (.dK kvs) := ⟨z, hd, vs, rel, dd⟩
/-- d[y] = v -/
theorem d_setItem {H' : Hp} {Q : Unit → Shared → Prop} (hu : A.units + 1 < cLine) (I : Inv X pins σ H s) (g : DPut H a y v H') (ry : RelV y u) (rv : RelV v r) (h : ∀ s', Inv X pins σ H' s' → Q () s') :
    wpAny (model X.prog X.w) A (setItem (.ref a) u r) Q E s := by
  rcases g with ⟨kvs, k, e, ey, l, eH⟩ | ⟨kvs, k, b, e, ey, eb, l, eH⟩
  · subst ey eH
    obtain ⟨z, hd, vs, rel, dd⟩ := dk_of I.hok e
    have hz : vs.length ≤ sizeLine := by rw [← rel.length]; exact z
    have hl : (putK kvs k v).length ≤ sizeLine := by have := length_putK kvs k v; omega
    refine wpAny_setItem_pairs (hsz := hz) (kV_is ry) dd fun h' dd' hs => h _ ?_
    have he : ∃ q, h'.get? a = some q := let ⟨q, _, _, hq, _⟩ := dd'; ⟨q, hq⟩
    exact d_write I (by rw [e]; exact True.intro) hs he (dk_new hl hd (rel.put k rv) dd')
  · subst ey eH
    cases (show u = Value.ref b from ry)
    obtain ⟨z, hd, xs, rel, dd⟩ := dt_of I.hok e
    have hz : xs.length ≤ sizeLine := by rw [← Paired.length rel]; exact z
    have hl : (putK kvs k v).length ≤ sizeLine := by have := length_putK kvs k v; omega
    refine wpAny_setItem_heap (hsz := hz) (tupleKind_room_in1 hu) (key_of I.hok eb) dd fun h' dd' hs => h _ ?_
    obtain ⟨q, es, ep, hq, h2, h3, h4, _, h5⟩ := dd'
    refine d_write I (by rw [e]; exact True.intro) hs ⟨q, hq⟩ ⟨hl, hd, _, (rel.put k eb rv).keeps fun c ys ec => ?_, q, es, ep, hq, h2, h3, h4, h5⟩
    rw [upd_ne (ne_of ec e (fun z => nomatch z))]
    exact ec
end

section
variable {X : Cx} {pins : List (Addr × Obj)} {σ : St} {H : Hp} {s : Shared} {a : Addr} {kvs : List (Key × V)} {k : Key} {u : Value} {A : Around} {E : Value → Shared → Prop}
/-- del d[k] -/
theorem d_delItem {Q : Unit → Shared → Prop} (I : Inv X pins σ H s) (e : H a = some (.dK kvs)) (ry : RelV (kV k) u) (l : (valV kvs k).isSome = true) (h : ∀ s', Inv X pins σ (upd H a (.dK (dropK kvs k))) s' → Q () s') :
    wpAny (model X.prog X.w) A (delItem (.ref a) u) Q E s := by
  obtain ⟨z, hd, vs, rel, dd⟩ := dk_of I.hok e
  refine wpAny_delItem_slot dd.typeIs (by decide) PySem.F.slot_dict_delitem
    (call_meetsIn PySem.F.slot_dict_delitem dd.typeIs PySem.F.entry_dict_delitem (PySem.F.args_dict_delitem_2 _ _) (meets_dict_delitem_pairs (mixKind X.prog X.w) a (kV_is ry)) ⟨vs, dd, by rw [← rel.length]; exact z, by rw [← (rel.val k).isSome_eq]; exact l, fun h' dd' hs => h _ ?_⟩)
  have he : ∃ q, h'.get? a = some q := let ⟨q, _, _, hq, _⟩ := dd'; ⟨q, hq⟩
  exact d_write I (by rw [e]; exact True.intro) hs he (dk_new (Nat.le_trans (dropK_le kvs k) z) hd (rel.drop k) dd')
/-- d.pop(k[, x]), there -/
theorem d_pop {v : V} {more : List Value} {Q : Value → Shared → Prop} (I : Inv X pins σ H s) (e : H a = some (.dK kvs)) (ry : RelV (kV k) u) (l : valV kvs k = some v) (hm : more = [] ∨ ∃ x, more = [x])
    (h : ∀ w' s', Inv X pins σ (upd H a (.dK (dropK kvs k))) s' → RelV v w' → Q w' s') : wpAny (model X.prog X.w) A (call (.builtin "dict.pop") (.ref a :: u :: more)) Q E s := by
  obtain ⟨z, hd, vs, rel, dd⟩ := dk_of I.hok e
  obtain ⟨w', hw, rw'⟩ := RelO.some_of (v := v) (o := valueAt vs k) (by rw [← l]; exact rel.val k)
  have hp : (keyPart u).isSome = true := by
    cases k with
    | inl i => obtain ⟨t, q⟩ := (show ∃ t, u = Value.int i t from ry); subst q; rfl
    | inr x => obtain ⟨t, q⟩ := (show ∃ t, u = Value.str x t from ry); subst q; rfl
  have ha : argsOk "dict.pop" ⟨.ref a :: u :: more, []⟩ := by
    rcases hm with q | ⟨x, q⟩
    · subst q; exact PySem.F.args_dict_pop_2 _ _
    · subst q; exact PySem.F.args_dict_pop_3 _ _ _
  refine call_meetsIn PySem.F.slot_dict_pop dd.typeIs PySem.F.entry_dict_pop ha (meets_dict_pop_there (mixKind X.prog X.w) a (kV_is ry) more hm hp)
    ⟨vs, w', dd, by rw [← rel.length]; exact z, hw, fun h' dd' hs => h w' _ ?_ rw'⟩
  have he : ∃ q, h'.get? a = some q := let ⟨q, _, _, hq, _⟩ := dd'; ⟨q, hq⟩
  exact d_write I (by rw [e]; exact True.intro) hs he (dk_new (Nat.le_trans (dropK_le kvs k) z) hd (rel.drop k) dd')
/-- d.pop(k, x), not there -/
theorem d_popD {r : Value} {Q : Value → Shared → Prop} (I : Inv X pins σ H s) (e : H a = some (.dK kvs)) (ry : RelV (kV k) u) (l : valV kvs k = none) (h : ∀ s', Inv X pins σ H s' → Q r s') :
    wpAny (model X.prog X.w) A (call (.builtin "dict.pop") [.ref a, u, r]) Q E s := by
  obtain ⟨z, hd, vs, rel, dd⟩ := dk_of I.hok e
  have hn : valueAt vs k = none := RelO.none_of (by rw [← l]; exact rel.val k)
  have hp : (keyPart u).isSome = true := by
    cases k with
    | inl i => obtain ⟨t, q⟩ := (show ∃ t, u = Value.int i t from ry); subst q; rfl
    | inr x => obtain ⟨t, q⟩ := (show ∃ t, u = Value.str x t from ry); subst q; rfl
  exact call_meetsIn PySem.F.slot_dict_pop dd.typeIs PySem.F.entry_dict_pop (PySem.F.args_dict_pop_3 _ _ _) (meets_dict_pop_default (mixKind X.prog X.w) a (kV_is ry) hd hp r) ⟨vs, dd, hn, h _ (I.tok _)⟩
/-- d.clear() -/
theorem d_clear {Q : Value → Shared → Prop} (I : Inv X pins σ H s) (e : H a = some (.dK kvs)) (h : ∀ s', Inv X pins σ (upd H a (.dK [])) s' → Q .none s') : wpAny (model X.prog X.w) A (call (.builtin "dict.clear") [.ref a]) Q E s := by
  obtain ⟨z, hd, vs, rel, dd⟩ := dk_of I.hok e
  refine call_meetsIn PySem.F.slot_dict_clear dd.typeIs PySem.F.entry_dict_clear (PySem.F.args_dict_clear_1 _) (meets_dict_clear (mixKind X.prog X.w) a) ⟨vs, dd, by rw [← rel.length]; exact z, fun h' dd' hs => h _ ?_⟩
  have he : ∃ q, h'.get? a = some q := let ⟨q, _, _, hq, _⟩ := dd'; ⟨q, hq⟩
  exact d_write (t' := s.toks) I (by rw [e]; exact True.intro) hs he (dk_new (Nat.zero_le _) hd .nil dd')
/-- len(d) -/
theorem d_len {Q : Value → Shared → Prop} (I : Inv X pins σ H s) (e : Rd H a (.dK kvs)) (h : ∀ t s', Inv X pins σ H s' → Q (.int kvs.length t) s') : wpAny (model X.prog X.w) A (call (.builtin "len") [.ref a]) Q E s := by
  obtain ⟨z, hd, vs, rel, dd⟩ := dk_rd I.hok e
  refine call_len_dict hd dd (by rw [← rel.length]; rw [sizeLine_eq] at z; omega) ?_
  rw [← rel.length]
  exact h _ _ (I.tok _)
/-- if d -/
theorem d_truth {Q : Bool → Shared → Prop} (I : Inv X pins σ H s) (e : Rd H a (.dK kvs)) (h : ∀ s', Inv X pins σ H s' → Q (!kvs.isEmpty) s') : wpAny (model X.prog X.w) A (truthy (.ref a)) Q E s := by
  obtain ⟨z, hd, vs, rel, dd⟩ := dk_rd I.hok e
  refine wpAny_truthy_dict hd dd (by rw [← rel.length]; rw [sizeLine_eq] at z; omega) ?_
  have q : kvs.isEmpty = vs.isEmpty := by cases rel <;> rfl
  rw [← q]
  exact h _ (I.tok _)
end


/-! ### readings and rules -/
/-- the element of a subscription, not a slice -/
def NoSl (i : Expr) : Prop := ∀ ov iv, subscripted i false ov iv = operate [ov, iv] (getItem ov iv)
theorem subD_of {prog : Program} {w : World} {A : Around} {E : Value → Shared → Prop} {s : Shared} {env : Env} {value slice : Expr} {pos : Pos} {T id : String} {Q : Value → Shared → Prop}
    (hl : typeLookup (.type T) "__getitem__" = pure (some (.builtin id))) (hs : NoSl slice)
    (h : wpAny (model prog w) A (eval value env) (fun o s₁ => wpAny (model prog w) A (eval slice env) (fun i s₂ => s₂.TypeIs o T ∧ wpAny (model prog w) A (getItem o i) Q E s₂) E s₁) E s) :
    wpAny (model prog w) A (eval (.Subscript value slice pos) env) Q E s := by
  refine Subscript_ (wpAny_mono h (fun o s₁ h₁ => wpAny_mono h₁ (fun i s₂ h₂ => ?_) fun _ _ x => x) fun _ _ x => x)
  obtain ⟨hT, h₂⟩ := h₂
  unfold subscriptTail
  refine wpAny_bind ?_
  rw [getitemInPython_of_ne hT.not_modules]
  refine wpAny_bind (wpAny_specialOf hT hl ?_)
  have fin : wpAny (model prog w) A (subscripted slice false o i) (fun r s₃ => wpAny (model prog w) A (letTemporaryGo value o r >>= fun _ => pure r) Q E s₃) E s₂ := by
    rw [hs o i]
    exact wpAny_operating (wpAny_mono h₂ (fun r s₃ h₃ => wpAny_bind (wpAny_letTemporaryGo (wpAny_pure h₃))) fun _ _ x => x)
  first
    | exact wpAny_pure (wpAny_bind fin)
    | exact wpAny_bind (wpAny_pure (wpAny_bind fin))
    | exact wpAny_bind fin

theorem dict_typeIs {X : Cx} {pins : List (Addr × Obj)} {σ : St} {H : Hp} {s : Shared} {a : Addr} {y : V} {o : Option V} (I : Inv X pins σ H s) (g : DGet H a y o) : s.TypeIs (.ref a) "dict" := by
  rcases g with ⟨kvs, k, e, _, _⟩ | ⟨kvs, k, b, e, _, _, _⟩
  · obtain ⟨_, _, vs, _, dd⟩ := dk_rd I.hok e
    exact dd.typeIs
  · obtain ⟨_, _, xs, _, dd⟩ := dt_rd I.hok e
    exact dd.typeIs
theorem dict_noDict {X : Cx} {pins : List (Addr × Obj)} {σ : St} {H : Hp} {s : Shared} {a : Addr} {y : V} {o : Option V} (I : Inv X pins σ H s) (g : DGet H a y o) :
    ∀ b, Value.ref a = .ref b → ∃ ob, s.heap.get? b = some ob ∧ ob.dict = none := fun b q => by
  cases q
  rcases g with ⟨kvs, k, e, _, _⟩ | ⟨kvs, k, b, e, _, _, _⟩
  · obtain ⟨_, _, vs, _, ob, _, _, h1, h2, _⟩ := dk_rd I.hok e
    exact ⟨ob, h1, h2.2.1⟩
  · obtain ⟨_, _, xs, _, ob, _, _, h1, h2, _⟩ := dt_rd I.hok e
    exact ⟨ob, h1, h2.2.1⟩

/-- d[y] -/
def tDGet (td ty : TE) : TE := fun σ H Q => td σ H fun x H1 => ty σ H1 fun y H2 => ∃ a v, x = .ref a ∧ DGet H2 a y (some v) ∧ Q v H2
/-- y in d, y not in d -/
def tDIn (ty td : TE) : TE := fun σ H Q => ty σ H fun y H1 => td σ H1 fun x H2 => ∃ a o, x = .ref a ∧ DGet H2 a y o ∧ Q (.bl o.isSome) H2
def tDNotIn (ty td : TE) : TE := fun σ H Q => ty σ H fun y H1 => td σ H1 fun x H2 => ∃ a o, x = .ref a ∧ DGet H2 a y o ∧ Q (.bl (!o.isSome)) H2
/-- d[y] = v -/
def sDPut (td ty tv : TE) : TS := fun D σ H => tv σ H fun v H1 => td σ H1 fun x H2 => ty σ H2 fun y H3 => ∃ a H4, x = .ref a ∧ DPut H3 a y v H4 ∧ D.nx σ H4
/-- d[y] op= v -/
def sDAug (td ty tv : TE) (rd : V → V → Hp → VK → Prop) : TS := fun D σ H => td σ H fun x H1 => ty σ H1 fun y H2 => ∃ a v, x = .ref a ∧ DGet H2 a y (some v) ∧
  tv σ H2 fun y2 H3 => rd v y2 H3 fun z H4 => ∃ H5, DPut H4 a y z H5 ∧ D.nx σ H5
/-- del d[y] -/
def sDDel (td ty : TE) : TS := fun D σ H => td σ H fun x H1 => ty σ H1 fun y H2 => ∃ a kvs k, x = .ref a ∧ H2 a = some (.dK kvs) ∧ y = kV k ∧ (valV kvs k).isSome = true ∧ D.nx σ (upd H2 a (.dK (dropK kvs k)))

section
variable {X : Cx} {o i e value : Expr} {pos pos' tpos : Pos} {td ty tv : TE}
theorem pe_dget (hu : X.A.units + 1 < cLine) (ho : PE X o td) (hi : PE X i ty) (hs : NoSl i) : PE X (.Subscript o i pos) (tDGet td ty) := by
  intro pins s σ H Q I h
  refine subD_of PySem.F.slot_dict_getitem.lookup hs (thn (ho pins s σ H _ I h) fun u s1 ⟨x, H1, I1, rx, q1⟩ => thn (hi pins s1 σ H1 _ I1 q1) fun iv s2 ⟨y, H2, I2, ry, a, v, ex, g, q2⟩ => ?_)
  subst ex
  obtain rfl : u = Value.ref a := rx
  exact ⟨dict_typeIs I2 g, d_getItem hu I2 g ry fun w' s3 I3 rw' => ⟨v, H2, I3, rw', q2⟩⟩
theorem pc_din (hu : X.A.units + 1 < cLine) (hi : PE X i ty) (ho : PE X o td) : PC X .In i o (tDIn ty td) := by
  intro pins s σ H Q I h
  refine thn (hi pins s σ H _ I h) fun iv s1 ⟨y, H1, I1, ry, q1⟩ => thn (ho pins s1 σ H1 _ I1 q1) fun u s2 ⟨x, H2, I2, rx, a, ov, ex, g, q2⟩ => ?_
  subst ex
  obtain rfl : u = Value.ref a := rx
  exact d_in hu I2 g ry fun s3 I3 => ⟨.bl ov.isSome, H2, I3, rfl, q2⟩
theorem pc_dnotin (hu : X.A.units + 1 < cLine) (hi : PE X i ty) (ho : PE X o td) : PC X .NotIn i o (tDNotIn ty td) := by
  intro pins s σ H Q I h
  refine thn (hi pins s σ H _ I h) fun iv s1 ⟨y, H1, I1, ry, q1⟩ => thn (ho pins s1 σ H1 _ I1 q1) fun u s2 ⟨x, H2, I2, rx, a, ov, ex, g, q2⟩ => ?_
  subst ex
  obtain rfl : u = Value.ref a := rx
  exact d_notIn hu I2 g ry fun s3 I3 => ⟨.bl (!ov.isSome), H2, I3, rfl, q2⟩
theorem ps_dput (hu : X.A.units + 1 < cLine) (ho : PE X o td) (hi : PE X i ty) (hv : PE X value tv) (hs : swapsWith value (some (.Subscript o i pos')) pos.line X.env = pure false) :
    PS X (.Assign [.Subscript o i pos'] value pos) (sDPut td ty tv) := by
  intro pins s σ H D I h
  refine wpAny_Assign_Subscript (thn (hv pins s σ H _ I h) fun r s1 ⟨v, H1, I1, rv, q1⟩ => thn (ho pins s1 σ H1 _ I1 q1) fun u s2 ⟨x, H2, I2, rx, q2⟩ => thn (hi pins s2 σ H2 _ I2 q2) fun iv s3 ⟨y, H3, I3, ry, a, H4, ex, g, q3⟩ => ?_) hs
  subst ex
  obtain rfl : u = Value.ref a := rx
  exact d_setItem hu I3 g ry rv fun s4 I4 => ⟨σ, H4, I4, q3⟩
theorem ps_daug {op : Operator} {rd : V → V → Hp → VK → Prop} (hu : X.A.units + 1 < cLine) (ho : PE X o td) (hi : PE X i ty) (hv : PE X value tv) (hop : InOp X op rd)
    (ha : ∀ ov iv new, augStore i ov iv new = (do holding [new, ov, iv] (setItem ov iv new); release [new, ov, iv] []; pure .next)) : PS X (.AugAssign (.Subscript o i tpos) op value pos) (sDAug td ty tv rd) := by
  intro pins s σ H D I h
  refine wpAny_AugAssign_SubscriptAny (thn (ho pins s σ H _ I h) fun u s1 ⟨x, H1, I1, rx, q1⟩ => thn (hi pins s1 σ H1 _ I1 q1) fun iv s2 ⟨y, H2, I2, ry, a, v, ex, g, q2⟩ => ?_) ha
  subst ex
  obtain rfl : u = Value.ref a := rx
  refine d_getItem hu I2 g ry fun w' s3 I3 rw' => thn (hv pins s3 σ H2 _ I3 q2) fun w2 s4 ⟨y2, H3, I4, ry2, q3⟩ => thn (hop pins s4 σ H3 v y2 w' w2 _ I4 rw' ry2 q3) fun w3 s5 ⟨z, H4, I5, rz, H5, g5, q4⟩ => ?_
  exact d_setItem hu I5 g5 ry rz fun s6 I6 => ⟨σ, H5, I6, q4⟩
theorem ps_ddel (ho : PE X o td) (hi : PE X i ty) : PS X (.Delete [.Subscript o i tpos] pos) (sDDel td ty) := by
  intro pins s σ H D I h
  refine wpAny_Delete (wpAny_deleteEach_cons (wpAny_delete_Subscript (thn (ho pins s σ H _ I h) fun u s1 ⟨x, H1, I1, rx, q1⟩ => thn (hi pins s1 σ H1 _ I1 q1) fun iv s2 ⟨y, H2, I2, ry, a, kvs, k, ex, e, ey, l, q2⟩ => ?_)))
  subst ex ey
  obtain rfl : u = Value.ref a := rx
  exact d_delItem I2 e ry l fun s3 I3 => wpAny_deleteEach_nil ⟨σ, _, I3, q2⟩
end


/-! ### displays -/
theorem dk_empty {P : Program} {w : World} {H : Hp} (h : Heap) (hb : sysModules < h.objs.size) : ObjOk P w H (h.push { cls := .type "dict", data := .dict #[] }) h.objs.size (.dK []) :=
  ⟨Nat.zero_le _, beq_eq_false_iff_ne.mpr (Ne.symm (Nat.ne_of_lt hb)), [], .nil, Heap.DictOf.new h⟩
theorem dt_empty {P : Program} {w : World} {H : Hp} (h : Heap) (hb : sysModules < h.objs.size) : ObjOk P w H (h.push { cls := .type "dict", data := .dict #[] }) h.objs.size (.dT []) :=
  ⟨Nat.zero_le _, beq_eq_false_iff_ne.mpr (Ne.symm (Nat.ne_of_lt hb)), [], .nil, _, #[], 0, Heap.get?_push_size _ rfl, ⟨rfl, rfl, rfl⟩, rfl, rfl, List.nodup_nil⟩
/-- {}, to be a dict of the kind that is wanted -/
def tDNewK : TE := fun _ H Q => ∀ p, H p = none → Q (.ref p) (upd H p (.dK []))
def tDNewT : TE := fun _ H Q => ∀ p, H p = none → Q (.ref p) (upd H p (.dT []))
section
variable {X : Cx} {pos : Pos}
theorem pe_dnewK : PE X (.Dict [] [] pos) tDNewK := fun pins s σ H Q I h =>
  wpAny_Dict_empty ⟨.ref s.heap.objs.size, _, I.laid (a := s.heap.objs.size) (o := .dK []) (t' := s.toks) (fun _ _ q => Heap.get?_push_of_some _ q) (Nat.le_refl _) (dk_empty s.heap I.big), rfl, h _ (I.hok.fresh (Nat.le_refl _))⟩
theorem pe_dnewT : PE X (.Dict [] [] pos) tDNewT := fun pins s σ H Q I h =>
  wpAny_Dict_empty ⟨.ref s.heap.objs.size, _, I.laid (a := s.heap.objs.size) (o := .dT []) (t' := s.toks) (fun _ _ q => Heap.get?_push_of_some _ q) (Nat.le_refl _) (dt_empty s.heap I.big), rfl, h _ (I.hok.fresh (Nat.le_refl _))⟩
end

/-- the pairs of a display, from the left -/
def tPairs : List (TE × TE) → St → Hp → (List (V × V) → Hp → Prop) → Prop
  | [], _, H, Q => Q [] H
  | (tk, tv) :: r, σ, H, Q => tk σ H fun x H1 => tv σ H1 fun y H2 => tPairs r σ H2 fun ps H3 => Q ((x, y) :: ps) H3
abbrev VV : List (V × V) → List (Value × Value) → Prop := Paired fun p q => RelV p.1 q.1 ∧ RelV p.2 q.2
def PPs (X : Cx) (pos : Pos) (keys : List (Option Expr)) (values : List Expr) (trs : List (TE × TE)) : Prop :=
  ∀ (pins : List (Addr × Obj)) (s : Shared) (σ : St) (H : Hp) (Q : List (V × V) → Hp → Prop), Inv X pins σ H s → tPairs trs σ H Q →
    wpAny (model X.prog X.w) X.A (evalPairs (pairTrees keys values X.env pos)) (fun vs s' => ∃ ps H', Inv X pins σ H' s' ∧ VV ps vs ∧ Q ps H') X.xe s
theorem pps_nil {X : Cx} {pos : Pos} : PPs X pos [] [] [] := fun pins s σ H Q I h => pairTrees_nil_walk ⟨[], H, I, .nil, h⟩
theorem pps_cons {X : Cx} {pos : Pos} {k v : Expr} {ks : List (Option Expr)} {vs : List Expr} {tk tv : TE} {trs : List (TE × TE)} (hk : PE X k tk) (hv : PE X v tv) (hr : PPs X pos ks vs trs) :
    PPs X pos (some k :: ks) (v :: vs) ((tk, tv) :: trs) := fun pins s σ H Q I h =>
  pairTrees_cons_walk (thn (hk pins s σ H _ I h) fun u s1 ⟨x, H1, I1, rx, q1⟩ => thn (hv pins s1 σ H1 _ I1 q1) fun w2 s2 ⟨y, H2, I2, ry, q2⟩ =>
    thn (hr pins s2 σ H2 _ I2 q2) fun ws s3 ⟨ps, H3, I3, rel, q3⟩ => ⟨(x, y) :: ps, H3, I3, .cons ⟨rx, ry⟩ rel, q3⟩)

def mergeK (kvs more : List (Key × V)) : List (Key × V) := more.foldl (fun acc kv => putK acc kv.1 kv.2) kvs
theorem KV.merge : ∀ {more : List (Key × V)} {rs : List (Key × Value)} {kvs : List (Key × V)} {vs : List (Key × Value)}, KV more rs → KV kvs vs → KV (mergeK kvs more) (merged vs rs) := by
  intro more rs kvs vs r
  unfold KV at r
  induction r generalizing kvs vs with
  | nil => intro q; exact q
  | @cons p q ps qs h t ih =>
    intro r0
    have e : KV (putK kvs p.1 p.2) (stored vs q.1 q.2) := by
      have := r0.put p.1 h.2
      rw [← h.1]; exact this
    exact ih e
theorem length_mergeK : ∀ (more kvs : List (Key × V)), (mergeK kvs more).length ≤ kvs.length + more.length
  | [], kvs => by show kvs.length ≤ kvs.length + 0; omega
  | p :: r, kvs => by
    have h1 := length_mergeK r (putK kvs p.1 p.2)
    have h2 := length_putK kvs p.1 p.2
    show (mergeK (putK kvs p.1 p.2) r).length ≤ _
    rw [List.length_cons]; omega
theorem carries_of {P : Program} {w : World} : ∀ {kvs : List (Key × V)} {ws : List (Value × Value)}, VV (kvs.map fun kv => (kV kv.1, kv.2)) ws → ∃ rs, Carries (mixKind P w) ws rs ∧ KV kvs rs
  | [], _, r => by rw [List.map_nil] at r; cases r; exact ⟨[], True.intro, .nil⟩
  | p :: kvs, _, r => by
    rw [List.map_cons] at r
    cases r with
    | @cons a b as bs h t =>
      obtain ⟨rs, c, q⟩ := carries_of (P := P) (w := w) t
      obtain ⟨b1, b2⟩ := b
      exact ⟨(p.1, b2) :: rs, ⟨kV_is h.1, rfl, c⟩, .cons ⟨rfl, h.2⟩ q⟩
/-- {k: v, ..} with keys ints and texts; the new dict stands empty while the pairs are made -/
def tDisp (trs : List (TE × TE)) : TE := fun σ H Q => ∀ p, H p = none → tPairs trs σ (upd H p (.dK [])) fun ps H2 => H2 p = some (.dK []) ∧ ∃ kvs : List (Key × V), ps = kvs.map (fun kv => (kV kv.1, kv.2)) ∧ kvs.length ≤ 15 ∧ Q (.ref p) (upd H2 p (.dK (mergeK [] kvs)))
theorem pe_disp {X : Cx} {pos : Pos} {keys : List (Option Expr)} {values : List Expr} {trs : List (TE × TE)} (h : PPs X pos keys values trs) (hall : keys.all (·.isSome) = true) (hl : keys.length = values.length) (h0 : keys ≠ [])
    (h15 : keys.length ≤ 15) : PE X (.Dict keys values pos) (tDisp trs) := by
  intro pins s σ H Q I q
  have hn := I.hok.fresh (Nat.le_refl s.heap.objs.size)
  have I1 := I.laid (a := s.heap.objs.size) (o := .dK []) (h' := s.heap.push { cls := .type "dict", data := .dict #[] }) (t' := s.toks) (fun _ _ q => Heap.get?_push_of_some _ q) (Nat.le_refl _) (dk_empty s.heap I.big)
  refine wpAny_Dict_walk (knd := mixKind X.prog X.w) hall hl h0 h15 (thn (h pins _ σ _ _ I1 (q _ hn)) fun ws s2 ⟨ps, H2, I2, rel, e, kvs, ep, lk, q2⟩ => ?_)
  subst ep
  obtain ⟨rs, c, rk⟩ := carries_of (P := X.prog) (w := X.w) rel
  obtain ⟨z, hd, vs0, r0, dd⟩ := dk_of I2.hok e
  cases r0
  refine ⟨rs, c, dd, fun h' dd' hs => ⟨.ref s.heap.objs.size, _, ?_, rfl, q2⟩⟩
  have hz : (mergeK [] kvs).length ≤ sizeLine := by
    have h1 := length_mergeK kvs []
    rw [List.length_nil] at h1
    rw [sizeLine_eq]; omega
  have he : ∃ q, h'.get? s.heap.objs.size = some q := let ⟨q, _, _, hq, _⟩ := dd'; ⟨q, hq⟩
  exact d_write I2 (by rw [e]; exact True.intro) hs he (dk_new hz hd (rk.merge .nil) dd')


/-! ### methods -/
/-- a method call o.m(e) of a built-in, with one argument: what must be seen of the text -/
structure M1 (X : Cx) (o : Expr) (m : Str) (apos : Pos) (e : Expr) (cpos : Pos) : Prop where
  base : attributeBase o m X.env (eval o X.env) = eval o X.env
  few : ((backTo cpos (starEach [e] X.env)).all (fun x => !x.1) && (backToKw cpos (keywordEach [] X.env)).all (fun x => x.1.isSome)
    && decide (([e] : List Expr).length + ([] : List Keyword).length + (if ([] : List Keyword).isEmpty then 0 else 1) < 30)) = true
  line : (apos.endLine == cpos.line) = true
  trees : backTo cpos (starEach [e] X.env) = [(false, eval e X.env)]
structure M2 (X : Cx) (o : Expr) (m : Str) (apos : Pos) (e f : Expr) (cpos : Pos) : Prop where
  base : attributeBase o m X.env (eval o X.env) = eval o X.env
  few : ((backTo cpos (starEach [e, f] X.env)).all (fun x => !x.1) && (backToKw cpos (keywordEach [] X.env)).all (fun x => x.1.isSome)
    && decide (([e, f] : List Expr).length + ([] : List Keyword).length + (if ([] : List Keyword).isEmpty then 0 else 1) < 30)) = true
  line : (apos.endLine == cpos.line) = true
  trees : backTo cpos (starEach [e, f] X.env) = [(false, eval e X.env), (false, eval f X.env)]

/-- a is a dict, whatever its keys -/
def IsD (H : Hp) (a : Addr) : Prop := (∃ kvs, Rd H a (.dK kvs)) ∨ ∃ kvs, Rd H a (.dT kvs)
theorem isD_at {X : Cx} {pins : List (Addr × Obj)} {σ : St} {H : Hp} {s : Shared} {a : Addr} (I : Inv X pins σ H s) (d : IsD H a) :
    s.TypeIs (.ref a) "dict" ∧ (∀ b, Value.ref a = .ref b → ∃ ob, s.heap.get? b = some ob ∧ ob.dict = none) ∧ (a == sysModules) = false := by
  rcases d with ⟨kvs, e⟩ | ⟨kvs, e⟩
  · obtain ⟨_, hd, vs, _, dd⟩ := dk_rd I.hok e
    refine ⟨dd.typeIs, fun b q => ?_, hd⟩
    cases q
    obtain ⟨ob, _, _, h1, h2, _⟩ := dd
    exact ⟨ob, h1, h2.2.1⟩
  · obtain ⟨_, hd, xs, _, dd⟩ := dt_rd I.hok e
    refine ⟨dd.typeIs, fun b q => ?_, hd⟩
    cases q
    obtain ⟨ob, _, _, h1, h2, _⟩ := dd
    exact ⟨ob, h1, h2.2.1⟩

section
variable {X : Cx} {pins : List (Addr × Obj)} {σ : St} {H : Hp} {s : Shared} {a : Addr} {y d : V} {u r : Value} {o : Option V} {A : Around} {E : Value → Shared → Prop}
/-- d.get(y) -/
theorem d_get1 {Q : Value → Shared → Prop} (hu : A.units + 1 < cLine) (I : Inv X pins σ H s) (g : DGet H a y o) (ry : RelV y u) (h : ∀ w' s', Inv X pins σ H s' → RelV (o.getD .non) w' → Q w' s') :
    wpAny (model X.prog X.w) A (call (.builtin "dict.get") [.ref a, u]) Q E s := by
  rcases g with ⟨kvs, k, e, ey, l⟩ | ⟨kvs, k, b, e, ey, eb, l⟩
  · subst ey
    obtain ⟨z, hd, vs, rel, dd⟩ := dk_rd I.hok e
    refine call_meetsIn PySem.F.slot_dict_get dd.typeIs PySem.F.entry_dict_get (PySem.F.args_dict_get_2 _ _) (meets_dict_get (mixKind X.prog X.w) a (kV_is ry) hd) ⟨_, dd.mapOf, h _ _ (I.tok _) ?_⟩
    rw [l]
    exact (rel.val k).getD rfl
  · subst ey
    cases (show u = Value.ref b from ry)
    obtain ⟨z, hd, xs, rel, dd⟩ := dt_rd I.hok e
    refine call_meetsIn PySem.F.slot_dict_get dd.typeIs PySem.F.entry_dict_get (PySem.F.args_dict_get_2 _ _) (meetsH_dict_get (tupleKind (mixKind X.prog X.w)) a b hd) ⟨tupleKind_room_in1 hu, k, xs, key_of I.hok eb, dd, h _ _ (I.tok _) ?_⟩
    rw [l]
    exact (rel.val k).getD rfl
/-- d.get(y, x) -/
theorem d_get2 {Q : Value → Shared → Prop} (hu : A.units + 1 < cLine) (I : Inv X pins σ H s) (g : DGet H a y o) (ry : RelV y u) (rd : RelV d r) (h : ∀ w' s', Inv X pins σ H s' → RelV (o.getD d) w' → Q w' s') :
    wpAny (model X.prog X.w) A (call (.builtin "dict.get") [.ref a, u, r]) Q E s := by
  rcases g with ⟨kvs, k, e, ey, l⟩ | ⟨kvs, k, b, e, ey, eb, l⟩
  · subst ey
    obtain ⟨z, hd, vs, rel, dd⟩ := dk_rd I.hok e
    refine call_meetsIn PySem.F.slot_dict_get dd.typeIs PySem.F.entry_dict_get (PySem.F.args_dict_get_3 _ _ _) (meets_dict_get_default (mixKind X.prog X.w) a (kV_is ry) hd r) ⟨_, dd.mapOf, h _ _ (I.tok _) ?_⟩
    rw [l]
    exact (rel.val k).getD rd
  · subst ey
    cases (show u = Value.ref b from ry)
    obtain ⟨z, hd, xs, rel, dd⟩ := dt_rd I.hok e
    refine call_meetsIn PySem.F.slot_dict_get dd.typeIs PySem.F.entry_dict_get (PySem.F.args_dict_get_3 _ _ _) (meetsH_dict_get_default (tupleKind (mixKind X.prog X.w)) a b hd r) ⟨tupleKind_room_in1 hu, k, xs, key_of I.hok eb, dd, h _ _ (I.tok _) ?_⟩
    rw [l]
    exact (rel.val k).getD rd
end

def tDGet1 (td ty : TE) : TE := fun σ H Q => td σ H fun x H1 => ∃ a, x = .ref a ∧ IsD H1 a ∧ ty σ H1 fun y H2 => ∃ o, DGet H2 a y o ∧ Q (o.getD .non) H2
def tDGet2 (td ty tx : TE) : TE := fun σ H Q => td σ H fun x H1 => ∃ a, x = .ref a ∧ IsD H1 a ∧ ty σ H1 fun y H2 => tx σ H2 fun z H3 => ∃ o, DGet H3 a y o ∧ Q (o.getD z) H3
/-- d.pop(k): there; d.pop(k, x): there or not -/
def tDPop1 (td ty : TE) : TE := fun σ H Q => td σ H fun x H1 => ∃ a, x = .ref a ∧ IsD H1 a ∧ ty σ H1 fun y H2 => ∃ kvs k v, H2 a = some (.dK kvs) ∧ y = kV k ∧ valV kvs k = some v ∧ Q v (upd H2 a (.dK (dropK kvs k)))
def tDPop2 (td ty tx : TE) : TE := fun σ H Q => td σ H fun x H1 => ∃ a, x = .ref a ∧ IsD H1 a ∧ ty σ H1 fun y H2 => tx σ H2 fun z H3 => ∃ kvs k, H3 a = some (.dK kvs) ∧ y = kV k ∧
  (∀ v, valV kvs k = some v → Q v (upd H3 a (.dK (dropK kvs k)))) ∧ (valV kvs k = none → Q z H3)
section
variable {X : Cx} {o e f : Expr} {apos cpos : Pos} {td ty tx : TE}
theorem pe_dget1 (hu : X.A.units + 1 < cLine) (ho : PE X o td) (he : PE X e ty) (m : M1 X o "get" apos e cpos) : PE X (.Call (.Attribute o "get" apos) [e] [] cpos) (tDGet1 td ty) := by
  intro pins s σ H Q I h
  refine wpAny_Call_method m.base m.few m.line PySem.F.plainAttrs_dict PySem.F.slot_dict_get PySem.F.type_dict_get (thn (ho pins s σ H _ I h) fun u s1 ⟨x, H1, I1, rx, a, ex, d, q1⟩ => ?_)
  subst ex
  obtain rfl : u = Value.ref a := rx
  obtain ⟨t1, t2, _⟩ := isD_at I1 d
  refine ⟨t1, t2, ?_⟩
  rw [m.trees]
  refine Calls.callWith_builtin rfl (Calls.evalArgs_plain (Calls.spliced_cons (thn (he pins s1 σ H1 _ I1 q1) fun iv s2 ⟨y, H2, I2, ry, ov, g, q2⟩ => Calls.spliced_nil ?_)))
  exact d_get1 hu I2 g ry fun w' s3 I3 rw' => ⟨_, H2, I3, rw', q2⟩
theorem pe_dget2 (hu : X.A.units + 1 < cLine) (ho : PE X o td) (he : PE X e ty) (hf : PE X f tx) (m : M2 X o "get" apos e f cpos) : PE X (.Call (.Attribute o "get" apos) [e, f] [] cpos) (tDGet2 td ty tx) := by
  intro pins s σ H Q I h
  refine wpAny_Call_method m.base m.few m.line PySem.F.plainAttrs_dict PySem.F.slot_dict_get PySem.F.type_dict_get (thn (ho pins s σ H _ I h) fun u s1 ⟨x, H1, I1, rx, a, ex, d, q1⟩ => ?_)
  subst ex
  obtain rfl : u = Value.ref a := rx
  obtain ⟨t1, t2, _⟩ := isD_at I1 d
  refine ⟨t1, t2, ?_⟩
  rw [m.trees]
  refine Calls.callWith_builtin rfl (Calls.evalArgs_plain (Calls.spliced_cons (thn (he pins s1 σ H1 _ I1 q1) fun iv s2 ⟨y, H2, I2, ry, q2⟩ =>
    Calls.spliced_cons (thn (hf pins s2 σ H2 _ I2 q2) fun fv s3 ⟨z, H3, I3, rz, ov, g, q3⟩ => Calls.spliced_nil ?_))))
  exact d_get2 hu I3 g ry rz fun w' s4 I4 rw' => ⟨_, H3, I4, rw', q3⟩
theorem pe_dpop1 (ho : PE X o td) (he : PE X e ty) (m : M1 X o "pop" apos e cpos) : PE X (.Call (.Attribute o "pop" apos) [e] [] cpos) (tDPop1 td ty) := by
  intro pins s σ H Q I h
  refine wpAny_Call_method m.base m.few m.line PySem.F.plainAttrs_dict PySem.F.slot_dict_pop PySem.F.type_dict_pop (thn (ho pins s σ H _ I h) fun u s1 ⟨x, H1, I1, rx, a, ex, d, q1⟩ => ?_)
  subst ex
  obtain rfl : u = Value.ref a := rx
  obtain ⟨t1, t2, _⟩ := isD_at I1 d
  refine ⟨t1, t2, ?_⟩
  rw [m.trees]
  refine Calls.callWith_builtin rfl (Calls.evalArgs_plain (Calls.spliced_cons (thn (he pins s1 σ H1 _ I1 q1) fun iv s2 ⟨y, H2, I2, ry, kvs, k, v, ea, ey, l, q2⟩ => Calls.spliced_nil ?_)))
  subst ey
  exact d_pop I2 ea ry l (.inl rfl) fun w' s3 I3 rw' => ⟨v, _, I3, rw', q2⟩
theorem pe_dpop2 (ho : PE X o td) (he : PE X e ty) (hf : PE X f tx) (m : M2 X o "pop" apos e f cpos) : PE X (.Call (.Attribute o "pop" apos) [e, f] [] cpos) (tDPop2 td ty tx) := by
  intro pins s σ H Q I h
  refine wpAny_Call_method m.base m.few m.line PySem.F.plainAttrs_dict PySem.F.slot_dict_pop PySem.F.type_dict_pop (thn (ho pins s σ H _ I h) fun u s1 ⟨x, H1, I1, rx, a, ex, d, q1⟩ => ?_)
  subst ex
  obtain rfl : u = Value.ref a := rx
  obtain ⟨t1, t2, _⟩ := isD_at I1 d
  refine ⟨t1, t2, ?_⟩
  rw [m.trees]
  refine Calls.callWith_builtin rfl (Calls.evalArgs_plain (Calls.spliced_cons (thn (he pins s1 σ H1 _ I1 q1) fun iv s2 ⟨y, H2, I2, ry, q2⟩ =>
    Calls.spliced_cons (thn (hf pins s2 σ H2 _ I2 q2) fun fv s3 ⟨z, H3, I3, rz, kvs, k, ea, ey, q3, q4⟩ => Calls.spliced_nil ?_))))
  subst ey
  cases l : valV kvs k with
  | some v => exact d_pop I3 ea ry l (.inr ⟨fv, rfl⟩) fun w' s4 I4 rw' => ⟨v, _, I4, rw', q3 v l⟩
  | none => exact d_popD I3 ea ry l fun s4 I4 => ⟨z, H3, I4, rz, q4 l⟩
end

/-! ### dict(d): a copy -/
section
variable {X : Cx} {pins : List (Addr × Obj)} {σ : St} {H : Hp} {s : Shared} {a : Addr} {kvs : List (Key × V)} {A : Around} {E : Value → Shared → Prop}
theorem d_copyOf {Q : Value → Shared → Prop} (I : Inv X pins σ H s) (e : Rd H a (.dK kvs)) (h : ∀ p s', H p = none → Inv X pins σ (upd H p (.dK kvs)) s' → Q (.ref p) s') : wpAny (model X.prog X.w) A (call (.type "dict") [.ref a]) Q E s := by
  obtain ⟨z, hd, vs, rel, dd⟩ := dk_rd I.hok e
  refine kt_call_dict hd dd (by rw [← rel.length]; exact z) fun h' dd' hs => ?_
  refine h _ _ (I.hok.fresh (Nat.le_refl _)) (I.laid (a := s.heap.objs.size) (o := .dK kvs) (t' := s.toks) (fun b q hq => ?_) (Nat.le_refl _) (dk_new z (beq_eq_false_iff_ne.mpr (Ne.symm (Nat.ne_of_lt I.big))) rel dd'))
  exact (hs.2 b (Nat.ne_of_lt (Heap.lt_size hq))).trans (Heap.get?_push_of_some _ hq)
end


section
variable {X : Cx} {pins : List (Addr × Obj)} {σ : St} {H : Hp} {s : Shared} {a : Addr} {y : V} {u : Value} {A : Around} {E : Value → Shared → Prop}
/-- d[y], not there: a KeyError -/
theorem d_missing {Q : Value → Shared → Prop} (hu : A.units + 1 < cLine) (hh : A.handled = none) (I : Inv X pins σ H s) (g : DGet H a y none) (ry : RelV y u)
    (h : ∀ h' e t', Heap.NewExc s.heap h' e "KeyError" → E (.ref e) { s with heap := h', toks := t' }) : wpAny (model X.prog X.w) A (getItem (.ref a) u) Q E s := by
  rcases g with ⟨kvs, k, e, ey, l⟩ | ⟨kvs, k, b, e, ey, eb, l⟩
  · subst ey
    obtain ⟨z, hd, vs, rel, dd⟩ := dk_rd I.hok e
    have hn : valueAt vs k = none := RelO.none_of (by rw [l]; exact rel.val k)
    exact wpAny_getItem_missing_of (kV_is ry) hd hh dd.mapOf hn fun h' ex ne => h h' ex _ ne
  · subst ey
    cases (show u = Value.ref b from ry)
    obtain ⟨z, hd, xs, rel, dd⟩ := dt_rd I.hok e
    have hn : (atKey xs k).map (·.2) = none := RelO.none_of (by rw [l]; exact rel.val k)
    exact wpAny_getItem_missing_heap (tupleKind_room_in1 hu) (key_of I.hok eb) hd hh dd (Option.map_eq_none_iff.mp hn) fun h' ex ne => h h' ex _ ne
end
end L2

namespace Att
open PySem PySem.W PySem.Calls PyProof.Rows

/-! ### the script -/
theorem ints_of_wellAll {P : Params} {h : Heap} : ∀ (ns : List Int) (vs : List Value), WellAll P h vs (ns.map WData.int) → IntsAre vs ns := by
  intro ns
  induction ns with
  | nil =>
    intro vs w
    rw [List.map_nil] at w
    cases w
    exact .nil
  | cons n ns ih =>
    intro vs w
    rw [List.map_cons] at w
    cases w with
    | cons a b =>
      cases a
      exact .cons _ _ (ih _ b)

theorem script_of {l : OpenLaw} {n : Nat} (hn : l.most = some n) {P : Params} {h : Heap} {args : List WData} {vals : List Value}
    (hpre : l.row.toRowW.claim.pre args = true) (hwl : WellAll P h vals args) :
    ∃ a vs ns, vals = [Value.ref a] ∧ args = [WData.list (ns.map WData.int)] ∧ h.get? a = some { cls := .type "list", data := .seq vs.toArray } ∧ IntsAre vs ns ∧ ns.length ≤ n := by
  have hsh : WShape.hasAll [] args [.list .int] = true := (pre_splitW hpre).1
  have hc : l.pre.holds [] { args := args } = true := (pre_splitW hpre).2
  obtain ⟨d, r, rfl, h1, h2⟩ := hasAllW_cons hsh
  obtain rfl := hasAllW_nil h2
  obtain ⟨xs, rfl, h3⟩ := hasW_list h1
  obtain ⟨ns, rfl⟩ := items_int h3
  have hlen : ns.length ≤ n := by
    unfold OpenLaw.pre at hc
    have h4 : (WTm.not (.lt (.lit (.int (n : Int))) (.len (.arg 0)))).holds [] { args := [.list (ns.map .int)] } = true := by
      have h4 := (holds_andW hc).1
      rw [hn] at h4
      exact h4
    have h5 := condW_of h4 (w_not (w_lt w_lit (w_len_list (w_arg rfl))))
    rw [List.length_map] at h5
    refine Nat.le_of_not_lt fun q => ?_
    have q' : (n : Int) < ((ns.length : Nat) : Int) := by omega
    first
      | (rw [decide_eq_true q'] at h5; exact absurd h5 (by decide))
      | (simp at h5; omega)
  cases hwl with
  | cons w1 w2 =>
    cases w2
    cases w1 with
    | list ho hall => exact ⟨_, _, ns, rfl, rfl, ho, ints_of_wellAll ns _ hall, hlen⟩

theorem post_true (l : OpenLaw) (args : List WData) : l.row.toRowW.claim.post args (.bool true) args = true :=
  postW_of (r := l.row.toRowW) (X := (true == true))
    (show WShape.has [] (.bool true) .bool = true by first | rfl | decide | simp [WShape.has, WShape.arms, WShape.armsAll])
    (show (WTm.eq .res (.lit (.bool true))).value [] { args := args, res := some (.bool true), after := args } = some (.bool (true == true)) from w_eq_bool (w_res rfl) w_lit) rfl

/-! ### the attachment: holds_open's last premise (the goal 'hc' behind k_head) from a wpAny of the law's body -/
theorem attach {l : OpenLaw} {n : Nat} {q : Program} {loose : List Str} {XP : (Str → Option Value) → Heap → Prop} {YP : World → Heap → Prop} {d : DefRec} {x : Str}
    (hn : l.most = some n) (hdf : d.params.defaults = [])
    (hbind : ∀ pm cd doc v : Value, bindArgs (docDef d.name d.params d.body d.scope pm cd doc) ⟨[v], []⟩ = pure [(x, v)])
    (hx : d.scope.names.lookup x = some .local ∨ d.scope.names.lookup x = some .cell)
    (hk : d.scope.kind = .function) (hco : d.scope.isCoroutine = false) (hgen : d.scope.isGenerator = false)
    (body : ∀ (w : World) (s₀ s₁ s : Shared) (mg mb : Str → Option Value) (fa : Addr) (o : Obj) (pm cd doc : Value) (a : Addr) (vs : List Value) (ns : List Int),
      Ground q loose [] XP w s₀ mg mb s₁.heap → YP w s₁.heap →
      s₁.heap.get? fa = some o → o.data = .func (docDef d.name d.params d.body d.scope pm cd doc) → s₁.heap.CodeRec cd d.name → mg d.name = some (.ref fa) →
      s₁.heap.get? a = some { cls := .type "list", data := .seq vs.toArray } → IntsAre vs ns → ns.length ≤ n →
      s.gens = #[] → s.os = s₁.os →
      Fr s₁.heap s₁.heap.objs.size s.heap (bindL (envOfC d.name d.scope s₁.heap.objs.size fa cd).kindOf [(x, .ref a)] fun _ => none) →
      Cl s₁.heap.objs.size (cellsFrom (s₁.heap.objs.size + 1) d.scope.names []) s.heap (bindC (envOfC d.name d.scope s₁.heap.objs.size fa cd).kindOf [(x, .ref a)] fun _ => none) →
      wpAny (model l.prog w) (callerA.deeper (envOfC d.name d.scope s₁.heap.objs.size fa cd)) (execs d.body (envOfC d.name d.scope s₁.heap.objs.size fa cd))
        (fun f s' => f = .ret (.bool true) ∧ OldK s₁.heap s'.heap ∧ s'.os = s₁.os ∧ AllBare s'.gens) (fun _ _ => False) s) :
    WalkO q loose XP YP l.row.toRowW d [] (fun f vs => PySem.call f vs) := by
  intro w s₀ s₁ mg mb G Y fa o pm cd doc dV kV ho hd hcd hD hmg hg args vals as hpre hlay hrd hwl hlo
  obtain rfl : dV = .none := Dflts.none hD hdf
  obtain rfl : kV = .none := Dflts.noKw hD
  obtain ⟨a, vs, ns, rfl, rfl, hobj, hints, hlen⟩ := script_of hn hpre hwl
  refine enter_call ?_
  refine call_cells_ret (o := o) (by rw [depth_caller]; decide) ho (fd_plain hd) G.T.nolimit hcd (hbind pm cd doc (.ref a)) (fun y hy => ?_) (fun h₁ tk F X => ?_) hco hgen hk
  · obtain rfl : y = (x, Value.ref a) := List.mem_singleton.mp hy
    rcases hx with e | e
    · exact .inl e
    · exact .inr ⟨e, cellsFrom_some _ _ _ (.inl e)⟩
  · refine wpAny_mono (body w s₀ s₁ { s₁ with heap := h₁, toks := tk } mg mb fa o pm cd doc a vs ns G Y ho (fd_plain hd) hcd hmg hobj hints hlen hg rfl F X) (fun f s' hq => ?_) (fun _ _ hq => hq)
    obtain ⟨rfl, h2, h3, h4⟩ := hq
    exact ⟨.inl ⟨.bool true, .bool true, [], rfl, fun _ => rfl, .bool true, post_true l _, fun _ => ⟨List.Pairwise.nil, fun _ hm => (nomatch hm)⟩⟩, h2, h3, h4⟩

/-- the same from a codeAny of the CALL (for a layer whose function contracts speak of calls) -/
theorem attach_call {l : OpenLaw} {n : Nat} {q : Program} {loose : List Str} {XP : (Str → Option Value) → Heap → Prop} {YP : World → Heap → Prop} {d : DefRec}
    (hn : l.most = some n) (hdf : d.params.defaults = [])
    (call : ∀ (w : World) (s₀ s₁ : Shared) (mg mb : Str → Option Value) (fa : Addr) (o : Obj) (pm cd doc : Value) (a : Addr) (vs : List Value) (ns : List Int),
      Ground q loose [] XP w s₀ mg mb s₁.heap → YP w s₁.heap →
      s₁.heap.get? fa = some o → o.data = .func (docDef d.name d.params d.body d.scope pm cd doc) → s₁.heap.CodeRec cd d.name → mg d.name = some (.ref fa) →
      s₁.heap.get? a = some { cls := .type "list", data := .seq vs.toArray } → IntsAre vs ns → ns.length ≤ n → s₁.gens = #[] →
      codeAny (model l.prog w) callerA (.call (.ref fa) ⟨[.ref a], []⟩) (fun r s' => r = .ok (.ret (.bool true)) ∧ OldK s₁.heap s'.heap ∧ s'.os = s₁.os ∧ AllBare s'.gens) s₁) :
    WalkO q loose XP YP l.row.toRowW d [] (fun f vs => PySem.call f vs) := by
  intro w s₀ s₁ mg mb G Y fa o pm cd doc dV kV ho hd hcd hD hmg hg args vals as hpre hlay hrd hwl hlo
  obtain rfl : dV = .none := Dflts.none hD hdf
  obtain rfl : kV = .none := Dflts.noKw hD
  obtain ⟨a, vs, ns, rfl, rfl, hobj, hints, hlen⟩ := script_of hn hpre hwl
  refine enter_call (codeAny_mono (call w s₀ s₁ mg mb fa o pm cd doc a vs ns G Y ho (fd_plain hd) hcd hmg hobj hints hlen hg) fun r s' hq => ?_)
  obtain ⟨rfl, h2, h3, h4⟩ := hq
  exact ⟨.inl ⟨.bool true, .bool true, [], rfl, fun _ => rfl, .bool true, post_true l _, fun _ => ⟨List.Pairwise.nil, fun _ hm => (nomatch hm)⟩⟩, h2, h3, h4⟩

/-- the same where the top left finished generators (o_head chose holds_openN): nothing may have changed at all and no generator may be left -/
theorem attachN {l : OpenLaw} {n : Nat} {q : Program} {loose : List Str} {XP : (Str → Option Value) → Heap → Prop} {YP : World → Heap → Prop} {d : DefRec} {x : Str}
    (hn : l.most = some n) (hdf : d.params.defaults = [])
    (hbind : ∀ pm cd doc v : Value, bindArgs (docDef d.name d.params d.body d.scope pm cd doc) ⟨[v], []⟩ = pure [(x, v)])
    (hx : d.scope.names.lookup x = some .local ∨ d.scope.names.lookup x = some .cell)
    (hk : d.scope.kind = .function) (hco : d.scope.isCoroutine = false) (hgen : d.scope.isGenerator = false)
    (body : ∀ (w : World) (s₀ s₁ s : Shared) (mg mb : Str → Option Value) (fa : Addr) (o : Obj) (pm cd doc : Value) (a : Addr) (vs : List Value) (ns : List Int),
      Ground q loose [] XP w s₀ mg mb s₁.heap → YP w s₁.heap →
      s₁.heap.get? fa = some o → o.data = .func (docDef d.name d.params d.body d.scope pm cd doc) → s₁.heap.CodeRec cd d.name → mg d.name = some (.ref fa) →
      s₁.heap.get? a = some { cls := .type "list", data := .seq vs.toArray } → IntsAre vs ns → ns.length ≤ n →
      s.gens = #[] → s.os = s₁.os →
      Fr s₁.heap s₁.heap.objs.size s.heap (bindL (envOfC d.name d.scope s₁.heap.objs.size fa cd).kindOf [(x, .ref a)] fun _ => none) →
      Cl s₁.heap.objs.size (cellsFrom (s₁.heap.objs.size + 1) d.scope.names []) s.heap (bindC (envOfC d.name d.scope s₁.heap.objs.size fa cd).kindOf [(x, .ref a)] fun _ => none) →
      wpAny (model l.prog w) (callerA.deeper (envOfC d.name d.scope s₁.heap.objs.size fa cd)) (execs d.body (envOfC d.name d.scope s₁.heap.objs.size fa cd))
        (fun f s' => f = .ret (.bool true) ∧ (∀ b o, s₁.heap.get? b = some o → s'.heap.get? b = some o) ∧ s'.os = s₁.os ∧ s'.gens = #[]) (fun _ _ => False) s) :
    WalkN q loose XP YP l.row.toRowW d [] (fun f vs => PySem.call f vs) := by
  intro w s₀ s₁ mg mb G Y fa o pm cd doc dV kV ho hd hcd hD hmg hg args vals as hpre hlay hrd hwl hlo
  obtain rfl : dV = .none := Dflts.none hD hdf
  obtain rfl : kV = .none := Dflts.noKw hD
  obtain ⟨a, vs, ns, rfl, rfl, hobj, hints, hlen⟩ := script_of hn hpre hwl
  refine enter_callW ?_
  refine call_cells_ret (o := o) (by rw [depth_caller]; decide) ho (fd_plain hd) G.T.nolimit hcd (hbind pm cd doc (.ref a)) (fun y hy => ?_) (fun h₁ tk F X => ?_) hco hgen hk
  · obtain rfl : y = (x, Value.ref a) := List.mem_singleton.mp hy
    rcases hx with e | e
    · exact .inl e
    · exact .inr ⟨e, cellsFrom_some _ _ _ (.inl e)⟩
  · refine wpAny_mono (body w s₀ s₁ { s₁ with heap := h₁, toks := tk } mg mb fa o pm cd doc a vs ns G Y ho (fd_plain hd) hcd hmg hobj hints hlen hg rfl F X) (fun f s' hq => ?_) (fun _ _ hq => hq)
    obtain ⟨rfl, h2, h3, h4⟩ := hq
    exact ⟨.inl ⟨.bool true, .bool true, [], rfl, fun _ => rfl, .bool true, post_true l _, fun _ => ⟨List.Pairwise.nil, fun _ hm => (nomatch hm)⟩⟩, h2, h3, h4⟩

/-! ### rules over ANY heap (no ledger) from facts about the written part K: the library's own take a ledger (News) for what they write -/
section
variable {prog : Program} {w : World} {A : Around} {E : Value → Shared → Prop} {s : Shared} {K : Frag}

/-- a def of the module, or a method (qual 'C.m'), entered: the frame is the next address; cells behind it -/
theorem call_fn {R : Result → Shared → Prop} {name qual : Str} {params : Arguments} {body : List Stmt} {scope : Scope} {dV kV doc pm cdv ct oc : Value} {an od : Option Addr} {osl : Array (Option Value)} {f : Addr} {args : Args} {binds : List (Str × Value)}
    (X : K.In s.heap) (hlim : s.heap.NoLimit) (ho : K.lookup f = some ⟨oc, od, .func (fnOf name qual params body scope dV kV doc pm an cdv ct), osl⟩) (hcd : codeIn K cdv qual = true) (hroom : A.depth < recursionLimit)
    (hbind : BindsTo s (fnOf name qual params body scope dV kV doc pm an cdv ct) args binds)
    (hkind : (binds.all fun y => scope.names.lookup y.1 == some .local || scope.names.lookup y.1 == some .cell) = true)
    (h : ∀ s₁, InCallC s s.heap.objs.size (bindL (envOfC qual scope s.heap.objs.size f cdv).kindOf binds fun _ => none) (cellsFrom (s.heap.objs.size + 1) scope.names [])
        (bindC (envOfC qual scope s.heap.objs.size f cdv).kindOf binds fun _ => none) s₁ →
      wpAny (model prog w) (A.deeper (envOfC qual scope s.heap.objs.size f cdv)) (execs body (envOfC qual scope s.heap.objs.size f cdv))
        (fun fl s' => R (.ok (.ret (match fl with | .ret v => v | _ => .none))) s')
        (fun e s' => wpAny (model prog w) (A.deeper (envOfC qual scope s.heap.objs.size f cdv)) (leaving (envOfC qual scope s.heap.objs.size f cdv) e) (fun _ s'' => R (.error e) s'') (fun e' s'' => R (.error e') s'') s') s₁)
    (hco : scope.isCoroutine = false) (hgen : scope.isGenerator = false) (hk : scope.kind = .function) : codeAny (model prog w) A (.call (.ref f) args) R s := by
  refine codeAny_call_function hroom (X _ _ ho) rfl hco hgen rfl (codeRec_of X hcd) (hbind _ _ _ _ ?_)
  refine wpAny_newFunctionEnv_cells hk (kindsX hkind _) fun env he s₁ x => ?_
  subst he
  exact ⟨hlim.keeps x.toInCall.keep, codeAny_func (h s₁ x)⟩

/-- C(..): dict at size, instance at size + 1, then __init__ -/
theorem make_obj {R : Result → Shared → Prop} {C fI : Addr} {rest : List Value} {kw : List (Str × Value)}
    (X : K.In s.heap) (hm : makesIn K C = true) (hi : findIn K (.ref C) "__init__" = some (some (.ref fI))) (hf : isFn K (.ref fI) = true)
    (h : codeAny (model prog w) (A.under (.builtin "type.__call__" ⟨.ref C :: rest, kw⟩)) (.call (.ref fI) ⟨.ref (s.heap.objs.size + 1) :: rest, kw⟩) (InitBack (s.heap.objs.size + 1) R)
      { s with heap := (s.heap.push emptyDict).push (instObj C s.heap.objs.size) }) : codeAny (model prog w) A (.call (.ref C) ⟨rest, kw⟩) R s := by
  obtain ⟨hh, g, d, t, os⟩ := s
  exact make_core (makes_of X hm) (looks_findIn X hi) (fun self => bind_fn X self (beq_iff_eq.mp hf)) (.inl rfl) h

/-- x.name where the instance's dict holds the name and the class does not -/
theorem get_field {x C : Addr} {ox : Obj} {es : List DictEntry} {n : Nat} {name : Str} {expr : Bool} {v : Value} {Q : Value → Shared → Prop}
    (X : K.In s.heap) (I : PySem.W.InstAt s.heap x ox C (some (dictOf es n))) (hg : plainGet K C name = true) (hh : hasDictIn K C = true) (ha : findIn K (.ref C) name = some none)
    (hl : getL name es = some (some v)) (hv : handedIn v = true) (h : Q v { s with toks := s.toks + 1 }) : wpAny (model prog w) A (getAttr (.ref x) name expr) Q E s :=
  get_value X I (plainGet_of hg).1 (findObj_own hh ha rfl hl) hv h

/-- x.m(..): the method found in the class -/
theorem get_method {x C f : Addr} {ox : Obj} {es : List DictEntry} {n : Nat} {name : Str} {pl : Sem Bool} {Q : Value × List Value → Shared → Prop}
    (X : K.In s.heap) (I : PySem.W.InstAt s.heap x ox C (some (dictOf es n))) (hg : plainGet K C name = true) (hf : findIn K (.ref C) name = some (some (.ref f))) (ht : isFn K (.ref f) = true)
    (hl : getL name es = some none) (h : Q (.ref f, [.ref x]) s) : wpAny (model prog w) A (getMethod (.ref x) name pl) Q E s :=
  method_fn X I (plainGet_of hg).1 (plainGet_of hg).2 hf (beq_iff_eq.mp ht) (by show (lookIn name (dictOf es n)).map _ = _; rw [lookIn_dict, hl]; rfl) h

/-! the whole heap as the ledger: makes every rule that writes through a ledger a rule over any heap -/
def noObjs (h : Heap) : Heap := { h with objs := #[] }
theorem noObjs_get (h : Heap) (b : Addr) : (noObjs h).get? b = none := by
  cases e : (noObjs h).get? b with
  | none => rfl
  | some o => exact absurd (Heap.lt_size e) (Nat.not_lt_zero _)
def ledger (h : Heap) (L d : Addr) : List (Addr × Obj) := (List.range h.objs.size).filterMap fun a => if a = L ∨ a = d then none else (h.get? a).map fun o => (a, o)
theorem mem_ledger {h : Heap} {L d a : Addr} {o : Obj} : (a, o) ∈ ledger h L d ↔ a ≠ L ∧ a ≠ d ∧ h.get? a = some o := by
  unfold ledger
  rw [List.mem_filterMap]
  constructor
  · rintro ⟨b, _, e⟩
    split at e
    · cases e
    · rename_i hb
      obtain ⟨o', ho, e'⟩ := Option.map_eq_some_iff.mp e
      cases e'
      exact ⟨fun q => hb (.inl q), fun q => hb (.inr q), ho⟩
  · rintro ⟨n1, n2, ho⟩
    refine ⟨a, List.mem_range.mpr (Heap.lt_size ho), ?_⟩
    rw [if_neg (show ¬ (a = L ∨ a = d) from fun q => q.elim n1 n2), ho] <;> rfl
theorem news_ledger {h : Heap} {L d : Addr} {od : Obj} (hne : d ≠ L) (ho : h.get? d = some od) : News (noObjs h) L h ([] ++ (d, od) :: ledger h L d) := by
  rintro ⟨a, o⟩ hp
  rcases List.mem_cons.mp hp with e | hp
  · cases e
    exact ⟨ho, hne, noObjs_get _ _⟩
  · obtain ⟨n1, n2, e⟩ := mem_ledger.mp hp
    exact ⟨e, n1, noObjs_get _ _⟩
theorem fr_all {h : Heap} {L : Addr} {m : Str → Option Value} (n : h.Ns L m) : Fr (noObjs h) L h m :=
  ⟨n, fun b o e => (by rw [noObjs_get] at e; cases e), Nat.zero_le _⟩
/-- Upd of the head entry (for append_K, setItem_K ..) -/
theorem upd_ledger {h : Heap} {L d : Addr} {o o' : Obj} : Upd d o o' ((d, o) :: ledger h L d) ((d, o') :: ledger h L d) :=
  .head fun ⟨_, _⟩ hp => (mem_ledger.mp hp).2.1

/-- x.name = v over any heap: L is any namespace of the heap (the frame's, say): its map stays, its object is not told; all else but the dict stays -/
theorem set_field {x C dx L : Addr} {ox : Obj} {m : Str → Option Value} {es es' : List DictEntry} {n n' : Nat} {name : Str} {v : Value} {Q : Unit → Shared → Prop}
    (X : K.In s.heap) (I : PySem.W.InstAt s.heap x ox C (some (dictOf es n))) (hd : ox.dict = some dx) (hL : s.heap.Ns L m) (hne : dx ≠ L)
    (hs : findIn K (.ref C) "__setattr__" = some (some (.builtin "object.__setattr__"))) (hp : plainOver K C = true) (ht : takerIn K C name = some none) (hh : hasDictIn K C = true) (hl : (getL name es).isSome = true)
    (e : (putL name (PyData.keyHash w.params name) (.str name (s.toks + 1)) v es, putN name es n) = (es', n')) (hz : es'.length ≤ 1000)
    (h : ∀ h' : Heap, h'.Ns L m → h'.get? dx = some (dictOf es' n') → (∀ b o, b ≠ dx → b ≠ L → s.heap.get? b = some o → h'.get? b = some o) → Q () { s with heap := h', toks := s.toks + 2 }) :
    wpAny (model prog w) A (setAttr (.ref x) name v) Q E s := by
  obtain ⟨e1, e2⟩ := Prod.mk.inj e
  have hdx : s.heap.get? dx = some (dictOf es n) := by
    have := I.dict
    rw [hd] at this
    exact this
  refine set_plain X I hs (osa_dict (s := { s with toks := s.toks + 1 }) (h₀ := noObjs s.heap) (L := L) (m := m) (od := dictOf es n) (od' := dictOf es' n') (es := es') (n := n') (pre := []) (post := ledger s.heap L dx)
    (fr_all hL) (news_ledger hne hdx) X I hd hp ht hh hl (fun _ q => nomatch q) (fun ⟨_, _⟩ q => (mem_ledger.mp q).2.1) (by rw [putName_dict, e1, e2]) rfl hz fun h' F' N' => ?_)
  exact h h' F'.ns (N'.get (List.Mem.head _)) fun b o n1 n2 ho => N'.get (List.Mem.tail _ (mem_ledger.mpr ⟨n2, n1, ho⟩))
end
end Att

namespace L2
open PySem PySem.Spec PyProof.Rows

theorem vals_ints : ∀ {vs : List Value} {ns : List Int}, IntsAre vs ns → Vals (ns.map V.int) vs
  | _, _, .nil => .nil
  | _, _, .cons n t h => .cons ⟨t, rfl⟩ (vals_ints h)

/-- nothing is tracked but the script, known to the object (or it is an object of the module) -/
def Only (H : Hp) : Prop := ∀ b, H b = none ∨ ∃ o xs, H b = some (.frz o (.lst xs))

/-- THE HEAD: the law's promise, at the heap behind the top. F, the promise of the law's def, may use that base is part of the heap (so K.In base, base.Ns mainGlobals mg stand in Mod) -/
theorem law_call {P : Program} {w : World} {K : PySem.W.Frag} {mg mb : Str → Option Value} {CX : CXT} {k : Nat} {fa a : Addr} {fd : FuncData} {x : Str} {sp : Sp} {s₁ : Shared} {vs : List Value} {ns : List Int}
    (KX : K.In s₁.heap) (hns : s₁.heap.Ns mainGlobals mg) (hb : s₁.heap.Ns builtinsNs mb) (hbb : ∀ x : Str, x ≠ "__name__" → mb x = bootBuiltins x) (hlim : s₁.heap.NoLimit) (hg : s₁.gens = #[])
    (ha : s₁.heap.get? a = some { cls := .type "list", data := .seq vs.toArray }) (hi : IntsAre vs ns) (hl : ns.length ≤ sizeLine) (hr : Room k callerA)
    (F : ∀ base : Heap, K.In base → base.Ns mainGlobals mg → FnOk P w K mg base CX k fa fd [x] sp) (hbind : ∀ (s : Shared) (u : Value), BindsTo s fd ⟨[u], []⟩ [(x, u)])
    (hsp : ∀ H : Hp, Only H → SqL K H a (ns.map V.int) → sp [.ref a] H (fun v _ => v = .bl true) fun _ _ _ => False)
    (hCX : ∀ H e s', CX [] H s₁ (fun _ _ _ => False) e s' → False) :
    codeAny (model P w) callerA (.call (.ref fa) ⟨[.ref a], []⟩) (fun r s' => r = .ok (.ret (.bool true)) ∧ OldK s₁.heap s'.heap ∧ s'.os = s₁.os ∧ AllBare s'.gens) s₁ := by
  have rv := vals_ints hi
  have lenV := hi.length
  -- from an abstract heap in which nothing but the script may be tracked
  have core : ∀ H : Hp, Only H → SqL K H a (ns.map V.int) → HOk P w H s₁.heap → (∀ b, H b ≠ none → b = a) → (H a ≠ none → K.lookup a = none) →
      codeAny (model P w) callerA (.call (.ref fa) ⟨[.ref a], []⟩) (fun r s' => r = .ok (.ret (.bool true)) ∧ OldK s₁.heap s'.heap ∧ s'.os = s₁.os ∧ AllBare s'.gens) s₁ := by
    intro H hO hS hok hA hK
    have base_of : ∀ {b : Addr} {o : Obj}, s₁.heap.get? b = some o → H b = none → (hidT s₁.heap H).get? b = some o := fun e n => hidT_get e n
    have noA : ∀ {b : Addr} {o : Obj} {es : Array DictEntry} {ep : Nat}, s₁.heap.get? b = some o → o.data = .dict es ep → H b = none := fun {b o es ep} e d => by
      cases q : H b with
      | none => rfl
      | some u =>
        have e' : b = a := hA b (by rw [q]; simp)
        subst e'
        rw [ha] at e; cases e
        have d' : Data.seq vs.toArray _ = Data.dict es ep := d
        cases d'
    have nsK : ∀ {b : Addr} {m : Str → Option Value}, s₁.heap.Ns b m → (hidT s₁.heap H).Ns b m := fun {b m} ⟨o, es, ep, e, d, r⟩ => ⟨o, es, ep, base_of e (noA e d), d, r⟩
    have hKb : K.In (hidT s₁.heap H) := fun b o e => base_of (KX b o e) (by
      cases q : H b with
      | none => rfl
      | some u =>
        have e' : b = a := hA b (by rw [q]; simp)
        subst e'
        rw [hK (by rw [q]; simp)] at e; cases e)
    have hM : Mod K mg (hidT s₁.heap H) := ⟨hKb, nsK hns, ⟨mb, nsK hb, hbb⟩, let ⟨mc, h1, h2⟩ := hlim; ⟨mc, nsK h1, h2⟩⟩
    have e0 : Env0 P w K mg (hidT s₁.heap H) callerA [] s₁ H := ⟨rfl, hM, fun b o e => of_hidT e, Nat.le_of_eq (hidT_size _ _), trivial, fun b hb => absurd (show b ∈ ([] : List Addr) from hb) (by simp), hok, .of_eq hg⟩
    refine codeAny_mono ((F _ hKb (nsK hns)).run callerA [] s₁ H ⟨[.ref a], []⟩ [.ref a] [.ref a] _ _ hr e0 (hbind s₁ (.ref a)) (.cons rfl .nil) (hsp H hO hS)) fun r s' h => ?_
    cases r with
    | error e => exact (hCX H e s' h).elim
    | ok fl =>
      cases fl with
      | next => exact False.elim h
      | brk => exact False.elim h
      | cont => exact False.elim h
      | ret u =>
        obtain ⟨v, H', os, bare, un, hok', r', q⟩ := h
        have q' : v = .bl true := q
        subst q'
        obtain rfl : u = Value.bool true := r'
        refine ⟨rfl, OldK.of_keep fun b o e => ?_, os, bare⟩
        cases q : H b with
        | none => exact un.keep b o e q (by intro z; exact absurd (show b ∈ ([] : List Addr) from z) (by simp)) (by simp)
        | some u =>
          rcases hO b with z | ⟨ob, xs, z⟩
          · rw [q] at z; cases z
          · have z2 := un.frzs b ob _ z
            obtain ⟨e1, _⟩ := hok b _ z
            obtain ⟨e2, _⟩ := hok' b _ z2
            rw [e] at e1; cases e1
            exact e2
  cases hk : K.lookup a with
  | some o =>
    -- the script is one of the module's own objects
    have e := KX a o hk
    rw [ha] at e
    cases e
    refine core (fun _ => none) (fun _ => .inl rfl) (.inr ⟨_, vs.toArray, _, hk, rfl, rfl, rfl, by rw [List.size_toArray, lenV]; exact hl, by simpa using rv⟩) (fun b u z => by have z' : (none : Option HO) = some u := z; cases z') (fun b z => absurd rfl z) fun z => absurd rfl z
  | none =>
    refine core (fun b => if b = a then some (.frz { cls := .type "list", data := .seq vs.toArray } (.lst (ns.map V.int))) else none) (fun b => ?_) (.inl (.inr ⟨{ cls := .type "list", data := .seq vs.toArray }, if_pos rfl⟩)) (fun b u z => ?_) (fun b z => ?_) fun _ => hk
    · by_cases hb : b = a
      · exact .inr ⟨_, _, if_pos hb⟩
      · exact .inl (if_neg hb)
    · by_cases hb : b = a
      · have z' := (if_pos hb).symm.trans z
        cases z'
        subst hb
        exact ⟨ha, by rw [List.length_map]; exact hl, vs, _, rv, ha⟩
      · have z' := (if_neg hb).symm.trans z
        cases z'
    · by_cases hb : b = a
      · exact hb
      · exact absurd (if_neg hb) z
end L2

namespace L2
open PySem PySem.Spec PyProof.Rows

abbrev KOf {K : PySem.W.Frag} {h : Heap} (_ : K.In h) : PySem.W.Frag := K

/-- the goal that k_head leaves (case hc), from the law's promise. F gives the function object fd (K's own) once, then the promise over every base -/
theorem walk_of {l : PySem.W.OpenLaw} {n k : Nat} {q : Program} {loose : List Str} {XP : (Str → Option Value) → Heap → Prop} {YP : World → Heap → Prop} {d : DefRec} {K : Params → PySem.W.Frag} {CX : World → CXT} {sp : World → Sp} {x : Str}
    (hn : l.most = some n) (hn2 : n ≤ sizeLine) (hdf : d.params.defaults = []) (hr : Room k callerA)
    (hY : ∀ (w : World) (h : Heap), YP w h → (K w.params).In h)
    (F : ∀ (w : World) (mg : Str → Option Value) (fa : Addr) (h : Heap), (K w.params).In h → h.Ns mainGlobals mg → mg d.name = some (.ref fa) →
      ∃ fd : FuncData, (∀ (s : Shared) (u : Value), BindsTo s fd ⟨[u], []⟩ [(x, u)]) ∧
        ∀ base : Heap, (K w.params).In base → base.Ns mainGlobals mg → FnOk l.prog w (K w.params) mg base (CX w) k fa fd [x] (sp w))
    (hsp : ∀ (w : World) (H : Hp) (a : Addr) (ns : List Int), ns.length ≤ n → Only H → SqL (K w.params) H a (ns.map V.int) → sp w [.ref a] H (fun v _ => v = .bl true) fun _ _ _ => False)
    (hCX : ∀ (w : World) (H : Hp) (s : Shared) (e : Value) (s' : Shared), CX w [] H s (fun _ _ _ => False) e s' → False) :
    PySem.W.WalkO q loose XP YP l.row.toRowW d [] (fun f vs => PySem.call f vs) := by
  refine Att.attach_call hn hdf fun w s₀ s₁ mg mb fa o pm cd doc a vs ns G Y ho hd hcd hmg hobj hints hlen hg => ?_
  have KX := hY w _ Y
  obtain ⟨fd, hb, hF⟩ := F w mg fa _ KX G.T.g hmg
  exact law_call KX G.T.g G.T.b G.T.builtins G.T.nolimit hg hobj hints (Nat.le_trans hlen hn2) hr hF hb (fun H hO hS => hsp w H a ns hlen hO hS) fun H e s' => hCX w H s₁ e s'
/-- the same where the promise hangs on the written part alone: (sp := My.sp_law), no hole under a binder -/
theorem walk_ofK {l : PySem.W.OpenLaw} {n k : Nat} {q : Program} {loose : List Str} {XP : (Str → Option Value) → Heap → Prop} {YP : World → Heap → Prop} {d : DefRec} {K : Params → PySem.W.Frag} {CX : CXT} {sp : PySem.W.Frag → Sp} {x : Str}
    (hn : l.most = some n) (hn2 : n ≤ sizeLine) (hdf : d.params.defaults = []) (hr : Room k callerA)
    (hY : ∀ (w : World) (h : Heap), YP w h → (K w.params).In h)
    (F : ∀ (w : World) (mg : Str → Option Value) (fa : Addr) (h : Heap), (K w.params).In h → h.Ns mainGlobals mg → mg d.name = some (.ref fa) →
      ∃ fd : FuncData, (∀ (s : Shared) (u : Value), BindsTo s fd ⟨[u], []⟩ [(x, u)]) ∧
        ∀ base : Heap, (K w.params).In base → base.Ns mainGlobals mg → FnOk l.prog w (K w.params) mg base CX k fa fd [x] (sp (K w.params)))
    (hsp : ∀ (K : PySem.W.Frag) (H : Hp) (a : Addr) (ns : List Int), ns.length ≤ n → Only H → SqL K H a (ns.map V.int) → sp K [.ref a] H (fun v _ => v = .bl true) fun _ _ _ => False)
    (hCX : ∀ (H : Hp) (s : Shared) (e : Value) (s' : Shared), CX [] H s (fun _ _ _ => False) e s' → False) :
    PySem.W.WalkO q loose XP YP l.row.toRowW d [] (fun f vs => PySem.call f vs) :=
  walk_of (K := K) (CX := fun _ => CX) (sp := fun w => sp (K w.params)) hn hn2 hdf hr hY F (fun w H a ns h1 h2 h3 => hsp (K w.params) H a ns h1 h2 h3) fun _ H s e s' => hCX H s e s'
end L2

/- THE LAST THEOREM (shape; LID, My.* are yours):
   My.Adr: a structure of the addresses that your layer names (classes, functions); My.Txt K t: a structure (Prop) of the equations over K;
   My.txt_mk : {K} {implicit addresses ..} (e1 : nsIn K mainGlobals "law" = some (some (.ref f))) (e2 : K.lookup f = some ⟨oc, od, .func (fnOf "law" "law" params body scope dV kV doc pm an cdv ct), sl⟩) (e3 : codeIn K cdv "law" = true) .. : ∃ t, My.Txt K t

set_option maxRecDepth 100000 in
set_option maxHeartbeats 0 in
theorem PySem.Challenge.cw_LID_holds : PySem.Challenge.rw_LID.Holds := by
  w_on; o_law; k_head; (case hw => w_witness2)
  k_fill
  refine L2.walk_of (l := PySem.Challenge.rw_LID) (n := 63) (k := 40) (x := "script") (CX := fun w => ..) (sp := fun _ => My.sp_law) rfl (by decide) rfl ⟨rfl, by decide, by decide⟩ (fun w h Y => PySem.W.kIn_of Y) ?F ?S ?C
  case F =>
    intro w mg fa h KX G hmg
    have T : ∃ t, My.Txt (L2.KOf KX) t := by
      dsimp only [L2.KOf]                          -- K must stand as «<heap const> w.params» for k_is
      refine' My.txt_mk ?e1 ?e2 ?e3 ..
      (case e1 => PySem.W.k_is)                    -- in the order: a name -> its address -> its object -> its parts
      (case e2 => PySem.W.k_is)
      ..
    obtain ⟨t, T⟩ := T
    have e0 := hmg.symm.trans (PySem.W.mg_of KX G T.law)
    cases e0                                       -- fa is the law's own address
    exact ⟨_, fun s u => .of_eq rfl, fun base kb nb => My.law_fn T kb nb⟩     -- if «.of_eq rfl» comes too early: refine' ⟨_, ?b, fun base kb nb => My.law_fn T kb nb⟩; exact fun s u => .of_eq rfl
  case S => exact fun w H a ns hl hO hS => ..
  case C => exact ..
(the tactic k_is has no namespace: write k_is) -/

/-! SHORT WORDS over the layer: a def of the text, its body, what a loop and a test want. -/
namespace L2
open PySem PySem.Spec PyProof.Rows

/-! ### the text by places -/
/-- the j-th statement of a class's body -/
def inClass (s : Stmt) (j : Nat) : Stmt := match s with
  | .ClassDef _ _ _ body _ _ _ _ _ _ _ => body.getD j (.Pass ⟨0, 0, 0, 0⟩)
  | _ => .Pass ⟨0, 0, 0, 0⟩
def defArgs (s : Stmt) : Arguments := match s with
  | .FunctionDef _ a _ _ _ _ _ _ _ _ => a
  | _ => { posonlyargs := [], args := [], vararg := none, kwonlyargs := [], kw_defaults := [], kwarg := none, defaults := [] }
def defBody (s : Stmt) : List Stmt := match s with
  | .FunctionDef _ _ b _ _ _ _ _ _ _ => b
  | _ => []
def defScope (s : Stmt) : Scope := match s with
  | .FunctionDef _ _ _ _ _ _ sc _ _ _ => sc
  | _ => { kind := .function, names := [], isGenerator := false, isCoroutine := false }

/-! ### no exception leaves a def -/
abbrev CX0 : CXT := fun _ _ _ _ _ _ => False
abbrev E0 : XK := fun _ _ _ => False
theorem pass0 {X : Cx} : Passes CX0 X E0 := fun _ _ _ _ _ _ _ h => h.elim

/-! ### a def (or method) of the text as it stands behind the top -/
structure Fun (K : PySem.W.Frag) (x qual : Str) (st : Stmt) (f : Addr) (fd : FuncData) : Prop where
  ex : ∃ (oc : Value) (od : Option Addr) (kV doc pm : Value) (an : Option Addr) (cdv ct : Value) (osl : Array (Option Value)),
    fd = PySem.W.fnOf x qual (defArgs st) (defBody st) (defScope st) .none kV doc pm an cdv ct ∧ K.lookup f = some ⟨oc, od, .func fd, osl⟩ ∧ PySem.W.codeIn K cdv qual = true
  kp : PySem.W.keepIn K (.ref f) = true
section
variable {P : Program} {w : World} {K : PySem.W.Frag} {mg : Str → Option Value} {base : Heap}
/-- THE RULE for a def: its body as a term of rules, and the reading of that term -/
theorem Fun.ok {x qual : Str} {st : Stmt} {f : Addr} {fd : FuncData} {N ps : List Str} {k : Nat} {sp : Sp} (F : Fun K x qual st f fd) (S : FnScope N ps (defScope st)) (len : ∀ vs H Q E, sp vs H Q E → vs.length = ps.length)
    (hbody : ∀ (cdv : Value) (A : Around) (outer : List Env) (s : Shared) (H : Hp) (vs : List V) (Q : VK) (E : XK), Room k (A.deeper (envOfC qual (defScope st) s.heap.objs.size f cdv)) → sp vs H Q E →
      ∃ t, PSs (cxOf CX0 P w K mg base N qual (defScope st) f cdv A outer s H E).nox (defBody st) t ∧ t { nx := fun _ H' => Q .non H', rt := Q } (start N vs) H) : FnOk P w K mg base CX0 (k + 1) f fd ps sp := by
  obtain ⟨oc, od, kV, doc, pm, an, cdv, ct, osl, rfl, lk, hcd⟩ := F.ex
  refine fn_of lk hcd S len fun A outer s H vs Q E hr hsp => ?_
  obtain ⟨t, h, q⟩ := hbody cdv A outer s H vs Q E hr hsp
  exact ⟨t, h.nox, q⟩
/-- how its arguments bind (no defaults): h is «fun _ _ _ _ _ _ us hl => match us, hl with | [_, _], _ => rfl», one _ a parameter -/
theorem Fun.binds {x qual : Str} {st : Stmt} {f : Addr} {fd : FuncData} {ps : List Str} (F : Fun K x qual st f fd)
    (h : ∀ (kV doc pm : Value) (an : Option Addr) (cdv ct : Value) (us : List Value), us.length = ps.length → bindArgs (PySem.W.fnOf x qual (defArgs st) (defBody st) (defScope st) .none kV doc pm an cdv ct) ⟨us, []⟩ = pure (ps.zip us)) : Binds K fd ps [] := by
  obtain ⟨oc, od, kV, doc, pm, an, cdv, ct, osl, rfl, lk, hcd⟩ := F.ex
  exact .all (h kV doc pm an cdv ct)
theorem fun_mk {x qual : Str} {st : Stmt} {f : Addr} {oc : Value} {od an : Option Addr} {osl : Array (Option Value)} {kV doc pm cdv ct : Value} (l : K.lookup f = some ⟨oc, od, .func (PySem.W.fnOf x qual (defArgs st) (defBody st) (defScope st) .none kV doc pm an cdv ct), osl⟩)
    (c : PySem.W.codeIn K cdv qual = true) (k : PySem.W.keepIn K (.ref f) = true) : Fun K x qual st f (PySem.W.fnOf x qual (defArgs st) (defBody st) (defScope st) .none kV doc pm an cdv ct) := ⟨⟨oc, od, kV, doc, pm, an, cdv, ct, osl, rfl, l, c⟩, k⟩
end
theorem hu_of {A : Around} {k : Nat} (hr : Room k A) : A.units + 1 < cLine := Nat.lt_of_le_of_lt (Nat.add_le_add_left (by decide : 1 ≤ 64) _) hr.units
theorem small1000 {n : Nat} (h : n ≤ 1000) : n < sizeLine := Nat.lt_of_le_of_lt h (by decide)

/-! ### expressions in short: the name that stands in the i-th slot -/
section
variable {X : Cx}
theorem pv (i : Nat) {x : Str} {pos : Pos} (hN : X.N[i]? = some x := by rfl) (hv : Vis X.env.scope x := by first | exact Or.inl rfl | exact Or.inr (Or.inl rfl) | exact Or.inr (Or.inr rfl)) (hd : (x == ("__debug__" : Str)) = false := by decide)
    (hcd : (x == ("__classdict__" : Str)) = false := by decide) : PE X (.Name x pos) (tVar i) := pe_var hN hv hd hcd
end

/-! ### tests -/
theorem iteF {A B : Prop} (h : B) : if false = true then A else B := by
  rw [if_neg Bool.false_ne_true]
  exact h
theorem iteT {A B : Prop} (h : A) : if true = true then A else B := by
  rw [if_pos rfl]
  exact h
theorem ite2 {c A B : Prop} [Decidable c] (h1 : c → A) (h2 : ¬ c → B) : if c then A else B := by
  by_cases h : c
  · rw [if_pos h]
    exact h1 h
  · rw [if_neg h]
    exact h2 h
theorem iteNS {c A B : Prop} [Decidable c] (hc : c) (h : B) : if (!decide c) = true then A else B := by
  rw [decide_eq_true hc]
  exact iteF h

/-! ### heaps -/
/-- all that was tracked is as it was -/
def Same (H H' : Hp) : Prop := ∀ b o, H b = some o → H' b = some o
theorem Same.refl (H : Hp) : Same H H := fun _ _ h => h
theorem Same.trans {H H1 H2 : Hp} (a : Same H H1) (b : Same H1 H2) : Same H H2 := fun c o h => b c o (a c o h)
theorem Same.free {H H' : Hp} (e : Same H H') {l : Addr} (h : H' l = Option.none) : H l = Option.none := by
  cases q : H l with
  | none => rfl
  | some o =>
    rw [e l o q] at h
    cases h
theorem Same.seq {K : PySem.W.Frag} {H H' : Hp} {a : Addr} {xs : List V} (e : Same H H') (h : SqL K H a xs) : SqL K H' a xs := by
  rcases h with (h | ⟨o, h⟩) | h
  · exact .inl (.inl (e _ _ h))
  · exact .inl (.inr ⟨o, e _ _ h⟩)
  · exact .inr h

end L2

namespace L2
open PySem PySem.Spec PyProof.Rows
section
variable {X : Cx}
/-- len of a dict -/
theorem call_lenD : CallR X (.builtin "len") (fun xs H Q => ∃ a kvs, xs = [V.ref a] ∧ H a = some (.dK kvs) ∧ Q (.int kvs.length) H) := by
  intro pins s σ H xs us Q I r h
  obtain ⟨a, kvs, rfl, ha, q⟩ := h
  obtain ⟨u, rfl, ru⟩ := vals1 r
  cases ru
  exact d_len I (.inl ha) fun t s' I' => ⟨.int kvs.length, H, I', ⟨t, rfl⟩, q⟩
end
end L2
namespace L2
open PySem PySem.Spec PyProof.Rows
/-! ### a dict's pairs: keys that differ -/
section
variable {κ : Type} [DecidableEq κ]
theorem valV_not {kvs : List (κ × V)} {k : κ} (h : valV kvs k = none) : ¬ k ∈ kvs.map (·.1) := by
  intro m
  obtain ⟨p, hp, e⟩ := List.mem_map.mp m
  have q : (kvs.any fun kv => decide (kv.1 = k)) = true := List.any_eq_true.mpr ⟨p, hp, decide_eq_true e⟩
  rw [valV_any, h] at q
  exact absurd q (by simp)
theorem valV_in {kvs : List (κ × V)} {k : κ} {v : V} (h : valV kvs k = some v) : k ∈ kvs.map (·.1) := by
  have q : (kvs.any fun kv => decide (kv.1 = k)) = true := by
    rw [valV_any, h]
    all_goals rfl
  obtain ⟨p, hp, e⟩ := List.any_eq_true.mp q
  exact List.mem_map.mpr ⟨p, hp, of_decide_eq_true e⟩
theorem nd_snoc : ∀ {l : List κ} {k : κ}, l.Nodup → ¬ k ∈ l → (l ++ [k]).Nodup
  | [], k, _, _ => by simp
  | a :: r, k, h, hk => by
    obtain ⟨h1, h2⟩ := List.nodup_cons.mp h
    show (a :: (r ++ [k])).Nodup
    refine List.nodup_cons.mpr ⟨fun m => ?_, nd_snoc h2 fun m => hk (List.mem_cons.mpr (Or.inr m))⟩
    rcases List.mem_append.mp m with q | q
    · exact h1 q
    · exact hk (List.mem_cons.mpr (Or.inl (List.mem_singleton.mp q).symm))
theorem nd_putK {kvs : List (κ × V)} {k : κ} (v : V) (hn : (kvs.map (·.1)).Nodup) (h : valV kvs k = none) : ((putK kvs k v).map (·.1)).Nodup := by
  rw [putK_new v h, List.map_append]
  exact nd_snoc hn (valV_not h)
theorem dropK_pos {p : κ × V} {r : List (κ × V)} {k : κ} (e : p.1 = k) : dropK (p :: r) k = dropK r k := by
  unfold dropK
  rw [List.filter_cons, if_neg (by simp [e])]
theorem dropK_neg {p : κ × V} {r : List (κ × V)} {k : κ} (e : ¬ p.1 = k) : dropK (p :: r) k = p :: dropK r k := by
  unfold dropK
  rw [List.filter_cons, if_pos (by simp [e])]
theorem dropK_no : ∀ {kvs : List (κ × V)} {k : κ}, ¬ k ∈ kvs.map (·.1) → dropK kvs k = kvs
  | [], _, _ => rfl
  | p :: r, k, h => by
    have h' : ¬ k ∈ r.map (·.1) := fun m => by
      obtain ⟨q, hq, e⟩ := List.mem_map.mp m
      exact h (List.mem_map.mpr ⟨q, List.mem_cons.mpr (Or.inr hq), e⟩)
    rw [dropK_neg fun e => h (List.mem_map.mpr ⟨p, List.mem_cons.mpr (Or.inl rfl), e⟩), dropK_no h']
theorem dropK_mem {kvs : List (κ × V)} {k : κ} {p : κ × V} (h : p ∈ dropK kvs k) : p ∈ kvs := (List.mem_filter.mp h).1
theorem nd_dropK : ∀ {kvs : List (κ × V)} {k : κ}, (kvs.map (·.1)).Nodup → ((dropK kvs k).map (·.1)).Nodup
  | [], _, _ => List.nodup_nil
  | p :: r, k, h => by
    have h : (p.1 :: r.map (·.1)).Nodup := h
    obtain ⟨h1, h2⟩ := List.nodup_cons.mp h
    by_cases e : p.1 = k
    · rw [dropK_pos e]
      exact nd_dropK h2
    · rw [dropK_neg e]
      show (p.1 :: (dropK r k).map (·.1)).Nodup
      refine List.nodup_cons.mpr ⟨fun m => h1 ?_, nd_dropK h2⟩
      obtain ⟨q, hq, eq⟩ := List.mem_map.mp m
      exact List.mem_map.mpr ⟨q, dropK_mem hq, eq⟩
theorem dropK_len : ∀ {kvs : List (κ × V)} {k : κ}, (kvs.map (·.1)).Nodup → k ∈ kvs.map (·.1) → (dropK kvs k).length + 1 = kvs.length
  | [], _, _, m => by simp at m
  | p :: r, k, h, m => by
    have h : (p.1 :: r.map (·.1)).Nodup := h
    have m : k = p.1 ∨ k ∈ r.map (·.1) := List.mem_cons.mp m
    obtain ⟨h1, h2⟩ := List.nodup_cons.mp h
    by_cases e : p.1 = k
    · subst e
      rw [dropK_pos rfl, dropK_no h1]
      all_goals rfl
    · have m' : k ∈ r.map (·.1) := m.resolve_left fun z => e z.symm
      have q := dropK_len h2 m'
      rw [dropK_neg e, List.length_cons, List.length_cons]
      omega
end
end L2



set_option Elab.async false
set_option linter.all false
set_option maxRecDepth 100000
namespace L2
open PySem PySem.Spec PyProof.Rows

/-! ### comprehensions -/
/-- the block of a comprehension: its own frame at C, the closure cl, the iterators ex that were made ahead -/
def compCx (X : Cx) (N' : List Str) (scope : Scope) (cl : List (Str × Addr)) (C : Addr) (s₀ : Shared) (H₀ : Hp) (ex : List Addr) : Cx :=
  { X with N := N', s₀ := s₀, H₀ := H₀, env := compEnvC scope cl C X.env, outer := X.stack, ex := ex, fn := fun x => scope.names.lookup x == some NameKind.cell, pn := [] }

theorem closure_ok {env : Env} : ∀ (names : List (Str × NameKind)) (acc : List (Str × Addr)), (∀ y ∈ names, y.2 = .free → ∃ c, env.cells.lookup y.1 = some c) →
    (∀ y c, acc.lookup y = some c → env.cells.lookup y = some c) →
    ∃ cl, (forIn names acc fun x r => if (x.2 == NameKind.free) = true then do let c ← cellOf env x.1; pure (ForInStep.yield ((x.1, c) :: r)) else pure (ForInStep.yield r) : Sem (List (Str × Addr))) = pure cl ∧
      (∀ y c, cl.lookup y = some c → env.cells.lookup y = some c) ∧ (∀ y, (y, NameKind.free) ∈ names → ∃ c, cl.lookup y = some c) ∧ ∀ y c, acc.lookup y = some c → ∃ c', cl.lookup y = some c'
  | [], acc, _, ha => ⟨acc, by simp, ha, fun _ h => by simp at h, fun y c h => ⟨c, h⟩⟩
  | (n, k) :: r, acc, h, ha => by
    by_cases hk : k = .free
    · subst hk
      obtain ⟨c, hc⟩ := h (n, .free) List.mem_cons_self rfl
      have e : cellOf env n = pure c := by unfold cellOf; rw [hc]
      obtain ⟨cl, e1, h1, h2, h3⟩ := closure_ok r ((n, c) :: acc) (fun y hy => h y (List.mem_cons_of_mem _ hy)) (fun y d hd => by
        rw [List.lookup_cons] at hd
        split at hd
        · rename_i hb
          have : y = n := by simpa using hb
          subst this
          cases hd
          exact hc
        · exact ha y d hd)
      refine ⟨cl, ?_, h1, fun y hy => ?_, fun y d hd => ?_⟩
      · rw [List.forIn_cons, e]
        simpa using e1
      · rcases List.mem_cons.mp hy with z | z
        · cases z
          exact h3 n c (by simp [List.lookup_cons])
        · exact h2 y z
      · by_cases hy : y = n
        · subst hy
          exact h3 y c (by simp [List.lookup_cons])
        · have hb : (y == n) = false := by simpa using hy
          exact h3 y d (by simp only [List.lookup_cons, hb]; exact hd)
    · have hb : (k == NameKind.free) = false := by simpa using hk
      obtain ⟨cl, e1, h1, h2, h3⟩ := closure_ok r acc (fun y hy => h y (List.mem_cons_of_mem _ hy)) ha
      refine ⟨cl, ?_, h1, fun y hy => ?_, h3⟩
      · rw [List.forIn_cons]
        simpa [hb] using e1
      · rcases List.mem_cons.mp hy with z | z
        · cases z
          exact absurd rfl hk
        · exact h2 y z

theorem comp_closure {scope : Scope} {env : Env} (h : ∀ y ∈ scope.names, y.2 = .free → ∃ c, env.cells.lookup y.1 = some c) :
    ∃ cl, closureFor scope env = pure cl ∧ (∀ y c, cl.lookup y = some c → env.cells.lookup y = some c) ∧ ∀ y, (y, NameKind.free) ∈ scope.names → ∃ c, cl.lookup y = some c := by
  obtain ⟨cl, e, h1, h2, _⟩ := closure_ok (env := env) scope.names [] h (fun _ _ z => by simp at z)
  refine ⟨cl, ?_, h1, h2⟩
  unfold closureFor
  show ((forIn scope.names [] fun x r => if (x.2 == NameKind.free) = true then do let c ← cellOf env x.1; pure (ForInStep.yield ((x.1, c) :: r)) else pure (ForInStep.yield r) : Sem (List (Str × Addr))) >>= fun cs => pure cs) = pure cl
  rw [e]
  rfl

section
variable {prog : Program} {w : World} {A : Around} {R : Result → Shared → Prop} {s : Shared}
/-- the loop of a list comprehension of one clause, no exception leaving -/
theorem compLoop_any {elt target iter : Expr} {ifs : List Expr} {scope : Scope} {pos : Pos} {it acc : Value} {env : Env} (I : Nat → Shared → Prop)
    (turn : ∀ n s, I n s → wpAny (model prog w) A (pyNext it) (fun r s₁ => match r with
      | none => R (.ok .next) s₁
      | some v => wpAny (model prog w) A (letOwnedTupleGo target it v) (fun _ s₁' => wpAny (model prog w) A (assign target env v) (fun _ s₂ =>
          wpAny (model prog w) A (forIn ifs true fun c r => if r = true then do let ok ← isTrue c env (eval c env); pure (ForInStep.yield ok) else pure (ForInStep.yield r)) (fun ok s₃ =>
            if ok = true then wpAny (model prog w) A (eval elt env) (fun x s₄ =>
              wpAny (model prog w) A (call (.builtin "list.append") [acc, x]) (fun _ s₅ => ∃ m, m < n ∧ I m s₅) (fun _ _ => False) s₄) (fun _ _ => False) s₃
            else ∃ m, m < n ∧ I m s₃) (fun _ _ => False) s₂) (fun _ _ => False) s₁') (fun _ _ => False) s₁) (fun _ _ => False) s)
    (n : Nat) (h : I n s) : codeAny (model prog w) A (.compLoop (.ListComp elt [⟨target, iter, ifs, 0⟩] scope pos) 0 it acc env) R s := by
  refine codeAny_loop rfl I (fun n s hI => ?_) n h
  show wpAny _ A ((compTurn (.ListComp elt [⟨target, iter, ifs, 0⟩] scope pos) 0 it acc env).onRaise (fun x => do noteFrame x env; theTreesLotGoes x)) _ _ s
  refine wpAny_noted ?_
  rw [compTurn_list]
  refine wpAny_mono (E := fun _ _ => False) ?_ (fun _ _ x => x) fun _ _ x => x.elim
  refine wpAny_bind (wpAny_standAt (wpAny_bind (wpAny_mono (turn n s hI) (fun r s₁ h₁ => ?_) fun _ _ h' => h')))
  cases r with
  | none => exact wpAny_pure h₁
  | some v =>
    refine wpAny_bind (wpAny_mono h₁ (fun _ s₁' h₁' => ?_) fun _ _ h' => h')
    refine wpAny_bind (wpAny_mono h₁' (fun _ s₂ h₂ => wpAny_bind (wpAny_mono h₂ (fun ok s₃ h₃ => ?_) fun _ _ h' => h')) fun _ _ h' => h')
    cases ok with
    | false => exact wpAny_pure ⟨rfl, h₃⟩
    | true =>
      exact wpAny_bind (wpAny_bind (wpAny_mono h₃ (fun x s₄ h₄ => wpAny_bind (wpAny_mono h₄ (fun _ s₅ h₅ => wpAny_pure (wpAny_pure ⟨rfl, h₅⟩)) fun _ _ h' => h')) fun _ _ h' => h'))
end

/-- a name that a comprehension takes from around: free there, a cell or free here -/
theorem lookup_relabel {env : Env} {x : Str} : ∀ {names : List (Str × NameKind)}, names.lookup x = some .free →
    (names.map fun (n, k) => if (k == NameKind.free && env.scope.kind == .function && env.kindOf n == some .cell) then (n, NameKind.cell) else (n, k)).lookup x = some .free ∨
    (names.map fun (n, k) => if (k == NameKind.free && env.scope.kind == .function && env.kindOf n == some .cell) then (n, NameKind.cell) else (n, k)).lookup x = some .cell
  | [], h => by simp at h
  | (n, k) :: r, h => by
    have ih := @lookup_relabel env x r
    show List.lookup x ((if (k == NameKind.free && env.scope.kind == .function && env.kindOf n == some .cell) = true then (n, NameKind.cell) else (n, k)) :: _) = _ ∨ List.lookup x ((if (k == NameKind.free && env.scope.kind == .function && env.kindOf n == some .cell) = true then (n, NameKind.cell) else (n, k)) :: _) = _
    cases hx : x == n with
    | true =>
      simp only [List.lookup_cons, hx] at h
      cases h
      by_cases hc : (NameKind.free == NameKind.free && env.scope.kind == .function && env.kindOf n == some .cell) = true
      · rw [if_pos hc]; exact .inr (by simp [List.lookup_cons, hx])
      · rw [if_neg hc]; exact .inl (by simp [List.lookup_cons, hx])
    | false =>
      simp only [List.lookup_cons, hx] at h
      by_cases hc : (k == NameKind.free && env.scope.kind == .function && env.kindOf n == some .cell) = true
      · rw [if_pos hc]; simp only [List.lookup_cons, hx]; exact ih h
      · rw [if_neg hc]; simp only [List.lookup_cons, hx]; exact ih h
/-- what is a cell or free behind the relabelling was so ahead of it -/
theorem relabel_back {env : Env} {x : Str} : ∀ {names : List (Str × NameKind)},
    ((names.map fun (n, k) => if (k == NameKind.free && env.scope.kind == .function && env.kindOf n == some .cell) then (n, NameKind.cell) else (n, k)).lookup x = some .cell ∨
     (names.map fun (n, k) => if (k == NameKind.free && env.scope.kind == .function && env.kindOf n == some .cell) then (n, NameKind.cell) else (n, k)).lookup x = some .free) → names.lookup x = some .free ∨ names.lookup x = some .cell
  | [], h => by simp at h
  | (n, k) :: r, h => by
    have ih := @relabel_back env x r
    have h : List.lookup x ((if (k == NameKind.free && env.scope.kind == .function && env.kindOf n == some .cell) = true then (n, NameKind.cell) else (n, k)) :: (r.map fun (n, k) => if (k == NameKind.free && env.scope.kind == .function && env.kindOf n == some .cell) then (n, NameKind.cell) else (n, k))) = some .cell ∨
      List.lookup x ((if (k == NameKind.free && env.scope.kind == .function && env.kindOf n == some .cell) = true then (n, NameKind.cell) else (n, k)) :: (r.map fun (n, k) => if (k == NameKind.free && env.scope.kind == .function && env.kindOf n == some .cell) then (n, NameKind.cell) else (n, k))) = some .free := h
    cases hx : x == n with
    | true =>
      by_cases hc : (k == NameKind.free && env.scope.kind == .function && env.kindOf n == some .cell) = true
      · have : k = .free := by
          have z := (Bool.and_eq_true_iff.mp (Bool.and_eq_true_iff.mp hc).1).1
          simpa using z
        subst this
        exact .inl (by simp [List.lookup_cons, hx])
      · rw [if_neg hc] at h
        simp only [List.lookup_cons, hx] at h ⊢
        exact h.symm
    | false =>
      have : ∀ p : NameKind, List.lookup x ((if (k == NameKind.free && env.scope.kind == .function && env.kindOf n == some .cell) = true then (n, NameKind.cell) else (n, k)) :: (r.map fun (n, k) => if (k == NameKind.free && env.scope.kind == .function && env.kindOf n == some .cell) then (n, NameKind.cell) else (n, k))) = some p ↔ (r.map fun (n, k) => if (k == NameKind.free && env.scope.kind == .function && env.kindOf n == some .cell) then (n, NameKind.cell) else (n, k)).lookup x = some p := fun p => by
        by_cases hc : (k == NameKind.free && env.scope.kind == .function && env.kindOf n == some .cell) = true
        · rw [if_pos hc]; simp only [List.lookup_cons, hx]
        · rw [if_neg hc]; simp only [List.lookup_cons, hx]
      rw [this .cell, this .free] at h
      have := ih h
      simp only [List.lookup_cons, hx]
      exact this
/-- the cells of a block: its own, then those of the closure -/
theorem cells_split : ∀ (names : List (Str × NameKind)) (n : Nat) (acc : List (Str × Addr)), cellsFrom n names acc = cellsFrom n names [] ++ acc
  | [], _, _ => rfl
  | (name, kind) :: r, n, acc => by
    unfold cellsFrom
    split
    · rw [cells_split r (n + 1) ((name, n) :: acc), cells_split r (n + 1) [(name, n)], List.append_assoc]
      rfl
    · exact cells_split r n acc
theorem cells_own {x : Str} {c : Addr} : ∀ (names : List (Str × NameKind)) (n : Nat) (acc : List (Str × Addr)), (x, c) ∈ cellsFrom n names acc → (x, NameKind.cell) ∈ names ∨ (x, c) ∈ acc
  | [], _, _, h => .inr h
  | (name, kind) :: r, n, acc, h => by
    unfold cellsFrom at h
    split at h
    · rename_i hk
      have hk' : kind = .cell := by simpa using hk
      rcases cells_own r (n + 1) _ h with z | z
      · exact .inl (List.mem_cons_of_mem _ z)
      · rcases List.mem_cons.mp z with z | z
        · cases z; rw [hk']; exact .inl List.mem_cons_self
        · exact .inr z
    · rcases cells_own r n acc h with z | z
      · exact .inl (List.mem_cons_of_mem _ z)
      · exact .inr z

/-- a comprehension's own names, then those it takes from around: their slots -/
structure CompScope (X : Cx) (N' own : List Str) (cap : List (Str × Nat)) (scope : Scope) : Prop where
  kind : scope.kind = .function
  own1 : ∀ y ∈ scope.names, y.2 = .cell → scope.names.lookup y.1 = some .cell
  free1 : ∀ y ∈ scope.names, y.2 = .free → scope.names.lookup y.1 = some .free
  names : ∀ y ∈ scope.names, y.2 = .local → scope.names.lookup y.1 = some .local
  free : ∀ y ∈ scope.names, y.2 = .free → X.env.kindOf y.1 = some .cell ∨ X.env.kindOf y.1 = some .free
  eq : N' = own ++ cap.map (·.1)
  cap : ∀ p ∈ cap, X.N[p.2]? = some p.1 ∧ scope.names.lookup p.1 = some .free ∧ (X.env.kindOf p.1 = some .cell ∨ X.env.kindOf p.1 = some .free)
/-- the block's names at its start -/
def capSt (own : List Str) (cap : List (Str × Nat)) (σ : St) : St := own.map (fun _ => none) ++ cap.map fun p => (σ[p.2]?).join

section
variable {X : Cx} {pins : List (Addr × Obj)} {σ : St} {H : Hp} {s : Shared} {N' own : List Str} {cap : List (Str × Nat)} {scope : Scope} {cl : List (Str × Addr)} {fp : List Addr}
/-- what is known of the block's cells: each is the closure's, or a new one -/
structure CellsAre (X : Cx) (scope : Scope) (C : Addr) (cl cs : List (Str × Addr)) : Prop where
  old : ∀ y c, cs.lookup y = some c → (cl.lookup y = some c ∧ scope.names.lookup y ≠ some .cell) ∨ (C < c ∧ scope.names.lookup y = some .cell)
  free : ∀ y c, cl.lookup y = some c → scope.names.lookup y ≠ some .cell → cs.lookup y = some c
  has : ∀ y, scope.names.lookup y = some .cell → ∃ c, cs.lookup y = some c
  inj : ∀ x y c, C < c → cs.lookup x = some c → cs.lookup y = some c → x = y
theorem lookup_app {α : Type} {x : Str} : ∀ {l r : List (Str × α)}, (l ++ r).lookup x = (l.lookup x).or (r.lookup x)
  | [], r => by simp
  | (k, v) :: l, r => by
    have ih := @lookup_app α x l r
    rw [List.cons_append, List.lookup_cons, List.lookup_cons]
    cases x == k with
    | true => rfl
    | false => exact ih
theorem cells_are {h : Heap} {C : Addr} (hC : h.objs.size = C + 1) (S : CompScope X N' own cap scope) (hcl : ∀ y c, cl.lookup y = some c → ¬ C < c) : CellsAre X scope C cl (cellsFrom (C + 1) scope.names cl) := by
  have ok := cellsFrom_ok scope.names h (C + 1) [] ⟨fun _ _ hm => (nomatch hm), List.Pairwise.nil⟩ (by rw [hC]; exact Nat.le_refl _)
  rw [hC] at ok
  have own : ∀ y c, (cellsFrom (C + 1) scope.names []).lookup y = some c → C < c ∧ scope.names.lookup y = some .cell := fun y c e => by
    have m := PySem.mem_of_lookup e
    refine ⟨(ok.empty y c m).2, ?_⟩
    rcases cells_own _ _ _ m with z | z
    · exact S.own1 _ z rfl
    · simp at z
  have no : ∀ y, scope.names.lookup y ≠ some .cell → (cellsFrom (C + 1) scope.names []).lookup y = none := fun y hy => by
    cases e : (cellsFrom (C + 1) scope.names []).lookup y with
    | none => rfl
    | some c => exact absurd (own y c e).2 hy
  have has : ∀ y, scope.names.lookup y = some .cell → ∃ c, (cellsFrom (C + 1) scope.names []).lookup y = some c := fun y hy => Option.isSome_iff_exists.mp (PySem.W.cellsFrom_some scope.names (C + 1) [] (.inl hy))
  refine ⟨fun y c e => ?_, fun y c e hy => ?_, fun y hy => ?_, fun x y c hc e1 e2 => ?_⟩
  · rw [cells_split, lookup_app] at e
    cases q : (cellsFrom (C + 1) scope.names []).lookup y with
    | none =>
      rw [q] at e
      refine .inl ⟨e, fun z => ?_⟩
      obtain ⟨c', e'⟩ := has y z
      rw [q] at e'; cases e'
    | some c' =>
      rw [q] at e
      have : c' = c := Option.some.inj e
      subst this
      exact .inr (own y c' q)
  · rw [cells_split, lookup_app, no y hy]
    exact e
  · obtain ⟨c, e⟩ := has y hy
    exact ⟨c, by rw [cells_split, lookup_app, e]; rfl⟩
  · have pick : ∀ z, (cellsFrom (C + 1) scope.names cl).lookup z = some c → (z, c) ∈ cellsFrom (C + 1) scope.names [] := fun z e => by
      rw [cells_split, lookup_app] at e
      cases q : (cellsFrom (C + 1) scope.names []).lookup z with
      | none => rw [q] at e; exact absurd hc (hcl z c e)
      | some c' =>
        rw [q] at e
        have : c' = c := Option.some.inj e
        subst this
        exact PySem.mem_of_lookup q
    exact PySem.name_of_addr ok.apart (pick x e1) (pick y e2)
theorem comp_ok (I : Inv X pins σ H s) (S : CompScope X N' own cap scope) {cs : List (Str × Addr)} (A : CellsAre X scope s.heap.objs.size cl cs) (c1 : ∀ y c, cl.lookup y = some c → X.env.cells.lookup y = some c) (c2 : ∀ y, (y, NameKind.free) ∈ scope.names → ∃ c, cl.lookup y = some c)
    (hf : ∀ b ∈ fp, FpOk X pins H b) (hlt : ∀ b ∈ fp, b < s.heap.objs.size) : (compCx X N' scope cs s.heap.objs.size s H fp).Ok where
  mod := I.ok.mod
  kind := S.kind
  glob := I.ok.glob
  blt := I.ok.blt
  above := Nat.le_refl _
  inj := fun x y c h1 h2 => by
    rcases A.old x c h1 with ⟨a1, _⟩ | ⟨a1, _⟩
    · rcases A.old y c h2 with ⟨b1, _⟩ | ⟨b1, _⟩
      · exact I.ok.inj x y c (c1 x c a1) (c1 y c b1)
      · obtain ⟨v, o, ho, _⟩ := I.cell x c (c1 x c a1)
        exact absurd (Nat.lt_trans b1 (Heap.lt_size ho)) (Nat.lt_irrefl _)
    · exact A.inj x y c a1 h1 h2
  has := fun x h => by
    rcases relabel_back h with z | z
    · obtain ⟨c, e⟩ := c2 x (PySem.mem_of_lookup z)
      exact ⟨c, A.free x c e (by rw [z]; simp)⟩
    · exact A.has x z
  cab := fun x c h e => by
    have h' : scope.names.lookup x = some .cell := by
      have : (scope.names.lookup x == some NameKind.cell) = true := h
      simpa using this
    rcases A.old x c e with ⟨_, z⟩ | ⟨z, _⟩
    · exact absurd h' z
    · exact Nat.le_of_lt z
  hd := I.ok.hd
  frames := I.ok.frames
  stk := .inl rfl
  exf := fun b hb => ⟨Nat.ne_of_lt (hlt b hb), fun x c h => by
    rcases A.old x c h with ⟨z, _⟩ | ⟨z, _⟩
    · exact (hf b hb).2.2.2.2.1 x c (c1 x c z)
    · exact fun e => absurd (Nat.lt_trans (e ▸ z) (hlt b hb)) (Nat.lt_irrefl _)⟩
  bs := I.bs
  bsz := Nat.le_trans I.ok.bsz I.sz
  noex := fun b o e hb => by
    rcases (hf b hb).2.2.2.1 with z | z
    · exact I.ok.noex b o e z
    · exact absurd (Nat.lt_of_lt_of_le (Heap.lt_size e) (Nat.le_trans I.ok.bsz z)) (Nat.lt_irrefl _)
  exfs := fun b hb z => by
    rcases List.mem_cons.mp (I.stkSub b z) with q | q
    · exact (hf b hb).2.1 q
    · exact (hf b hb).2.2.1 q
  funs := I.stack
  frf := I.stkFree

theorem comp_inv {h' : Heap} {t' : Nat} {cs : List (Str × Addr)} (I : Inv X pins σ H s) (S : CompScope X N' own cap scope) (A : CellsAre X scope s.heap.objs.size cl cs) (hA : ∀ y c, cs.lookup y = some c → s.heap.objs.size < c → h'.IsCell c none)
    (c1 : ∀ y c, cl.lookup y = some c → X.env.cells.lookup y = some c) (c2 : ∀ y, (y, NameKind.free) ∈ scope.names → ∃ c, cl.lookup y = some c)
    (hf : ∀ b ∈ fp, FpOk X pins H b) (hlt : ∀ b ∈ fp, b < s.heap.objs.size) (hk : ∀ b o, s.heap.get? b = some o → h'.get? b = some o) {m : Str → Option Value} (hn : h'.Ns s.heap.objs.size m) :
    Inv (compCx X N' scope cs s.heap.objs.size s H fp) [] (capSt own cap σ) H { s with heap := h', toks := t' } := by
  refine ⟨comp_ok I S A c1 c2 hf hlt, rfl, I.bare, Un.kept hk, ⟨m, hn, fun i x v h1 h2 h3 => ?_⟩, fun x c e => ?_, I.hok.fresh (Nat.le_refl _), fun x c e => ?_, fun p hp => absurd hp (by show p ∉ ([] ++ [] : List (Addr × Obj)); simp), ?_, ?_⟩
  · have hi : own.length ≤ i := by
      by_cases hi : own.length ≤ i
      · exact hi
      · unfold capSt at h2
        rw [List.getElem?_append_left (by rw [List.length_map]; omega), List.getElem?_map] at h2
        cases e : own[i]? with
        | none => rw [e] at h2; cases h2
        | some a => rw [e] at h2; cases h2
    have h1' : (own ++ cap.map (·.1))[i]? = some x := by rw [← S.eq]; exact h1
    rw [List.getElem?_append_right hi, List.getElem?_map] at h1'
    unfold capSt at h2
    rw [List.getElem?_append_right (by rw [List.length_map]; exact hi), List.length_map, List.getElem?_map] at h2
    cases e : cap[i - own.length]? with
    | none => rw [e] at h2; cases h2
    | some p =>
      rw [e] at h1' h2
      have ex : p.1 = x := Option.some.inj h1'
      have ev : (σ[p.2]?).join = some v := Option.some.inj h2
      have ev' : σ[p.2]? = some (some v) := by
        cases q : σ[p.2]? with
        | none => rw [q] at ev; cases ev
        | some z => rw [q] at ev; exact congrArg some ev
      obtain ⟨k1, k2, k3⟩ := S.cap p (List.mem_of_getElem? e)
      subst ex
      obtain ⟨m0, hn0, hl⟩ := I.loc
      obtain ⟨u, ru, lk⟩ := hl p.2 p.1 v k1 ev' (by rcases k3 with z | z; exact .inr (.inl z); exact .inr (.inr z))
      refine ⟨u, ru, ?_⟩
      rcases lk with ⟨z, _⟩ | ⟨_, c, hc, hcell⟩
      · rcases k3 with q | q <;> (rw [z] at q; cases q)
      · refine .inr ⟨?_, c, ?_, ?_⟩
        · rcases lookup_relabel (env := X.env) k2 with q | q
          · exact .inr q
          · exact .inl q
        · obtain ⟨c', e'⟩ := c2 p.1 (PySem.mem_of_lookup k2)
          have := c1 _ _ e'
          rw [hc] at this
          cases this
          exact A.free _ _ e' (by rw [k2]; simp)
        · obtain ⟨o, ho, hd⟩ := hcell
          exact ⟨o, hk _ _ ho, hd⟩
  · rcases A.old x c e with ⟨z, _⟩ | ⟨z, _⟩
    · obtain ⟨v, o, ho, hd⟩ := I.cell x c (c1 x c z)
      exact ⟨v, o, hk _ _ ho, hd⟩
    · exact ⟨none, hA x c e z⟩
  · rcases A.old x c e with ⟨z, _⟩ | ⟨z, _⟩
    · exact I.freeC x c (c1 x c z)
    · exact I.hok.fresh (Nat.le_of_lt z)
  · exact I.hok.kept hk
  · show (capSt own cap σ).length = N'.length
    rw [S.eq]
    unfold capSt
    simp
end
end L2


set_option Elab.async false
set_option linter.all false
set_option maxRecDepth 100000
namespace L2
open PySem PySem.Spec PyProof.Rows

/-- the tests of a clause -/
def PIf (X : Cx) (ifs : List Expr) (t : TT) : Prop :=
  ∀ (pins : List (Addr × Obj)) (s : Shared) (σ : St) (H : Hp) (Q : Bool → Hp → Prop), Inv X pins σ H s → t σ H Q →
    wpAny (model X.prog X.w) X.A (forIn ifs true fun c r => if r = true then do let ok ← isTrue c X.env (eval c X.env); pure (ForInStep.yield ok) else pure (ForInStep.yield r)) (TP X pins σ Q) X.xe s
def tYes : TT := fun _ H Q => Q true H
theorem pif_nil {X : Cx} : PIf X [] tYes := fun _ _ _ H _ I h => wpAny_tests_nil ⟨H, I, h⟩
theorem pif_one {X : Cx} {c : Expr} {t : TT} (h : PT X c t) : PIf X [c] t := fun pins s σ H Q I hw => wpAny_tests_one (h pins s σ H Q I hw)

/-- a block's environment, its cells laid -/
theorem newEnv_around {M : Model} {A : Around} {E : Value → Shared → Prop} {s : Shared} {scope : Scope} {globals : Addr} {cl : List (Str × Addr)} {qual : Str} {env : Env} {Q : Env → Shared → Prop}
    (hQ : ∀ h', h'.Ns s.heap.objs.size (fun _ => none) → (∀ b o, s.heap.get? b = some o → h'.get? b = some o) → (∀ n c, (n, c) ∈ cellsFrom (s.heap.objs.size + 1) scope.names [] → h'.IsCell c none) →
      Q (newEnv scope s.heap.objs.size globals (cellsFrom (s.heap.objs.size + 1) scope.names cl) qual none .none (some env) builtinsNs) { s with heap := h' }) :
    wpAny M A (newFunctionEnv scope globals cl [] qual none .none (some env)) Q E s := by
  simp only [newFunctionEnv, Option.isSome_some, if_true]
  refine wpAny_bind (wpAny_alloc ?_)
  refine wpAny_bind (wpAny_layCells _ (fun name kind cells => by cases hkc : kind == NameKind.cell <;> simp [hkc]) _ _ _ _ ?_)
  have ok := cellsFrom_ok scope.names (s.heap.push { cls := .type "dict", data := .dict #[] }) (s.heap.objs.size + 1) [] ⟨fun _ _ hm => (nomatch hm), List.Pairwise.nil⟩ (by rw [Heap.size_push]; exact Nat.le_refl _)
  rw [Heap.size_push] at ok
  rw [show ({ s with heap := s.heap.push { cls := .type "dict", data := .dict #[] } } : Shared).heap.objs.size = s.heap.objs.size + 1 from Heap.size_push ..]
  rw [List.forIn_nil]
  refine wpAny_bind (wpAny_pure (wpAny_pure ?_))
  exact hQ _ ((Heap.Ns.new s.heap (.type "dict")).keeps (pushCells_keeps _ _)) (fun b o e => pushCells_keeps _ _ b o (Heap.get?_push_of_some _ e)) fun n c hm => (ok.empty n c hm).1

/-- what the turns of a list comprehension want: the new list stands at D -/
def CompTurns (J : It) (g : TG) (tc : TT) (te : TE) (D : Addr) (σ0 : St) (H0 : Hp) (Z : Hp → Prop) : Prop :=
  ∃ W : Nat → Nat → St → Hp → Prop, (∃ m, W 0 m σ0 (upd H0 D (.lst []))) ∧ ∀ i m σ H, W i m σ H →
    (J.stop i H ∧ Z H) ∨ (J.go i H ∧ ∃ N : St → Hp → Prop, (∀ σ' H', N σ' H' → ∃ m', m' < m ∧ W (i + 1) m' σ' H') ∧ ∀ x H', J.yld i H x H' → g x σ H' fun σ2 H2 => tc σ2 H2 fun b H3 =>
      if b = true then te σ2 H3 fun v H4 => ∃ ys, H4 D = some (.lst ys) ∧ ys.length < sizeLine ∧ N σ2 (upd H4 D (.lst (ys ++ [v]))) else N σ2 H3)

section
variable {X : Cx} {pins : List (Addr × Obj)} {σ : St} {N' own : List Str} {cap : List (Str × Nat)} {scope : Scope} {tg iter elt : Expr} {ifs : List Expr} {pos : Pos} {g : TG} {tc : TT} {te : TE}
theorem comp_core {s2 : Shared} {H2 : Hp} {it : Addr} {fp : List Addr} {tn : Nat → Heap → Prop} {J : It} {cl : List (Str × Addr)} {Z : Addr → Hp → Prop} {RR : Value → Addr → Result → Shared → Prop} {E : Value → Shared → Prop}
    (hx : ∀ e s, X.xe e s → False) (hc : X.calm = true) (S : CompScope X N' own cap scope)
    (hg : ∀ cl C s₀ H₀ ex, PG (compCx X N' scope cl C s₀ H₀ ex) tg g) (ht : ∀ cl C s₀ H₀ ex, PIf (compCx X N' scope cl C s₀ H₀ ex) ifs tc) (he : ∀ cl C s₀ H₀ ex, PE (compCx X N' scope cl C s₀ H₀ ex) elt te)
    (I2 : Inv X pins σ H2 s2) (T : Turn X.prog X.w X.K tg J fp it tn) (st2 : tn 0 s2.heap) (f2 : ∀ b ∈ fp, FpOk X pins H2 b)
    (c1 : ∀ y c, cl.lookup y = some c → X.env.cells.lookup y = some c) (c2 : ∀ y, (y, NameKind.free) ∈ scope.names → ∃ c, cl.lookup y = some c)
    (h : ∀ D, H2 D = none → CompTurns J g tc te D (capSt own cap σ) H2 (Z D))
    (hRR : ∀ D C s' m' H', Inv X pins σ H' s' → s'.heap.Ns C m' → FpOk X pins H' C → Z D H' → RR (.ref D) C (.ok .next) s') :
    wpAny (model X.prog X.w) X.A (newList []) (fun acc s₃ => wpAny (model X.prog X.w) X.A (newFunctionEnv scope X.env.globals cl [] X.env.qual none .none (some X.env)) (fun cenv s₄ =>
      codeAny (model X.prog X.w) X.A (.compStart (.ListComp elt [⟨tg, iter, ifs, 0⟩] scope pos) 0 (.ref it) acc { cenv with scope := relabel scope X.env }) (RR acc cenv.locals) s₄) E s₃) E s2 := by
  have hlt : ∀ b ∈ fp, b < s2.heap.objs.size := fun b hb => by
    obtain ⟨o, e, _⟩ := T.obj _ _ st2 b hb
    exact Heap.lt_size e
  have hD : H2 s2.heap.objs.size = none := I2.hok.fresh (Nat.le_refl _)
  obtain ⟨W, ⟨m0, w0⟩, turn⟩ := h _ hD
  refine wpAny_newObj_type (newEnv_around (fun h₁ hns₁ hk₁ hce₁ => ?_))
  dsimp only at hns₁ hk₁ hce₁ ⊢
  have I3 : Inv X pins σ (upd H2 s2.heap.objs.size (.lst [])) { s2 with heap := s2.heap.push { cls := .type "list", dict := none, data := .seq ([] : List Value).toArray }, toks := s2.toks } :=
    I2.laid (fun b o e => Heap.get?_push_of_some _ e) (Nat.le_refl _) ⟨Nat.zero_le _, [], 0, .nil, Heap.get?_push_size _ rfl⟩
  generalize hs3 : ({ s2 with heap := s2.heap.push { cls := .type "list", dict := none, data := .seq ([] : List Value).toArray }, toks := s2.toks } : Shared) = s3 at I3
  have e3 : s2.heap.push { cls := .type "list", dict := none, data := .seq ([] : List Value).toArray } = s3.heap := by rw [← hs3]
  have hsz : s3.heap.objs.size = s2.heap.objs.size + 1 := by rw [← e3, Heap.size_push]
  rw [e3] at hns₁ hk₁ hce₁ ⊢
  have hk := hk₁
  have hcl : ∀ y c, cl.lookup y = some c → ¬ s3.heap.objs.size < c := fun y c e z => by
    obtain ⟨v, o, ho, _⟩ := I3.cell y c (c1 y c e)
    exact Nat.lt_irrefl _ (Nat.lt_trans z (Heap.lt_size ho))
  have CA : CellsAre X scope s3.heap.objs.size cl (cellsFrom (s3.heap.objs.size + 1) scope.names cl) := cells_are (h := s3.heap.push { cls := .type "dict", data := .dict #[] }) (by rw [Heap.size_push]) S hcl
  have hcell : ∀ y c, (cellsFrom (s3.heap.objs.size + 1) scope.names cl).lookup y = some c → s3.heap.objs.size < c → h₁.IsCell c none := fun y c e z => by
    rw [cells_split, lookup_app] at e
    cases q : (cellsFrom (s3.heap.objs.size + 1) scope.names []).lookup y with
    | none => rw [q] at e; exact absurd z (hcl y c e)
    | some c' =>
      rw [q] at e
      have : c' = c := Option.some.inj e
      subst this
      exact hce₁ y c' (PySem.mem_of_lookup q)
  generalize hcs : cellsFrom (s3.heap.objs.size + 1) scope.names cl = cs at CA hcell ⊢
  have f3 : ∀ b ∈ fp, FpOk X pins (upd H2 s2.heap.objs.size (.lst [])) b := fun b hb => ⟨by rw [upd_ne (Nat.ne_of_lt (hlt b hb))]; exact (f2 b hb).1, (f2 b hb).2⟩
  have hlt3 : ∀ b ∈ fp, b < s3.heap.objs.size := fun b hb => by rw [hsz]; exact Nat.lt_succ_of_lt (hlt b hb)
  have st3 : tn 0 h₁ := T.keep _ _ _ st2 fun b hb o e => hk b o (by rw [← e3]; exact Heap.get?_push_of_some _ e)
  have J0 : Inv (compCx X N' scope cs s3.heap.objs.size s3 (upd H2 s2.heap.objs.size (.lst [])) fp) [] (capSt own cap σ) (upd H2 s2.heap.objs.size (.lst [])) { s3 with heap := h₁, toks := s2.toks } :=
    comp_inv I3 S CA hcell c1 c2 f3 hlt3 hk hns₁
  have stat : ∀ {pl : List (Addr × Obj)} {H' : Hp}, pl = [] → (∀ b ∈ fp, H' b = none) → ∀ b ∈ fp, FpOk (compCx X N' scope cs s3.heap.objs.size s3 (upd H2 s2.heap.objs.size (.lst [])) fp) pl H' b := fun {pl H'} hp hn b hb => by
    subst hp
    refine ⟨hn b hb, Nat.ne_of_lt (hlt3 b hb), J0.ok.exfs b hb, .inl hb, fun x c e => J0.ok.exf b hb |>.2 x c e, fun p hp => absurd hp (by show p ∉ ([] ++ [] : List (Addr × Obj)); simp)⟩
  have noX : ∀ {α : Type} {t : Sem α} {Q : α → Shared → Prop} {s : Shared}, wpAny (model X.prog X.w) X.A t Q X.xe s → wpAny (model X.prog X.w) X.A t Q (fun _ _ => False) s := fun q => wpAny_mono q (fun _ _ z => z) fun e s z => hx e s z
  have loop : codeAny (model X.prog X.w) X.A (.compLoop (.ListComp elt [⟨tg, iter, ifs, 0⟩] scope pos) 0 (.ref it) (.ref s2.heap.objs.size) (compEnvC scope cs s3.heap.objs.size X.env)) (RR (.ref s2.heap.objs.size) s3.heap.objs.size)
      { s3 with heap := h₁, toks := s2.toks } := by
    refine compLoop_any (fun n s' => ∃ i σ' H', Inv (compCx X N' scope cs s3.heap.objs.size s3 (upd H2 s2.heap.objs.size (.lst [])) fp) [] σ' H' s' ∧ tn i s'.heap ∧ (∀ b ∈ fp, H' b = none) ∧ W i n σ' H') ?_ m0
      ⟨0, _, _, J0, st3, fun b hb => (f3 b hb).1, w0⟩
    rintro n s4 ⟨i, σ4, H4, I4, st4, fr4, w4⟩
    rcases turn i n σ4 H4 w4 with ⟨stop, qz⟩ | ⟨go, N, hN, step⟩
    · refine wpAny_mono (T.done (compCx X N' scope cs s3.heap.objs.size s3 (upd H2 s2.heap.objs.size (.lst [])) fp) rfl rfl rfl hc i [] s4 σ4 H4 (fun _ _ => False) I4 (stat rfl fr4) st4 stop) (fun r s5 ⟨hr, I5⟩ => ?_) fun _ _ z => z
      subst hr
      have I6 : Inv X pins σ H4 s5 := I3.call' (ch := fp) I5.os I5.base I5.hok I5.bare fun b hb => ⟨(f3 b hb).2.2.2.1, (f3 b hb).2.1, (f3 b hb).2.2.2.2.1, (f3 b hb).2.2.2.2.2⟩
      obtain ⟨m', hn', _⟩ := I5.loc
      exact hRR _ _ s5 m' H4 I6 hn' (I3.fpOk (Nat.le_refl _) I5.free) qz
    · refine wpAny_mono (T.item (compCx X N' scope cs s3.heap.objs.size s3 (upd H2 s2.heap.objs.size (.lst [])) fp) rfl rfl rfl hc i [] s4 σ4 H4 (fun _ _ => False) I4 (stat rfl fr4) st4 go) (fun r s5 ⟨u, hr, h5⟩ => ?_) fun _ _ z => z
      subst hr
      refine wpAny_mono h5 (fun _ s6 ⟨x, H6, I6, r6, y6, st6, fr6⟩ => ?_) fun _ _ z => z
      have I6' := I6.pinned (stat rfl fr6) (T.obj _ _ st6)
      have again : ∀ {σ7 : St} {H7 : Hp} {s7 : Shared}, Inv (compCx X N' scope cs s3.heap.objs.size s3 (upd H2 s2.heap.objs.size (.lst [])) fp) ([] ++ pinsAt fp s6.heap) σ7 H7 s7 → N σ7 H7 →
          ∃ m, m < n ∧ ∃ i σ' H', Inv (compCx X N' scope cs s3.heap.objs.size s3 (upd H2 s2.heap.objs.size (.lst [])) fp) [] σ' H' s7 ∧ tn i s7.heap ∧ (∀ b ∈ fp, H' b = none) ∧ W i m σ' H' := fun {σ7 H7 s7} I7 n7 => by
        obtain ⟨m', hm, w7⟩ := hN σ7 H7 n7
        refine ⟨m', hm, i + 1, σ7, H7, I7.unpinned, T.keep _ _ _ st6 fun b hb o e => (I7.pin (b, o) (List.mem_append_right _ (List.mem_append_right _ (mem_pinsAt hb e)))).1, fun b hb => ?_, w7⟩
        obtain ⟨o, e, d⟩ := T.obj _ _ st6 b hb
        exact (I7.pin (b, o) (List.mem_append_right _ (List.mem_append_right _ (mem_pinsAt hb e)))).2.1
      refine noX (thn (hg _ _ _ _ _ _ s6 σ4 H6 x u _ I6' r6 (step x H6 y6)) fun _ s7 ⟨σ7, H7, I7, q7⟩ => ?_)
      refine noX (thn (ht _ _ _ _ _ _ s7 σ7 H7 _ I7 q7) fun b s8 ⟨H8, I8, q8⟩ => ?_)
      cases b with
      | false =>
        show ∃ m, _
        exact again I8 q8
      | true =>
        show wpAny _ _ _ _ _ _
        refine noX (thn (he _ _ _ _ _ _ s8 σ7 H8 _ I8 q8) fun y s9 ⟨v, H9, I9, r9, ys, hy, hz, q9⟩ => ?_)
        refine noX (thn (mt_append (X := compCx X N' scope cs s3.heap.objs.size s3 (upd H2 s2.heap.objs.size (.lst [])) fp) _ s9 σ7 H9 (.ref s2.heap.objs.size) [v] (.ref s2.heap.objs.size) [y] (fun _ H' => N σ7 H') I9 rfl (.cons r9 .nil) ⟨_, ys, v, rfl, rfl, hy, hz, q9⟩) fun _ s10 ⟨_, H10, I10, _, q10⟩ => ?_)
        exact again I10 q10
  have lp : codeAny (model X.prog X.w) X.A (.compStart (.ListComp elt [⟨tg, iter, ifs, 0⟩] scope pos) 0 (.ref it) (.ref s2.heap.objs.size) (compEnvC scope cs s3.heap.objs.size X.env)) (RR (.ref s2.heap.objs.size) s3.heap.objs.size)
      { s3 with heap := h₁, toks := s2.toks } := codeAny_compStart_list loop (T.self _ 0 _ _ _ st3 loop)
  subst hs3
  exact lp
end
end L2


set_option Elab.async false
set_option linter.all false
set_option maxRecDepth 100000
namespace L2
open PySem PySem.Spec PyProof.Rows
/-- a list comprehension of one clause -/
def tComp (own : List Str) (cap : List (Str × Nat)) (wi : TI) (g : TG) (tc : TT) (te : TE) : TE := fun σ H Q => wi σ H fun J H1 => ∀ D, H1 D = none → CompTurns J g tc te D (capSt own cap σ) H1 (Q (.ref D))
/-- .. stored under a name at once -/
def tSetComp (i : Nat) (own : List Str) (cap : List (Str × Nat)) (wi : TI) (g : TG) (tc : TT) (te : TE) : TS := fun D σ H => wi σ H fun J H1 => ∀ p, H1 p = none → CompTurns J g tc te p (capSt own cap σ) H1 (fun H2 => D.nx (σ.set i (some (.ref p))) H2)
section
variable {X : Cx} {N' own : List Str} {cap : List (Str × Nat)} {scope : Scope} {tg iter elt : Expr} {ifs : List Expr} {pos : Pos} {wi : TI} {g : TG} {tc : TT} {te : TE}
theorem Inv.letgo {pins : List (Addr × Obj)} {σ : St} {H : Hp} {s : Shared} {h' : Heap} {C : Addr} (I : Inv X pins σ H s) (f : FpOk X pins H C) (hs : Heap.SameBut C s.heap h') : Inv X pins σ H { s with heap := h' } :=
  I.turned (t' := s.toks) (it := C) (fun b o hb e => (hs.2 b hb).trans e) f.1 f.2.1 f.2.2.2.1 f.2.2.2.2.1 f.2.2.2.2.2
theorem pe_comp (S : CompScope X N' own cap scope) (hi : PI X tg iter wi)
    (hg : ∀ cl C s₀ H₀ ex, PG (compCx X N' scope cl C s₀ H₀ ex) tg g) (ht : ∀ cl C s₀ H₀ ex, PIf (compCx X N' scope cl C s₀ H₀ ex) ifs tc) (he : ∀ cl C s₀ H₀ ex, PE (compCx X N' scope cl C s₀ H₀ ex) elt te)
    (hx : ∀ e s, X.xe e s → False := by exact fun _ _ z => z) (hc : X.calm = true := by rfl) (hs : ∀ x, foldedSetIterable iter X.env x = pure x := by intro _; rfl) :
    PE X (.ListComp elt [⟨tg, iter, ifs, 0⟩] scope pos) (tComp own cap wi g tc te) := by
  intro pins s σ H Q I h
  rw [eval_ListComp]
  obtain ⟨cl, hcl, c1, c2⟩ := comp_closure (scope := scope) (env := X.env) fun y hy hk => I.ok.has y.1 (S.free y hy hk)
  refine wpAny_comprehension_free (use := none) rfl hs hcl S.kind S.names (thn (hi pins s σ H _ I h) fun v s1 h1 => thn h1 fun itv s2 h2 => ?_)
  obtain ⟨it, fp, tn, J, H2, e, I2, T, st2, f2, q⟩ := h2
  subst e
  refine comp_core (RR := fun acc C => compPost (model X.prog X.w) X.A X.xe none (EP X pins σ Q) acc C) (Z := fun D => Q (.ref D)) hx hc S hg ht he I2 T st2 f2 c1 c2 q ?_
  intro D C s' m' H' I' hn' f' z
  exact ⟨m', hn', fun h'' hs'' => ⟨.ref D, H', I'.letgo f' hs'', rfl, z⟩⟩
theorem ps_setComp {i : Nat} {y : Str} {py spos : Pos} (hN : X.N.Nodup) (hi' : X.N[i]? = some y) (hy : X.env.scope.names.lookup y = some .local) (S : CompScope X N' own cap scope) (hi : PI X tg iter wi)
    (hg : ∀ cl C s₀ H₀ ex, PG (compCx X N' scope cl C s₀ H₀ ex) tg g) (ht : ∀ cl C s₀ H₀ ex, PIf (compCx X N' scope cl C s₀ H₀ ex) ifs tc) (he : ∀ cl C s₀ H₀ ex, PE (compCx X N' scope cl C s₀ H₀ ex) elt te)
    (hsw : swapsWith (.ListComp elt [⟨tg, iter, ifs, 0⟩] scope pos) (some (.Name y py)) spos.line X.env = pure true := by rfl)
    (hx : ∀ e s, X.xe e s → False := by exact fun _ _ z => z) (hc : X.calm = true := by rfl) (hs : ∀ x, foldedSetIterable iter X.env x = pure x := by intro _; rfl) :
    PS X (.Assign [.Name y py] (.ListComp elt [⟨tg, iter, ifs, 0⟩] scope pos) spos) (tSetComp i own cap wi g tc te) := by
  intro pins s σ H D I h
  obtain ⟨cl, hcl, c1, c2⟩ := comp_closure (scope := scope) (env := X.env) fun y hy hk => I.ok.has y.1 (S.free y hy hk)
  rw [exec_Assign_Name_used _ _ _ _ hsw]
  refine wpAny_bind (wpAny_standAt (wpAny_bind ?_))
  show wpAny _ _ (do let _ ← comprehension (.ListComp elt [⟨tg, iter, ifs, 0⟩] scope pos) scope X.env _ (newList []) false (eval iter X.env) (some (assign (.Name y py) X.env))) _ _ s
  refine wpAny_bind (wpAny_mono (wpAny_comprehension_free (use := some (assign (.Name y py) X.env)) (Q := fun _ s' => SP X pins D .next s') rfl hs hcl S.kind S.names
    (thn (hi pins s σ H _ I h) fun v s1 h1 => thn h1 fun itv s2 h2 => ?_)) (fun _ s' hq => wpAny_pure (wpAny_pure hq)) fun _ _ e => e)
  obtain ⟨it, fp, tn, J, H2, e, I2, T, st2, f2, q⟩ := h2
  subst e
  refine comp_core (RR := fun acc C => compPost (model X.prog X.w) X.A X.xe (some (assign (.Name y py) X.env)) (fun _ s' => SP X pins D .next s') acc C) (Z := fun p H2 => D.nx (σ.set i (some (.ref p))) H2) hx hc S hg ht he I2 T st2 f2 c1 c2 q ?_
  intro p C s' m' H' I' hn' f' z
  show wpAny _ _ (assign (.Name y py) X.env (.ref p)) _ _ _
  refine wpAny_assign_Name (store_ok2 I' hN hi' (.inl hy) (v := .ref p) rfl (fun s'' I'' ⟨a, hsb, ha⟩ => ?_) (.inr hy))
  have hCa : C ≠ a := by
    rcases ha with z | z
    · rw [z]; exact f'.2.1
    · exact fun e => f'.2.2.2.2.1 y a z e.symm
  refine ⟨m', hn'.sameBut hsb hCa, fun h3 hs3 => ?_⟩
  exact ⟨_, H', I''.letgo f' hs3, z⟩
end

/-! ### the forms one uses -/
section
variable {K : PySem.W.Frag} {g : TG} {tc : TT} {te : TE} {D : Addr} {σ0 : St} {H0 : Hp} {Z : Hp → Prop}
/-- over a list that stays as it is; Pv: turn, the block's names, heap -/
theorem comp_list {a : Addr} {xs : List V} (Pv : Nat → St → Hp → Prop) (h0 : Pv 0 σ0 (upd H0 D (.lst []))) (hl : ∀ i σ H, i ≤ xs.length → Pv i σ H → SqL K H a xs)
    (hs : ∀ i x σ H, xs[i]? = some x → Pv i σ H → g x σ H fun σ2 H2 => tc σ2 H2 fun b H3 => if b = true then te σ2 H3 fun v H4 => ∃ ys, H4 D = some (.lst ys) ∧ ys.length < sizeLine ∧ Pv (i + 1) σ2 (upd H4 D (.lst (ys ++ [v]))) else Pv (i + 1) σ2 H3)
    (hd : ∀ σ H, Pv xs.length σ H → Z H) : CompTurns (Itl K a) g tc te D σ0 H0 Z := by
  refine ⟨fun i m σ H => m = xs.length - i ∧ i ≤ xs.length ∧ Pv i σ H, ⟨xs.length, by simp, Nat.zero_le _, h0⟩, ?_⟩
  rintro i m σ H ⟨rfl, hi, p⟩
  have q := hl i σ H hi p
  by_cases hlt : i < xs.length
  · refine .inr ⟨⟨xs, xs[i], q, by simp [hlt]⟩, Pv (i + 1), fun σ' H' p' => ⟨xs.length - (i + 1), by omega, rfl, hlt, p'⟩, fun x H' y => ?_⟩
    obtain ⟨e, y⟩ := y
    subst e
    exact hs i x σ _ (y xs q) p
  · have e : i = xs.length := by omega
    subst e
    exact .inl ⟨⟨xs, q, Nat.le_refl _⟩, hd σ H p⟩
theorem comp_range {lo : Int} {n : Nat} (Pv : Nat → St → Hp → Prop) (h0 : Pv 0 σ0 (upd H0 D (.lst [])))
    (hs : ∀ i σ H, i < n → Pv i σ H → g (.int (lo + i)) σ H fun σ2 H2 => tc σ2 H2 fun b H3 => if b = true then te σ2 H3 fun v H4 => ∃ ys, H4 D = some (.lst ys) ∧ ys.length < sizeLine ∧ Pv (i + 1) σ2 (upd H4 D (.lst (ys ++ [v]))) else Pv (i + 1) σ2 H3)
    (hd : ∀ σ H, Pv n σ H → Z H) : CompTurns (Itr lo n) g tc te D σ0 H0 Z := by
  refine ⟨fun i m σ H => m = n - i ∧ i ≤ n ∧ Pv i σ H, ⟨n, by simp, Nat.zero_le _, h0⟩, ?_⟩
  rintro i m σ H ⟨rfl, hi, p⟩
  by_cases hlt : i < n
  · refine .inr ⟨hlt, Pv (i + 1), fun σ' H' p' => ⟨n - (i + 1), by omega, rfl, hlt, p'⟩, fun x H' y => ?_⟩
    obtain ⟨e, y⟩ := y
    subst e y
    exact hs i σ _ hlt p
  · have e : i = n := by omega
    subst e
    exact .inl ⟨Nat.le_refl _, hd σ H p⟩
end
end L2


set_option Elab.async false
set_option linter.all false
set_option maxRecDepth 100000
namespace L2
open PySem PySem.Spec PyProof.Rows
section
variable {X : Cx} {pins : List (Addr × Obj)} {σ : St} {H : Hp} {s : Shared} {h' : Heap} {ch : List Addr}
/-- untracked records of ours have turned -/
theorem Inv.turns {t' : Nat} (I : Inv X pins σ H s) (hf : ∀ b ∈ ch, FpOk X pins H b) (k : ∀ b o, b ∉ ch → s.heap.get? b = some o → h'.get? b = some o) : Inv X pins σ H { s with heap := h', toks := t' } := by
  have nit : ∀ b u, H b = some u → b ∉ ch := fun b u e z => by rw [(hf b z).1] at e; cases e
  refine I.step (g' := s.gens) (d' := s.drawn) (ch := ch) (fun b hb => ?_) (fun b o _ _ hc e _ => k b o hc e) (fun b o _ _ hc e _ => ⟨o.slots, k b o hc e⟩) (fun _ _ _ _ n => n)
    (fun b o hc e => ⟨o, k b o hc e⟩) (fun _ _ e => e) (fun _ _ _ e => e) (fun b ps e => ⟨#[], by rw [e]; simp⟩) (fun m hm => ?_) (fun b u e => ?_) I.bare
  · obtain ⟨f0, f1, f2, f3, f4, f5⟩ := hf b hb
    exact ⟨f3, f1, f4, f5⟩
  · obtain ⟨o, es, ep, ho, r⟩ := hm
    exact ⟨o, es, ep, k _ o (fun z => (hf _ z).2.1 rfl) ho, r⟩
  · refine (I.hok b u e).stay (fun c v hc q => k c v ?_ q) (fun _ q => q) fun _ _ q => q
    rcases hc with z | z
    · rw [z]; exact nit b u e
    · exact nit c _ z
/-- .. and a new object is laid and tracked -/
theorem Inv.turnLay {t' : Nat} {T : Addr} {o : HO} (I : Inv X pins σ H s) (hf : ∀ b ∈ ch, FpOk X pins H b) (k : ∀ b o, b ∉ ch → s.heap.get? b = some o → h'.get? b = some o) (hT : s.heap.objs.size ≤ T)
    (new : ObjOk X.prog X.w (upd H T o) h' T o) : Inv X pins σ (upd H T o) { s with heap := h', toks := t' } := by
  have nit : ∀ b u, H b = some u → b ∉ ch := fun b u e z => by rw [(hf b z).1] at e; cases e
  have hn : H T = none := I.hok.fresh hT
  have ne : ∀ b o, s.heap.get? b = some o → b ≠ T := fun b o e => Nat.ne_of_lt (Nat.lt_of_lt_of_le (Heap.lt_size e) hT)
  refine I.step (g' := s.gens) (d' := s.drawn) (ch := ch) (fun b hb => ?_) (fun b o _ _ hc e _ => k b o hc e) (fun b o _ _ hc e _ => ⟨o.slots, k b o hc e⟩) (fun b o _ e n => by rw [upd_ne (ne b o e)]; exact n)
    (fun b o hc e => ⟨o, k b o hc e⟩) (fun b xs e => by rw [upd_ne (ne_of_none e hn)]; exact e) (fun b o u e => by rw [upd_ne (ne_of_none e hn)]; exact e) (fun b ps e => ⟨#[], by rw [upd_ne (ne_of_none e hn), e]; simp⟩) (fun m hm => ?_) (fun b u e => ?_) I.bare
  · obtain ⟨f0, f1, f2, f3, f4, f5⟩ := hf b hb
    exact ⟨f3, f1, f4, f5⟩
  · obtain ⟨o, es, ep, ho, r⟩ := hm
    exact ⟨o, es, ep, k _ o (fun z => (hf _ z).2.1 rfl) ho, r⟩
  · by_cases hb : b = T
    · subst hb; rw [upd_same] at e; cases e; exact new
    · rw [upd_ne hb] at e
      refine (I.hok b u e).stay (fun c v hc q => k c v ?_ q) (fun c q => by rw [upd_ne (ne_of_none q hn)]; exact q) fun c xs q => by rw [upd_ne (ne_of_none q hn)]; exact q
      rcases hc with z | z
      · rw [z]; exact nit b u e
      · exact nit c _ z
end

/-! ### enumerate(list) -/
def Ite (K : PySem.W.Frag) (a : Addr) : It :=
  ⟨fun i H => ∃ xs x, SqL K H a xs ∧ xs[i]? = some x, fun i H x H' => ∃ p v, x = .ref p ∧ H p = none ∧ H' = upd H p (.tup [.int (i : Nat), v]) ∧ ∀ xs, SqL K H a xs → xs[i]? = some v, fun i H => ∃ xs, SqL K H a xs ∧ xs.length ≤ i⟩
theorem two_le : 2 ≤ sizeLine := by rw [sizeLine_eq]; decide
theorem turn_enum {P : Program} {w : World} {K : PySem.W.Frag} {elts : List Expr} {k : Nat} {pos : Pos} (a e it : Addr) (hne : e ≠ it) :
    Turn P w K (.Tuple elts k pos) (Ite K a) [e, it] e (fun i h => (∃ old, IsEnum h e it i old) ∧ h.IsListIter it a i) where
  mem := by simp
  obj := fun i h st b hb => by
    obtain ⟨⟨old, he⟩, o, e2, c, d⟩ := st
    rcases List.mem_cons.mp hb with rfl | hb
    · exact ⟨_, he, fun v z => by cases z⟩
    · rw [List.mem_singleton.mp hb]
      exact ⟨o, e2, fun v z => by rw [d] at z; cases z⟩
  keep := fun i h h' st kk => ⟨let ⟨old, he⟩ := st.1; ⟨old, kk e (by simp) _ he⟩, st.2.at fun o q => kk it (by simp) o q⟩
  item := by
    intro X hP hw hK hc i pins s σ H E I hf st hg
    subst hP hw hK
    obtain ⟨xs, x, hq, hx⟩ := hg
    obtain ⟨its, rv, p, hz⟩ := I.list hq
    obtain ⟨u, hu, ru⟩ := rv.get hx
    obtain ⟨⟨old, he⟩, hit⟩ := st
    refine wpAny_pyNext_enum_item he hit p.isList (x := u) (by simpa using hu) hne fun h1 ho hit1 hT hsz hk => ?_
    refine ⟨_, rfl, wpAny_letOwnedTupleGo_enum ho fun h2 he2 hs2 => ?_⟩
    have hlt : e < s.heap.objs.size := Heap.lt_size he
    replace hs2 : Heap.SameBut e h1 h2 := hs2
    have hT2 : h2.get? s.heap.objs.size = some { cls := .type "tuple", data := .seq #[.int i s.toks, u] } := (hs2.2 _ (Nat.ne_of_gt hlt)).trans hT
    have hn : H s.heap.objs.size = none := I.hok.fresh (Nat.le_refl _)
    have I2 : Inv X pins σ (upd H s.heap.objs.size (.tup [.int (i : Nat), x])) { s with heap := h2, toks := s.toks + 1 } :=
      I.turnLay (ch := [e, it]) hf (fun b o hb q => (hs2.2 b (fun z => hb (by simp [z]))).trans (hk b o (fun z => hb (by simp [z])) (fun z => hb (by simp [z])) q)) (Nat.le_refl _)
        ⟨two_le, [.int i s.toks, u], .cons ⟨_, rfl⟩ (.cons ru .nil), ⟨_, hT2, rfl, _, rfl⟩⟩
    have hit2 : h2.IsListIter it a (i + 1) := hit1.at fun o q => (hs2.2 it (Ne.symm hne)).trans q
    have f1 : ∀ b ∈ [e, it], (upd H s.heap.objs.size (.tup [.int (i : Nat), x])) b = none := fun b hb => by
      have hlb : b < s.heap.objs.size := by
        rcases List.mem_cons.mp hb with rfl | hb
        · exact hlt
        · rw [List.mem_singleton.mp hb]
          obtain ⟨o, q, _⟩ := hit
          exact Heap.lt_size q
      rw [upd_ne (Nat.ne_of_lt hlb)]
      exact (hf b hb).1
    exact ⟨.ref s.heap.objs.size, _, I2, rfl, ⟨_, x, rfl, hn, rfl, fun ys hy => by rw [I.list_inj hy hq]; exact hx⟩, ⟨⟨u, by simpa using he2⟩, hit2⟩, f1⟩
  done := by
    intro X hP hw hK hc i pins s σ H E I hf st hg
    subst hP hw hK
    obtain ⟨xs, hq, hx⟩ := hg
    obtain ⟨its, rv, p, hz⟩ := I.list hq
    obtain ⟨⟨old, he⟩, hit⟩ := st
    have hl := rv.length
    exact wpAny_pyNext_enum_end (I.ok.hd hc) he hit p.isList (by simp; omega) fun h' eb => ⟨rfl, I.turns (t' := s.toks) (ch := [e, it]) hf fun b o hb q => eb b o (fun z => hb (by simp [z])) q⟩
  self := fun _ _ _ _ _ st h => by
    obtain ⟨⟨old, he⟩, _⟩ := st
    exact wpAny_pyIter_enum he h
def iEnum (K : PySem.W.Frag) (ta : TA) : TI := fun σ H R => ta σ H fun vs H1 => ∃ a, vs = [.ref a] ∧ (∃ xs, SqL K H1 a xs) ∧ R (Ite K a) H1
section
variable {X : Cx}
theorem pi_enum {elts : List Expr} {k : Nat} {tpos : Pos} {a : Expr} {ta : TA} {p pos : Pos} (hg : Gl X "enumerate") (hm : X.mg "enumerate" = none) (ha : PA X [a] ta) (hs : starEach [a] X.env = [(false, eval a X.env)] := by rfl) :
    PI X (.Tuple elts k tpos) (.Call (.Name "enumerate" p) [a] [] pos) (iEnum X.K ta) := by
  intro pins s σ H R I h
  refine Call_ (ld_blt I hg hm boot_enumerate (PyProof.Rows.callWith_type1 (thn (ha pos pins s σ H _ I h) fun us s1 ⟨vs, H1, I1, r1, q1⟩ => ?_) hs rfl))
  obtain ⟨l, e, ⟨xs, hq⟩, q⟩ := q1
  subst e
  obtain ⟨u, rfl, ru⟩ := vals1 r1
  cases ru
  obtain ⟨its, rv, pl, hz⟩ := I1.list hq
  refine call_enumerate_list pl.isList fun h' he hit hsz hk => wpAny_pyIter_enum he ?_
  have I2 : Inv X pins σ H1 { s1 with heap := h' } := I1.kept (t' := s1.toks) hk
  refine ⟨_, [s1.heap.objs.size + 1, s1.heap.objs.size], _, _, H1, rfl, I2, turn_enum l _ _ (Nat.succ_ne_self _), ⟨⟨.none, he⟩, hit⟩, fun b hb => ?_, q⟩
  have hb' : s1.heap.objs.size ≤ b := by
    rcases List.mem_cons.mp hb with rfl | hb
    · exact Nat.le_succ _
    · rw [List.mem_singleton.mp hb]
      exact Nat.le_refl _
  exact I1.fpOk hb' (I1.hok.fresh hb')
end
/-- for i, x in enumerate(list), the list staying as it is -/
theorem for_enum {K : PySem.W.Frag} {a : Addr} {xs : List V} {g : TG} {tb : TS} {D : Ends} {σ : St} {H : Hp} (Pv : Nat → St → Hp → Prop) (h0 : Pv 0 σ H) (hl : ∀ i σ H, i ≤ xs.length → Pv i σ H → SqL K H a xs)
    (hs : ∀ i x σ H p, xs[i]? = some x → Pv i σ H → H p = none → g (.ref p) σ (upd H p (.tup [.int (i : Nat), x])) fun σ2 H2 => tb { D with nx := Pv (i + 1), ct := Pv (i + 1), bk := D.nx } σ2 H2) (hd : ∀ σ H, Pv xs.length σ H → D.nx σ H) :
    ∃ W : Nat → Nat → St → Hp → Prop, (∃ m, W 0 m σ H) ∧ ∀ i m σ H, W i m σ H →
      ((Ite K a).stop i H ∧ D.nx σ H) ∨ ((Ite K a).go i H ∧ ∃ N : St → Hp → Prop, (∀ σ' H', N σ' H' → ∃ m', m' < m ∧ W (i + 1) m' σ' H') ∧ ∀ x H', (Ite K a).yld i H x H' → g x σ H' fun σ2 H2 => tb { D with nx := N, ct := N, bk := D.nx } σ2 H2) := by
  refine ⟨fun i m σ H => m = xs.length - i ∧ i ≤ xs.length ∧ Pv i σ H, ⟨xs.length, by simp, Nat.zero_le _, h0⟩, ?_⟩
  rintro i m σ H ⟨rfl, hi, p⟩
  have q := hl i σ H hi p
  by_cases hlt : i < xs.length
  · refine .inr ⟨⟨xs, xs[i], q, by simp [hlt]⟩, Pv (i + 1), fun σ' H' p' => ⟨xs.length - (i + 1), by omega, rfl, hlt, p'⟩, fun x H' y => ?_⟩
    obtain ⟨a1, v, e1, e2, e3, y⟩ := y
    subst e1 e3
    exact hs i v σ H a1 (y xs q) p e2
  · have e : i = xs.length := by omega
    subst e
    exact .inl ⟨⟨xs, q, Nat.le_refl _⟩, hd σ H p⟩
end L2


set_option Elab.async false
set_option linter.all false
set_option maxRecDepth 100000
namespace L2
open PySem PySem.Spec PyProof.Rows
/-! ### zip(list, list) -/
def Itz (K : PySem.W.Frag) (a b : Addr) : It :=
  ⟨fun i H => ∃ xs ys x y, SqL K H a xs ∧ SqL K H b ys ∧ xs[i]? = some x ∧ ys[i]? = some y,
   fun i H x H' => ∃ p v u, x = .ref p ∧ H p = none ∧ H' = upd H p (.tup [v, u]) ∧ (∀ xs, SqL K H a xs → xs[i]? = some v) ∧ ∀ ys, SqL K H b ys → ys[i]? = some u,
   fun i H => ∃ xs ys, SqL K H a xs ∧ SqL K H b ys ∧ (xs.length ≤ i ∨ ys.length ≤ i)⟩
theorem turn_zip {P : Program} {w : World} {K : PySem.W.Frag} {elts : List Expr} {k : Nat} {pos : Pos} (a b z TI TO i1 i2 : Addr)
    (n1 : TI ≠ z) (n2 : TO ≠ z) (n3 : i1 ≠ z) (n4 : i2 ≠ z) (n5 : TI ≠ TO) (n6 : TI ≠ i1) (n7 : TI ≠ i2) (n8 : TO ≠ i1) (n9 : TO ≠ i2) (n10 : i1 ≠ i2) :
    Turn P w K (.Tuple elts k pos) (Itz K a b) [z, TI, TO, i1, i2] z (fun i h => IsZip h z TI TO .none ∧ IsPair h TI (.ref i1) (.ref i2) ∧ (∃ a b, IsPair h TO a b) ∧ h.IsListIter i1 a i ∧ h.IsListIter i2 b i) where
  mem := by simp
  obj := fun i h st c hc => by
    obtain ⟨hz, hTI, ⟨u, v, hTO⟩, ⟨o1, e1, c1, d1⟩, ⟨o2, e2, c2, d2⟩⟩ := st
    simp only [List.mem_cons, List.not_mem_nil, or_false] at hc
    rcases hc with rfl | rfl | rfl | rfl | rfl
    · exact ⟨_, hz, fun v z => by cases z⟩
    · exact ⟨_, hTI, fun v z => by cases z⟩
    · exact ⟨_, hTO, fun v z => by cases z⟩
    · exact ⟨o1, e1, fun v z => by rw [d1] at z; cases z⟩
    · exact ⟨o2, e2, fun v z => by rw [d2] at z; cases z⟩
  keep := fun i h h' st kk => by
    obtain ⟨hz, hTI, ⟨u, v, hTO⟩, h1, h2⟩ := st
    exact ⟨kk z (by simp) _ hz, kk TI (by simp) _ hTI, ⟨u, v, kk TO (by simp) _ hTO⟩, h1.at fun o q => kk i1 (by simp) o q, h2.at fun o q => kk i2 (by simp) o q⟩
  item := by
    intro X hP hw hK hc i pins s σ H E I hf st hg
    subst hP hw hK
    obtain ⟨xs, ys, x, y, hq, hq2, hx, hy⟩ := hg
    obtain ⟨its, rv, p, hz'⟩ := I.list hq
    obtain ⟨its2, rv2, p2, hz2⟩ := I.list hq2
    obtain ⟨u, hu, ru⟩ := rv.get hx
    obtain ⟨u2, hu2, ru2⟩ := rv2.get hy
    obtain ⟨hz, hTI, ⟨c, d, hTO⟩, h1, h2⟩ := id st
    have trk : ∀ {l : Addr} {zs : List V}, SqL X.K H l zs → ∀ c ∈ [z, TI, TO, i1, i2], l ≠ c := fun {l zs} hl c hcm e => by
      subst e
      obtain ⟨jts, _, ⟨o, n, eo, co, _, dd⟩, _⟩ := I.list hl
      simp only [List.mem_cons, List.not_mem_nil, or_false] at hcm
      rcases hcm with rfl | rfl | rfl | rfl | rfl
      · rw [hz] at eo; cases eo; exact absurd co (by show ¬ (Value.type "zip" = Value.type "list"); decide)
      · rw [hTI] at eo; cases eo; exact absurd co (by show ¬ (Value.type "tuple" = Value.type "list"); decide)
      · rw [hTO] at eo; cases eo; exact absurd co (by show ¬ (Value.type "tuple" = Value.type "list"); decide)
      · obtain ⟨o1, e1, c1, _⟩ := h1; rw [e1] at eo; cases eo; rw [c1] at co; exact absurd co (by decide)
      · obtain ⟨o1, e1, c1, _⟩ := h2; rw [e1] at eo; cases eo; rw [c1] at co; exact absurd co (by decide)
    have D : ZipApart z TI TO i1 i2 a b := by
      constructor <;> first | assumption | (apply Ne.symm; assumption) | exact trk hq _ (by simp) | exact trk hq2 _ (by simp) | exact (trk hq _ (by simp)).symm | exact (trk hq2 _ (by simp)).symm
    refine wpAny_pyNext_zip_item D hz hTI hTO h1 h2 p.isList p2.isList (x := u) (y := u2) (by simpa using hu) (by simpa using hu2) fun h' a1 a2 a3 a4 a5 a6 hk => ?_
    refine ⟨_, rfl, wpAny_letOwnedTupleGo_zip a1 fun h3 hz3 hs3 => ?_⟩
    replace hs3 : Heap.SameBut z h' h3 := hs3
    have hlt : z < s.heap.objs.size := Heap.lt_size hz
    have hT2 : h3.get? s.heap.objs.size = some { cls := .type "tuple", data := .seq #[u, u2] } := (hs3.2 _ (Nat.ne_of_gt hlt)).trans a5
    have hn : H s.heap.objs.size = none := I.hok.fresh (Nat.le_refl _)
    have I2 : Inv X pins σ (upd H s.heap.objs.size (.tup [x, y])) { s with heap := h3, toks := s.toks } :=
      I.turnLay (ch := [z, TI, TO, i1, i2]) hf (fun b o hb q => (hs3.2 b (fun e => hb (by simp [e]))).trans (hk b o (fun e => hb (by simp [e])) (fun e => hb (by simp [e])) (fun e => hb (by simp [e])) (fun e => hb (by simp [e])) q)) (Nat.le_refl _)
        ⟨two_le, [u, u2], .cons ru (.cons ru2 .nil), ⟨_, hT2, rfl, _, rfl⟩⟩
    have f1 : ∀ b ∈ [z, TI, TO, i1, i2], (upd H s.heap.objs.size (.tup [x, y])) b = none := fun b hb => by
      have hne : b ≠ s.heap.objs.size := by
        rintro rfl
        obtain ⟨hz, hTI, ⟨c, d, hTO⟩, ⟨o1, e1, _⟩, ⟨o2, e2, _⟩⟩ := st
        simp only [List.mem_cons, List.not_mem_nil, or_false] at hb
        rcases hb with e | e | e | e | e
        · rw [← e] at hz; exact absurd (Heap.lt_size hz) (Nat.lt_irrefl _)
        · rw [← e] at hTI; exact absurd (Heap.lt_size hTI) (Nat.lt_irrefl _)
        · rw [← e] at hTO; exact absurd (Heap.lt_size hTO) (Nat.lt_irrefl _)
        · rw [← e] at e1; exact absurd (Heap.lt_size e1) (Nat.lt_irrefl _)
        · rw [← e] at e2; exact absurd (Heap.lt_size e2) (Nat.lt_irrefl _)
      rw [upd_ne hne]
      exact (hf b hb).1
    refine ⟨.ref s.heap.objs.size, _, I2, rfl, ⟨_, x, y, rfl, hn, rfl, fun zs hy' => by rw [I.list_inj hy' hq]; exact hx, fun zs hy' => by rw [I.list_inj hy' hq2]; exact hy⟩, ⟨hz3, ?_, ⟨u, u2, ?_⟩, ?_, ?_⟩, f1⟩
    · exact (hs3.2 _ n1).trans (hk _ _ n1 n5 n6 n7 hTI)
    · exact (hs3.2 _ n2).trans a2
    · exact a3.at fun o q => (hs3.2 _ n3).trans q
    · exact a4.at fun o q => (hs3.2 _ n4).trans q
  done := by
    intro X hP hw hK hc i pins s σ H E I hf st hg
    subst hP hw hK
    obtain ⟨xs, ys, hq, hq2, hx⟩ := hg
    obtain ⟨its, rv, p, hz'⟩ := I.list hq
    obtain ⟨its2, rv2, p2, hz2⟩ := I.list hq2
    have l1 := rv.length
    have l2 := rv2.length
    obtain ⟨hz, hTI, ⟨c, d, hTO⟩, h1, h2⟩ := id st
    have trk : ∀ {l : Addr} {zs : List V}, SqL X.K H l zs → ∀ c ∈ [z, TI, TO, i1, i2], l ≠ c := fun {l zs} hl c hcm e => by
      subst e
      obtain ⟨jts, _, ⟨o, n, eo, co, _, dd⟩, _⟩ := I.list hl
      simp only [List.mem_cons, List.not_mem_nil, or_false] at hcm
      rcases hcm with rfl | rfl | rfl | rfl | rfl
      · rw [hz] at eo; cases eo; exact absurd co (by show ¬ (Value.type "zip" = Value.type "list"); decide)
      · rw [hTI] at eo; cases eo; exact absurd co (by show ¬ (Value.type "tuple" = Value.type "list"); decide)
      · rw [hTO] at eo; cases eo; exact absurd co (by show ¬ (Value.type "tuple" = Value.type "list"); decide)
      · obtain ⟨o1, e1, c1, _⟩ := h1; rw [e1] at eo; cases eo; rw [c1] at co; exact absurd co (by decide)
      · obtain ⟨o1, e1, c1, _⟩ := h2; rw [e1] at eo; cases eo; rw [c1] at co; exact absurd co (by decide)
    have D : ZipApart z TI TO i1 i2 a b := by
      constructor <;> first | assumption | (apply Ne.symm; assumption) | exact trk hq _ (by simp) | exact trk hq2 _ (by simp) | exact (trk hq _ (by simp)).symm | exact (trk hq2 _ (by simp)).symm
    exact wpAny_pyNext_zip_end (I.ok.hd hc) D hz hTI hTO h1 h2 p.isList p2.isList (by rcases hx with q | q; exact .inl (by simp; omega); exact .inr (by simp; omega)) fun h' hk =>
      ⟨rfl, I.turns (t' := s.toks) (ch := [z, TI, TO, i1, i2]) hf fun b o hb q => hk b o (fun e => hb (by simp [e])) (fun e => hb (by simp [e])) (fun e => hb (by simp [e])) (fun e => hb (by simp [e])) q⟩
  self := fun _ _ _ _ _ st h => wpAny_pyIter_zip st.1 h
theorem nz {n i j : Nat} (h : i ≠ j) : n + i ≠ n + j := fun e => h (Nat.add_left_cancel e)
def iZip (K : PySem.W.Frag) (ta : TA) : TI := fun σ H R => ta σ H fun vs H1 => ∃ a b, vs = [.ref a, .ref b] ∧ (∃ xs, SqL K H1 a xs) ∧ (∃ ys, SqL K H1 b ys) ∧ R (Itz K a b) H1
section
variable {X : Cx}
theorem pi_zip {elts : List Expr} {k : Nat} {tpos : Pos} {a b : Expr} {ta : TA} {p pos : Pos} (hg : Gl X "zip") (hm : X.mg "zip" = none) (ha : PA X [a, b] ta) (hs : starEach [a, b] X.env = [(false, eval a X.env), (false, eval b X.env)] := by rfl) (hs2 : starEach [b] X.env = [(false, eval b X.env)] := by rfl) :
    PI X (.Tuple elts k tpos) (.Call (.Name "zip" p) [a, b] [] pos) (iZip X.K ta) := by
  intro pins s σ H R I h
  refine Call_ (ld_blt I hg hm boot_zip (PyProof.Rows.callWith_type1 (thn (ha pos pins s σ H _ I h) fun us s1 ⟨vs, H1, I1, r1, q1⟩ => ?_) (by rw [hs, hs2]) (by rw [hs2]; rfl)))
  obtain ⟨l, l2, e, ⟨xs, hq⟩, ⟨ys, hq2⟩, q⟩ := q1
  subst e
  obtain ⟨u, u2, rfl, ru, ru2⟩ := vals2 r1
  cases ru
  cases ru2
  obtain ⟨its, rv, pl, hz⟩ := I1.list hq
  obtain ⟨its2, rv2, pl2, hz2⟩ := I1.list hq2
  refine call_zip_2 pl.isList pl2.isList fun h' a1 a2 a3 a4 a5 a6 hk => wpAny_pyIter_zip a1 ?_
  have I2 : Inv X pins σ H1 { s1 with heap := h' } := I1.kept (t' := s1.toks) hk
  refine ⟨_, [s1.heap.objs.size + 4, s1.heap.objs.size + 2, s1.heap.objs.size + 3, s1.heap.objs.size, s1.heap.objs.size + 1], _, _, H1, rfl, I2,
    turn_zip l l2 _ _ _ _ _ (nz (by decide)) (nz (by decide)) (nz (i := 0) (by decide)) (nz (by decide)) (nz (by decide)) (nz (j := 0) (by decide)) (nz (by decide)) (nz (j := 0) (by decide)) (nz (by decide)) (nz (i := 0) (by decide)), ⟨a1, a2, ⟨_, _, a3⟩, a4, a5⟩, fun b hb => ?_, q⟩
  have hb' : s1.heap.objs.size ≤ b := by
    simp only [List.mem_cons, List.not_mem_nil, or_false] at hb
    rcases hb with rfl | rfl | rfl | rfl | rfl
    · exact Nat.le_add_right _ _
    · exact Nat.le_add_right _ _
    · exact Nat.le_add_right _ _
    · exact Nat.le_refl _
    · exact Nat.le_add_right _ _
  exact I1.fpOk hb' (I1.hok.fresh hb')
end
theorem comp_zip {K : PySem.W.Frag} {g : TG} {tc : TT} {te : TE} {D : Addr} {σ0 : St} {H0 : Hp} {Z : Hp → Prop} {a b : Addr} {xs ys : List V} (Pv : Nat → St → Hp → Prop) (hlen : xs.length = ys.length) (h0 : Pv 0 σ0 (upd H0 D (.lst [])))
    (hl : ∀ i σ H, i ≤ xs.length → Pv i σ H → SqL K H a xs ∧ SqL K H b ys)
    (hs : ∀ i x y σ H p, xs[i]? = some x → ys[i]? = some y → Pv i σ H → H p = none → g (.ref p) σ (upd H p (.tup [x, y])) fun σ2 H2 => tc σ2 H2 fun b H3 =>
      if b = true then te σ2 H3 fun v H4 => ∃ zs, H4 D = some (.lst zs) ∧ zs.length < sizeLine ∧ Pv (i + 1) σ2 (upd H4 D (.lst (zs ++ [v]))) else Pv (i + 1) σ2 H3)
    (hd : ∀ σ H, Pv xs.length σ H → Z H) : CompTurns (Itz K a b) g tc te D σ0 H0 Z := by
  refine ⟨fun i m σ H => m = xs.length - i ∧ i ≤ xs.length ∧ Pv i σ H, ⟨xs.length, by simp, Nat.zero_le _, h0⟩, ?_⟩
  rintro i m σ H ⟨rfl, hi, p⟩
  obtain ⟨q, q2⟩ := hl i σ H hi p
  by_cases hlt : i < xs.length
  · refine .inr ⟨⟨xs, ys, xs[i], ys[i]'(by omega), q, q2, by simp [hlt], List.getElem?_eq_getElem (by omega)⟩, Pv (i + 1), fun σ' H' p' => ⟨xs.length - (i + 1), by omega, rfl, hlt, p'⟩, fun x H' y => ?_⟩
    obtain ⟨a1, v, u, e1, e2, e3, y1, y2⟩ := y
    subst e1 e3
    exact hs i v u σ H a1 (y1 xs q) (y2 ys q2) p e2
  · have e : i = xs.length := by omega
    subst e
    exact .inl ⟨⟨xs, ys, q, q2, .inl (Nat.le_refl _)⟩, hd σ H p⟩
end L2


set_option Elab.async false
set_option linter.all false
set_option maxRecDepth 100000
namespace L2
open PySem PySem.Spec PyProof.Rows
/-! ### isinstance against built-in classes -/
/-- the built-in types that are told apart -/
def tyNames : List String := ["int", "bool", "str", "NoneType", "list", "tuple", "dict"]
def clNames : List String := ["int", "bool", "str", "list", "tuple", "dict"]
def subT (t c : String) : Bool := t == c || (t == "bool" && c == "int")
theorem kit_tab {K : PySem.W.Frag} {t c : String} (ht : t ∈ tyNames) (hc : c ∈ clNames) : PySem.W.kitOne K (.type t) (.type c) = some (subT t c) := by
  simp only [tyNames, clNames, List.mem_cons, List.not_mem_nil, or_false] at ht hc
  rcases ht with rfl | rfl | rfl | rfl | rfl | rfl | rfl <;> rcases hc with rfl | rfl | rfl | rfl | rfl | rfl <;> first | rfl | decide | (with_unfolding_all rfl)
theorem kit_any {K : PySem.W.Frag} {t : String} (ht : t ∈ tyNames) : ∀ {cs : List String}, (∀ c ∈ cs, c ∈ clNames) → PySem.W.kitAny K (.type t) (cs.map Value.type) = some (cs.any (subT t))
  | [], _ => rfl
  | c :: r, h => by
    show (match PySem.W.kitOne K (.type t) (.type c) with | some true => some true | some false => PySem.W.kitAny K (.type t) (r.map Value.type) | none => none) = _
    rw [kit_tab ht (h c List.mem_cons_self), List.any_cons]
    cases e : subT t c with
    | true => rfl
    | false =>
      rw [Bool.false_or]
      exact kit_any ht fun d hd => h d (List.mem_cons_of_mem _ hd)
/-- the type's name of a value -/
inductive TyN (K : PySem.W.Frag) (H : Hp) : V → String → Prop where
  | non : TyN K H .non "NoneType"
  | bl (x : Bool) : TyN K H (.bl x) "bool"
  | int (i : Int) : TyN K H (.int i) "int"
  | str (x : Str) : TyN K H (.str x) "str"
  | lst {a : Addr} {xs : List V} (e : SqL K H a xs) : TyN K H (.ref a) "list"
  | tup {a : Addr} {xs : List V} (e : SqT K H a xs) : TyN K H (.ref a) "tuple"
  | dK {a : Addr} {kvs : List (Key × V)} (e : H a = some (.dK kvs)) : TyN K H (.ref a) "dict"
theorem TyN.mem {K : PySem.W.Frag} {H : Hp} {x : V} {t : String} (h : TyN K H x t) : t ∈ tyNames := by cases h <;> simp [tyNames]
section
variable {X : Cx}
theorem vals_ty : ∀ {cs : List String} {us : List Value}, Vals (cs.map V.ty) us → us = cs.map Value.type
  | [], _, h => by cases h; rfl
  | c :: r, _, h => by
    cases h with
    | cons a t =>
      cases (show _ = Value.type c from a)
      rw [vals_ty t]; rfl
/-- isinstance(x, C) -/
theorem call_isi : CallR X (.builtin "isinstance") (fun xs H Q => ∃ (x : V) (t : String) (c : String), xs = [x, .ty c] ∧ TyN X.K H x t ∧ clNames.contains c = true ∧ Q (.bl (subT t c)) H) := by
  intro pins s σ H xs us Q I r h
  obtain ⟨x, t, c, rfl, ty, hc, q⟩ := h
  obtain ⟨u, w', rfl, rx, rc⟩ := vals2 r
  cases (show w' = Value.type c from rc)
  have e := kit_tab (K := X.K) ty.mem (by simpa using hc : c ∈ clNames)
  have fin : ∀ tk, EP X pins σ Q (.bool (subT t c)) { s with toks := tk } := fun tk => ⟨.bl _, H, I.tok _, rfl, q⟩
  cases ty with
  | non => cases (show u = Value.none from rx); exact PySem.W.kia_one PySem.W.kitx_none I.kIn True.intro e (fun z => nomatch z) fin
  | bl y => cases (show u = Value.bool y from rx); exact PySem.W.kia_one PySem.W.kitx_bool I.kIn True.intro e (fun z => nomatch z) fin
  | int i => obtain ⟨t, q⟩ := (show ∃ t, u = Value.int i t from rx); cases q; exact PySem.W.kia_one PySem.W.kitx_int I.kIn True.intro e (fun z => nomatch z) fin
  | str y => obtain ⟨t, q⟩ := (show ∃ t, u = Value.str y t from rx); cases q; exact PySem.W.kia_one PySem.W.kitx_str I.kIn True.intro e (fun z => nomatch z) fin
  | @lst a xs ea =>
    cases (show u = Value.ref a from rx)
    obtain ⟨its, _, ⟨o, n, h1, h2, _⟩, _⟩ := I.list ea
    exact PySem.W.kia_one PySem.W.kitx_list I.kIn ⟨o, h1, h2⟩ e (fun z => nomatch z) fin
  | @tup a xs ea =>
    cases (show u = Value.ref a from rx)
    obtain ⟨its, _, ⟨o, h1, h2, _⟩, _⟩ := I.tuple ea
    exact PySem.W.kia_one PySem.W.kitx_tuple I.kIn ⟨o, h1, h2⟩ e (fun z => nomatch z) fin
  | @dK a kvs ea =>
    cases (show u = Value.ref a from rx)
    obtain ⟨_, _, vs, _, p⟩ := (show ObjOk X.prog X.w H s.heap a (.dK kvs) from I.hok a _ ea)
    obtain ⟨o, es, ep, h1, h2, _⟩ := p
    exact PySem.W.kia_one PySem.W.kitx_dict I.kIn ⟨o, h1, h2.1⟩ e (fun z => nomatch z) fin
/-- isinstance(x, (C, D, ..)) -/
theorem call_isiT : CallR X (.builtin "isinstance") (fun xs H Q => ∃ (x : V) (t : String) (p : Addr) (cs : List String), xs = [x, .ref p] ∧ SqT X.K H p (cs.map V.ty) ∧ TyN X.K H x t ∧ cs.all clNames.contains = true ∧ Q (.bl (cs.any (subT t))) H) := by
  intro pins s σ H xs us Q I r h
  obtain ⟨x, t, p, cs, rfl, hp, ty, hc, q⟩ := h
  obtain ⟨u, w', rfl, rx, rc⟩ := vals2 r
  cases (show w' = Value.ref p from rc)
  obtain ⟨its, rv, ⟨⟨oc, od, odt, osl⟩, e1, e2, n, e3⟩, _⟩ := I.tuple hp
  cases vals_ty rv
  have e2' : oc = .type "tuple" := e2
  have e3' : odt = .seq (cs.map Value.type).toArray n := e3
  subst e2' e3'
  have e := kit_any (K := X.K) ty.mem (cs := cs) fun c hcm => by simpa using (List.all_eq_true.mp hc c hcm)
  have fin : ∀ tk, EP X pins σ Q (.bool (cs.any (subT t))) { s with toks := tk } := fun tk => ⟨.bl _, H, I.tok _, rfl, q⟩
  cases ty with
  | non => cases (show u = Value.none from rx); exact PySem.W.kia_tup PySem.W.kitx_none I.kIn True.intro e1 e (fun z => nomatch z) fin
  | bl y => cases (show u = Value.bool y from rx); exact PySem.W.kia_tup PySem.W.kitx_bool I.kIn True.intro e1 e (fun z => nomatch z) fin
  | int i => obtain ⟨t, q⟩ := (show ∃ t, u = Value.int i t from rx); cases q; exact PySem.W.kia_tup PySem.W.kitx_int I.kIn True.intro e1 e (fun z => nomatch z) fin
  | str y => obtain ⟨t, q⟩ := (show ∃ t, u = Value.str y t from rx); cases q; exact PySem.W.kia_tup PySem.W.kitx_str I.kIn True.intro e1 e (fun z => nomatch z) fin
  | @lst a xs ea =>
    cases (show u = Value.ref a from rx)
    obtain ⟨its, _, ⟨o, n, h1, h2, _⟩, _⟩ := I.list ea
    exact PySem.W.kia_tup PySem.W.kitx_list I.kIn ⟨o, h1, h2⟩ e1 e (fun z => nomatch z) fin
  | @tup a xs ea =>
    cases (show u = Value.ref a from rx)
    obtain ⟨its, _, ⟨o, h1, h2, _⟩, _⟩ := I.tuple ea
    exact PySem.W.kia_tup PySem.W.kitx_tuple I.kIn ⟨o, h1, h2⟩ e1 e (fun z => nomatch z) fin
  | @dK a kvs ea =>
    cases (show u = Value.ref a from rx)
    obtain ⟨_, _, vs, _, p⟩ := (show ObjOk X.prog X.w H s.heap a (.dK kvs) from I.hok a _ ea)
    obtain ⟨o, es, ep, h1, h2, _⟩ := p
    exact PySem.W.kia_tup PySem.W.kitx_dict I.kIn ⟨o, h1, h2.1⟩ e1 e (fun z => nomatch z) fin
end
end L2


set_option Elab.async false
set_option linter.all false
set_option maxRecDepth 100000
namespace Tim
open PySem PyProof.Rows
/-- a pair of a sort of ints: the key is the item -/
def Good (p : Keyed) : Prop := ∃ n t, p.1 = .int n t ∧ p.2 = p.1
structure WG (n : Nat) (pe : Array (Nat × Nat × Nat)) (st : SortSt) : Prop where
  size : (arrOf st).size = n
  good : ∀ p ∈ (arrOf st).toList, Good p
  kind : kindOf st = oneType'
  failed : failedOf st = none
  pend : pendingOf st = pe
theorem WG.setArr {n pe st} (h : WG n pe st) {xs : Array Keyed} (hp : xs.Perm (arrOf st)) : WG n pe (setArr st xs) :=
  ⟨hp.size_eq.trans h.size, fun p hm => h.good p ((Array.perm_iff_toList_perm.mp hp).mem_iff.mp hm), h.kind, h.failed, h.pend⟩
section
variable {prog : Program} {w : World} {A : Around} {E : Value → Shared → Prop} {s : Shared} {n : Nat} {pe : Array (Nat × Nat × Nat)} {st : SortSt}
theorem wpS_lt {x y : Keyed} {Q : Option Bool → SortSt → Prop} (hk : kindOf st = oneType') (hx : Good x) (hy : Good y) (h : ∀ b, Q (some b) st) : wpS (model prog w) A E s (lt' x y) Q st := by
  obtain ⟨a, t, e1, _⟩ := hx
  obtain ⟨b, u, e2, _⟩ := hy
  rw [lt'_eq]
  refine wpS_bind (wpS_get ?_)
  rw [hk, keyLt'_oneType, e1, e2]
  refine wpS_bind (wpS_lift (wpAny_attempt (oneLt_int ⟨rfl, ?_⟩)))
  exact wpS_pure (h _)
theorem wpS_elem {arr : Array Keyed} {i : Nat} {Q : Keyed → SortSt → Prop} (hi : i < arr.size) (h : ∀ p, p ∈ arr.toList → Q p st) : wpS (model prog w) A E s (elem' arr i) Q st := by
  rw [elem'_eq, Array.getElem?_eq_getElem hi]
  exact wpS_pure (h _ (by simp))
theorem wpS_ltAny {i j : Nat} {Q : Option Bool → SortSt → Prop} (hW : WG n pe st) (hi : i < n) (hj : j < n) (h : ∀ b, Q (some b) st) : wpS (model prog w) A E s (ltAt' i j) Q st := by
  rw [ltAt'_eq]
  refine wpS_bind (wpS_get ?_)
  show wpS _ _ _ _ (do let x ← elem' (arrOf st) i; let y ← elem' (arrOf st) j; lt' x y) Q st
  refine wpS_bind (wpS_elem (by rw [hW.size]; exact hi) fun p hp => wpS_bind (wpS_elem (by rw [hW.size]; exact hj) fun q hq => ?_))
  exact wpS_lt hW.kind (hW.good p hp) (hW.good q hq) h
theorem wpS_rev {i j : Nat} {Q : Unit → SortSt → Prop} (hW : WG n pe st) (h : ∀ st', WG n pe st' → Q () st') : wpS (model prog w) A E s (reverseSlice' i j) Q st := by
  rw [reverseSlice'_eq]; exact wpS_modify (h _ (hW.setArr (mirror_perm _ _ _ _)))
theorem wpS_move {i j : Nat} {Q : Unit → SortSt → Prop} (hW : WG n pe st) (h : ∀ st', WG n pe st' → Q () st') : wpS (model prog w) A E s (moveDown' i j) Q st := by
  rw [moveDown'_eq]; exact wpS_modify (h _ (hW.setArr (bubble_perm _ _ _)))
/-- binary insertion -/
theorem wpS_bin {lo m ok : Nat} {Q : Bool → SortSt → Prop} (hW : WG n pe st) (hm : lo + m ≤ n) (h : ∀ st', WG n pe st' → Q true st') : wpS (model prog w) A E s (binarySort' lo m ok) Q st := by
  rw [binarySort'_eq]
  refine wpS_bind (wpS_mono (wpS_forRange (I := fun k c st' => c = (none, ()) ∧ WG n pe st') (Q := fun c st' => c = (none, ()) ∧ WG n pe st') ?step (fun _ _ z => z) ⟨rfl, hW⟩) ?post)
  case post =>
    rintro c st' ⟨rfl, hW'⟩
    exact wpS_pure (h st' hW')
  case step =>
    rintro k c st' hak hkn ⟨rfl, hW'⟩
    refine wpS_bind (wpS_mono (wpS_forRange (I := fun x c st'' => st'' = st' ∧ ∃ l r, c = (none, l, r) ∧ r ≤ k) (Q := fun c st'' => st'' = st' ∧ ∃ l r, c = (none, l, r)) ?istep ?ifin ⟨rfl, 0, k, rfl, Nat.le_refl _⟩) ?ipost)
    case ifin =>
      rintro c st'' ⟨rfl, l, r, rfl, _⟩
      exact ⟨rfl, l, r, rfl⟩
    case istep =>
      rintro x c st'' _ hxk ⟨rfl, l, r, rfl, hr⟩
      dsimp only
      by_cases hge : l ≥ r
      · rw [if_pos hge]
        exact wpS_pure ⟨rfl, l, r, rfl⟩
      · rw [if_neg hge]
        refine wpS_bind (wpS_ltAny hW' (by omega) (by omega) fun b => ?_)
        cases b with
        | true => exact wpS_pure ⟨rfl, l, (l + r) / 2, rfl, by omega⟩
        | false => exact wpS_pure ⟨rfl, (l + r) / 2 + 1, r, rfl, hr⟩
    case ipost =>
      rintro c st'' ⟨rfl, l, r, rfl⟩
      show wpS _ _ _ _ (do moveDown' (lo + k) (lo + l); pure (ForInStep.yield (none, ()))) _ _
      exact wpS_bind (wpS_move hW' fun st3 hW3 => wpS_pure ⟨rfl, hW3⟩)
/-- the part of countRun behind the rise -/
def descPart (lo n0 nrem : Nat) : StateT SortSt Sem (Option Nat) := do
  rule "list.sort.descending-run"
  let mut n := n0
  n := n + 1
  let mut neq := 0
  for _ in [n:nrem] do
    let some smaller ← ltAt' (lo + n) (lo + n - 1) | return none
    if smaller then
      if neq > 0 then reverseSlice' (lo + n - (neq + 1)) (lo + n)
      neq := 0
    else
      let some larger ← ltAt' (lo + n - 1) (lo + n) | return none
      if larger then break
      neq := neq + 1
    n := n + 1
  if neq > 0 then reverseSlice' (lo + n - (neq + 1)) (lo + n)
  reverseSlice' lo (lo + n)
  for _ in [n:nrem] do
    let some smaller ← ltAt' (lo + n) (lo + n - 1) | return none
    if smaller then break
    n := n + 1
  return some n
theorem wpS_tail {lo m nrem : Nat} {Q : Option Nat → SortSt → Prop} (hW : WG n pe st) (hn : lo + nrem ≤ n) (h1 : 1 ≤ m) (hm : m ≤ nrem) (h : ∀ k st', WG n pe st' → 1 ≤ k → k ≤ nrem → Q (some k) st') :
    wpS (model prog w) A E s (do
      reverseSlice' lo (lo + m)
      let mut n := m
      for _ in [n:nrem] do
        let some smaller ← ltAt' (lo + n) (lo + n - 1) | return none
        if smaller then break
        n := n + 1
      return some n) Q st := by
  refine wpS_bind (wpS_rev hW fun st1 hW1 => ?_)
  refine wpS_bind (wpS_mono (wpS_forRange (I := fun x c st' => c = (none, x) ∧ WG n pe st') (Q := fun c st' => ∃ k, c = (none, k) ∧ WG n pe st' ∧ 1 ≤ k ∧ k ≤ nrem) ?step ?fin ⟨rfl, hW1⟩) ?post)
  case fin =>
    rintro c st' ⟨rfl, hW'⟩
    exact ⟨_, rfl, hW', by omega, by omega⟩
  case post =>
    rintro c st' ⟨k, rfl, hW', a, b⟩
    exact wpS_pure (h k st' hW' a b)
  case step =>
    rintro x c st' hax hxn ⟨rfl, hW'⟩
    dsimp only
    refine wpS_bind (wpS_ltAny hW' (by omega) (by omega) fun b => ?_)
    cases b with
    | true => exact wpS_pure ⟨x, rfl, hW', by omega, by omega⟩
    | false => exact wpS_pure ⟨rfl, hW'⟩
theorem wpS_desc {lo m nrem : Nat} {Q : Option Nat → SortSt → Prop} (hW : WG n pe st) (hn : lo + nrem ≤ n) (hm : m + 1 ≤ nrem) (h : ∀ k st', WG n pe st' → 1 ≤ k → k ≤ nrem → Q (some k) st') :
    wpS (model prog w) A E s (descPart lo m nrem) Q st := by
  unfold descPart
  refine wpS_bind (wpS_lift (wpAny_rule ⟨rfl, ?_⟩))
  refine wpS_bind (wpS_mono (wpS_forRange (I := fun x c st' => ∃ q, c = (none, x, q) ∧ WG n pe st') (Q := fun c st' => ∃ k q, c = (none, k, q) ∧ WG n pe st' ∧ 1 ≤ k ∧ k ≤ nrem) ?step ?fin ⟨0, rfl, hW⟩) ?post)
  case fin =>
    rintro c st' ⟨q, rfl, hW'⟩
    exact ⟨_, q, rfl, hW', by omega, by omega⟩
  case post =>
    rintro c st' ⟨k, q, rfl, hW', a, b⟩
    dsimp only
    by_cases hq : q > 0
    · rw [if_pos hq]
      exact wpS_bind (wpS_rev hW' fun st2 hW2 => wpS_tail hW2 hn a b h)
    · rw [if_neg hq]
      exact wpS_tail hW' hn a b h
  case step =>
    rintro x c st' hax hxn ⟨q, rfl, hW'⟩
    dsimp only
    refine wpS_bind (wpS_ltAny hW' (by omega) (by omega) fun b => ?_)
    cases b with
    | true =>
      dsimp only
      rw [if_pos rfl]
      by_cases hq : q > 0
      · rw [if_pos hq]
        exact wpS_bind (wpS_rev hW' fun st2 hW2 => wpS_pure ⟨0, rfl, hW2⟩)
      · rw [if_neg hq]
        exact wpS_pure ⟨0, rfl, hW'⟩
    | false =>
      dsimp only
      rw [if_neg Bool.false_ne_true]
      refine wpS_bind (wpS_ltAny hW' (by omega) (by omega) fun b => ?_)
      cases b with
      | true => exact wpS_pure ⟨x, q, rfl, hW', by omega, by omega⟩
      | false => exact wpS_pure ⟨q + 1, rfl, hW'⟩
theorem wpS_count {lo nrem : Nat} {Q : Option Nat → SortSt → Prop} (hW : WG n pe st) (hn : lo + nrem ≤ n) (h1 : 1 ≤ nrem) (h : ∀ k st', WG n pe st' → 1 ≤ k → k ≤ nrem → Q (some k) st') :
    wpS (model prog w) A E s (countRun' lo nrem) Q st := by
  rw [countRun'_eq]
  refine wpS_bind (wpS_mono (wpS_forRange (I := fun x c st' => c = (none, x) ∧ WG n pe st') (Q := fun c st' => ∃ k, c = (none, k) ∧ WG n pe st' ∧ 1 ≤ k ∧ k ≤ nrem) ?step ?fin ⟨rfl, hW⟩) ?post)
  case fin =>
    rintro c st' ⟨rfl, hW'⟩
    exact ⟨_, rfl, hW', by omega, by omega⟩
  case step =>
    rintro x c st' hax hxn ⟨rfl, hW'⟩
    dsimp only
    refine wpS_bind (wpS_ltAny hW' (by omega) (by omega) fun b => ?_)
    cases b with
    | true => exact wpS_pure ⟨x, rfl, hW', by omega, by omega⟩
    | false => exact wpS_pure ⟨rfl, hW'⟩
  case post =>
    rintro c st' ⟨k, rfl, hW', a, b⟩
    dsimp only
    by_cases hk : k = nrem
    · rw [if_pos (by simpa using hk)]
      exact wpS_pure (h k st' hW' a b)
    · rw [if_neg (by simpa using hk)]
      by_cases hgt : k > 1
      · rw [if_pos hgt]
        refine wpS_bind (wpS_ltAny hW' (by omega) (by omega) fun b => ?_)
        cases b with
        | true => exact wpS_pure (h k st' hW' a (by omega))
        | false =>
          dsimp only
          rw [if_neg Bool.false_ne_true]
          exact wpS_bind (wpS_rev hW' fun st2 hW2 => wpS_desc hW2 hn (by omega) h)
      · rw [if_neg hgt]
        exact wpS_desc hW' hn (by omega) h
end
end Tim


set_option Elab.async false
set_option linter.all false
set_option maxRecDepth 100000
namespace Tim
open PySem PyProof.Rows
def gallop' : Bool → Keyed → Array Keyed → Nat → Nat → Nat → StateT SortSt Sem (Option Nat) := sortPriv% PySem.Builtin.gallop
def beyond (left : Bool) (key : Keyed) (arr : Array Keyed) (base i : Nat) : StateT SortSt Sem (Option Bool) := do
  let x ← elem' arr (base + i)
  if left then lt' x key else return (← lt' key x).map (!·)
theorem gallop'_eq (left : Bool) (key : Keyed) (arr : Array Keyed) (base n hint : Nat) : gallop' left key arr base n hint = (do
  let mut lastofs := 0
  let mut ofs := 1
  let mut lo := 0
  let mut hi := 0
  let some right ← beyond left key arr base hint | return none
  if right then
    let maxofs := n - hint
    for _ in [0:n] do
      if ofs ≥ maxofs then break
      let some more ← beyond left key arr base (hint + ofs) | return none
      if !more then break
      lastofs := ofs
      ofs := 2 * ofs + 1
    lo := hint + lastofs + 1
    hi := hint + min ofs maxofs
  else
    let maxofs := hint + 1
    for _ in [0:n] do
      if ofs ≥ maxofs then break
      let some found ← beyond left key arr base (hint - ofs) | return none
      if found then break
      lastofs := ofs
      ofs := 2 * ofs + 1
    lo := hint + 1 - min ofs maxofs
    hi := hint - lastofs
  for _ in [0:n] do
    if lo ≥ hi then break
    let m := lo + (hi - lo) / 2
    let some more ← beyond left key arr base m | return none
    if more then lo := m + 1 else hi := m
  return some hi) := rfl
section
variable {prog : Program} {w : World} {A : Around} {E : Value → Shared → Prop} {s : Shared} {st : SortSt}
theorem wpS_beyond {left : Bool} {key : Keyed} {arr : Array Keyed} {base i : Nat} {Q : Option Bool → SortSt → Prop} (hk : kindOf st = oneType') (hkey : Good key) (harr : ∀ p ∈ arr.toList, Good p) (hi : base + i < arr.size) (h : ∀ b, Q (some b) st) :
    wpS (model prog w) A E s (beyond left key arr base i) Q st := by
  unfold beyond
  refine wpS_bind (wpS_elem hi fun p hp => ?_)
  cases left with
  | true => exact wpS_lt hk (harr p hp) hkey h
  | false => exact wpS_bind (wpS_lt hk hkey (harr p hp) fun b => wpS_pure (h (!b)))
theorem wpS_gallop {left : Bool} {key : Keyed} {arr : Array Keyed} {base m hint : Nat} {Q : Option Nat → SortSt → Prop} (hk : kindOf st = oneType') (hkey : Good key) (harr : ∀ p ∈ arr.toList, Good p) (hb : base + m ≤ arr.size) (hh : hint < m)
    (h : ∀ k, k ≤ m → Q (some k) st) : wpS (model prog w) A E s (gallop' left key arr base m hint) Q st := by
  have last : ∀ lo hi, hi ≤ m → wpS (model prog w) A E s (do
      let mut lo := lo
      let mut hi := hi
      for _ in [0:m] do
        if lo ≥ hi then break
        let mm := lo + (hi - lo) / 2
        let some more ← beyond left key arr base mm | return none
        if more then lo := mm + 1 else hi := mm
      return some hi) Q st := by
    intro lo hi hhi
    refine wpS_bind (wpS_mono (wpS_forRange (I := fun x c st' => st' = st ∧ ∃ l r, c = (none, l, r) ∧ r ≤ m) (Q := fun c st' => st' = st ∧ ∃ l r, c = (none, l, r) ∧ r ≤ m) ?step (fun _ _ z => z) ⟨rfl, lo, hi, rfl, hhi⟩) ?post)
    case post =>
      rintro c st' ⟨rfl, l, r, rfl, hr⟩
      exact wpS_pure (h r hr)
    case step =>
      rintro x c st' _ hx ⟨rfl, l, r, rfl, hr⟩
      dsimp only
      by_cases hge : l ≥ r
      · rw [if_pos hge]
        exact wpS_pure ⟨rfl, l, r, rfl, hr⟩
      · rw [if_neg hge]
        refine wpS_bind (wpS_beyond hk hkey harr (by omega) fun b => ?_)
        cases b with
        | true => exact wpS_pure ⟨rfl, _, r, rfl, hr⟩
        | false => exact wpS_pure ⟨rfl, l, _, rfl, by omega⟩
  rw [gallop'_eq]
  refine wpS_bind (wpS_beyond hk hkey harr (by omega) fun b => ?_)
  cases b with
  | true =>
    dsimp only
    rw [if_pos rfl]
    refine wpS_bind (wpS_mono (wpS_forRange (I := fun x c st' => st' = st ∧ ∃ l o, c = (none, l, o)) (Q := fun c st' => st' = st ∧ ∃ l o, c = (none, l, o)) ?step (fun _ _ z => z) ⟨rfl, 0, 1, rfl⟩) ?post)
    case post =>
      rintro c st' ⟨rfl, l, o, rfl⟩
      exact last _ _ (by omega)
    case step =>
      rintro x c st' _ hx ⟨rfl, l, o, rfl⟩
      dsimp only
      by_cases hge : o ≥ m - hint
      · rw [if_pos hge]
        exact wpS_pure ⟨rfl, l, o, rfl⟩
      · rw [if_neg hge]
        refine wpS_bind (wpS_beyond hk hkey harr (by omega) fun b => ?_)
        cases b with
        | true => exact wpS_pure ⟨rfl, _, _, rfl⟩
        | false => exact wpS_pure ⟨rfl, l, o, rfl⟩
  | false =>
    dsimp only
    rw [if_neg Bool.false_ne_true]
    refine wpS_bind (wpS_mono (wpS_forRange (I := fun x c st' => st' = st ∧ ∃ l o, c = (none, l, o)) (Q := fun c st' => st' = st ∧ ∃ l o, c = (none, l, o)) ?step2 (fun _ _ z => z) ⟨rfl, 0, 1, rfl⟩) ?post2)
    case post2 =>
      rintro c st' ⟨rfl, l, o, rfl⟩
      exact last _ _ (by omega)
    case step2 =>
      rintro x c st' _ hx ⟨rfl, l, o, rfl⟩
      dsimp only
      by_cases hge : o ≥ hint + 1
      · rw [if_pos hge]
        exact wpS_pure ⟨rfl, l, o, rfl⟩
      · rw [if_neg hge]
        refine wpS_bind (wpS_beyond hk hkey harr (by omega) fun b => ?_)
        cases b with
        | true => exact wpS_pure ⟨rfl, l, o, rfl⟩
        | false => exact wpS_pure ⟨rfl, _, _, rfl⟩
end
end Tim


set_option Elab.async false
set_option linter.all false
set_option maxRecDepth 100000
namespace Tim
open PySem PyProof.Rows
def mergeLo' : Array Keyed → Array Keyed → StateT SortSt Sem (Array Keyed) := sortPriv% PySem.Builtin.mergeLo
def setMinGallop' : Nat → StateT SortSt Sem Unit := sortPriv% PySem.Builtin.setMinGallop
theorem setMinGallop'_eq (g : Nat) : setMinGallop' g = modify (fun s => SortSt.mk' (kindOf s) (arrOf s) (pendingOf s) g (failedOf s)) := rfl
theorem mergeLo'_eq (a b : Array Keyed) : mergeLo' a b = (do
  rule "list.sort.merge-lo"
  let total := a.size + b.size
  let done (out : Array Keyed) (ia ib : Nat) := out ++ a.extract ia a.size ++ b.extract ib b.size
  let lastOfA (out : Array Keyed) (ia ib : Nat) := out ++ b.extract ib b.size ++ a.extract ia a.size
  let mut out : Array Keyed := #[← elem' b 0]
  let mut ia := 0
  let mut ib := 1
  if ib == b.size then return done out ia ib
  if ia + 1 == a.size then return lastOfA out ia ib
  let mut minGallop := gallopOf (← get)
  for _ in [0:total] do
    let mut acount := 0
    let mut bcount := 0
    for _ in [0:total] do
      let some bWins ← lt' (← elem' b ib) (← elem' a ia) | return done out ia ib
      if bWins then
        out := out.push (← elem' b ib); ib := ib + 1; bcount := bcount + 1; acount := 0
        if ib == b.size then return done out ia ib
        if bcount ≥ minGallop then break
      else
        out := out.push (← elem' a ia); ia := ia + 1; acount := acount + 1; bcount := 0
        if ia + 1 == a.size then return lastOfA out ia ib
        if acount ≥ minGallop then break
    rule "list.sort.gallop"
    minGallop := minGallop + 1
    for _ in [0:total] do
      if minGallop > 1 then minGallop := minGallop - 1
      setMinGallop' minGallop
      let some k ← gallop' false (← elem' b ib) a ia (a.size - ia) 0 | return done out ia ib
      acount := k
      if k > 0 then
        out := out ++ a.extract ia (ia + k); ia := ia + k
        if ia + 1 == a.size then return lastOfA out ia ib
        if ia == a.size then return done out ia ib
      out := out.push (← elem' b ib); ib := ib + 1
      if ib == b.size then return done out ia ib
      let some k ← gallop' true (← elem' a ia) b ib (b.size - ib) 0 | return done out ia ib
      bcount := k
      if k > 0 then
        out := out ++ b.extract ib (ib + k); ib := ib + k
        if ib == b.size then return done out ia ib
      out := out.push (← elem' a ia); ia := ia + 1
      if ia + 1 == a.size then return lastOfA out ia ib
      if acount < 7 && bcount < 7 then break
    minGallop := minGallop + 1
    setMinGallop' minGallop
  unsupported "internal:list.sort.merge-bound") := rfl
def AllGood (xs : Array Keyed) : Prop := ∀ p ∈ xs.toList, Good p
theorem AllGood.append {x y : Array Keyed} (hx : AllGood x) (hy : AllGood y) : AllGood (x ++ y) := fun p hp => by
  rw [Array.toList_append] at hp
  exact (List.mem_append.mp hp).elim (hx p) (hy p)
theorem AllGood.push {x : Array Keyed} {q : Keyed} (hx : AllGood x) (hq : Good q) : AllGood (x.push q) := fun p hp => by
  rw [Array.toList_push] at hp
  rcases List.mem_append.mp hp with z | z
  · exact hx p z
  · rw [List.mem_singleton.mp z]; exact hq
theorem AllGood.extract {x : Array Keyed} (hx : AllGood x) (i j : Nat) : AllGood (x.extract i j) := fun p hp => by
  apply hx p
  have hp' : p ∈ x.extract i j := Array.mem_toList_iff.mp hp
  obtain ⟨k, hk, e⟩ := Array.mem_iff_getElem.mp hp'
  rw [Array.getElem_extract] at e
  rw [← e]
  simp
theorem AllGood.reverse {x : Array Keyed} (hx : AllGood x) : AllGood x.reverse := fun p hp => hx p (by simpa using hp)
theorem AllGood.one {q : Keyed} (hq : Good q) : AllGood #[q] := fun p hp => by
  have : p = q := by simpa using hp
  rw [this]; exact hq
section
variable {prog : Program} {w : World} {A : Around} {E : Value → Shared → Prop} {s : Shared} {n : Nat} {pe : Array (Nat × Nat × Nat)} {st : SortSt}
theorem wpS_setG {g : Nat} {Q : Unit → SortSt → Prop} (hW : WG n pe st) (h : ∀ st', WG n pe st' → Q () st') : wpS (model prog w) A E s (setMinGallop' g) Q st := by
  rw [setMinGallop'_eq]
  exact wpS_modify (h _ ⟨hW.size, hW.good, hW.kind, hW.failed, hW.pend⟩)
theorem wpS_ite {α : Type} {c : Prop} [Decidable c] {x y : StateT SortSt Sem α} {Q : α → SortSt → Prop} (h1 : c → wpS (model prog w) A E s x Q st) (h2 : ¬ c → wpS (model prog w) A E s y Q st) : wpS (model prog w) A E s (if c then x else y) Q st := by
  by_cases hc : c
  · rw [if_pos hc]; exact h1 hc
  · rw [if_neg hc]; exact h2 hc
set_option maxHeartbeats 8000000 in
theorem wpS_mergeLo {a b : Array Keyed} {Q : Array Keyed → SortSt → Prop} (hW : WG n pe st) (ha : AllGood a) (hb : AllGood b) (h1 : 1 ≤ a.size) (h2 : 1 ≤ b.size)
    (h : ∀ r st', WG n pe st' → AllGood r → Q r st') : wpS (model prog w) A E s (mergeLo' a b) Q st := by
  rw [mergeLo'_eq]
  refine wpS_bind (wpS_lift (wpAny_rule ⟨rfl, ?_⟩))
  refine wpS_bind (wpS_elem (by omega) fun q0 hq0 => ?_)
  have dn : ∀ (out : Array Keyed) (i j : Nat), AllGood out → AllGood (out ++ a.extract i a.size ++ b.extract j b.size) := fun out i j ho => (ho.append (ha.extract _ _)).append (hb.extract _ _)
  have la : ∀ (out : Array Keyed) (i j : Nat), AllGood out → AllGood (out ++ b.extract j b.size ++ a.extract i a.size) := fun out i j ho => (ho.append (hb.extract _ _)).append (ha.extract _ _)
  have g0 : AllGood #[q0] := .one (hb _ hq0)
  dsimp only
  by_cases e1 : 1 = b.size
  · rw [if_pos (by simpa using e1)]
    exact wpS_pure (h _ _ hW (dn _ _ _ g0))
  rw [if_neg (by simpa using e1)]
  by_cases e2 : 0 + 1 = a.size
  · rw [if_pos (by simpa using e2)]
    exact wpS_pure (h _ _ hW (la _ _ _ g0))
  rw [if_neg (by simpa using e2)]
  refine wpS_bind (wpS_get ?_)
  refine wpS_bind (wpS_mono (wpS_forRange (I := fun x c st' => ∃ out ia ib mg, c = (none, out, ia, ib, mg) ∧ WG n pe st' ∧ AllGood out ∧ ia + 2 ≤ a.size ∧ ib + 1 ≤ b.size ∧ 1 + x ≤ ia + ib)
    (Q := fun c st' => ∃ r y, c = (some r, y) ∧ WG n pe st' ∧ AllGood r) ?step ?fin ⟨_, _, _, _, rfl, hW, g0, by omega, by omega, by omega⟩) ?post)
  case post =>
    rintro c st' ⟨r, y, rfl, hW', hr⟩
    exact wpS_pure (h r st' hW' hr)
  case fin =>
    rintro c st' ⟨out, ia, ib, mg, rfl, hW', ho, i1, i2, i3⟩
    omega
  case step =>
    rintro x c st1 _ hx ⟨out, ia, ib, mg, rfl, hW1, ho, i1, i2, i3⟩
    dsimp only
    refine wpS_bind (wpS_mono (wpS_forRange (I := fun y c st' => ∃ out ia ib ac bc, c = (none, out, ia, ib, ac, bc) ∧ WG n pe st' ∧ AllGood out ∧ ia + 2 ≤ a.size ∧ ib + 1 ≤ b.size ∧ 1 + x ≤ ia + ib)
      (Q := fun c st' => (∃ r y, c = (some r, y) ∧ WG n pe st' ∧ AllGood r) ∨ (∃ out ia ib ac bc, c = (none, out, ia, ib, ac, bc) ∧ WG n pe st' ∧ AllGood out ∧ ia + 2 ≤ a.size ∧ ib + 1 ≤ b.size ∧ 1 + x ≤ ia + ib)) ?istep ?ifin ⟨_, _, _, _, _, rfl, hW1, ho, i1, i2, i3⟩) ?ipost)
    case ifin => exact fun c st' z => .inr z
    case istep =>
      rintro y c st2 _ hy ⟨out, ia, ib, ac, bc, rfl, hW2, ho, i1, i2, i3⟩
      dsimp only
      refine wpS_bind (wpS_elem (by omega) fun p hp => wpS_bind (wpS_elem (by omega) fun q hq => wpS_bind (wpS_lt hW2.kind (hb _ hp) (ha _ hq) fun bw => ?_)))
      cases bw with
      | true =>
        dsimp only
        rw [if_pos rfl]
        refine wpS_bind (wpS_elem (by omega) fun p hp => ?_)
        have go : AllGood (out.push p) := ho.push (hb _ hp)
        by_cases e3 : ib + 1 = b.size
        · rw [if_pos (by simpa using e3)]
          exact wpS_pure (.inl ⟨_, _, rfl, hW2, dn _ _ _ go⟩)
        rw [if_neg (by simpa using e3)]
        by_cases e4 : bc + 1 ≥ mg
        · rw [if_pos e4]
          exact wpS_pure (.inr ⟨_, _, _, _, _, rfl, hW2, go, by omega, by omega, by omega⟩)
        · rw [if_neg e4]
          exact wpS_pure ⟨_, _, _, _, _, rfl, hW2, go, by omega, by omega, by omega⟩
      | false =>
        dsimp only
        rw [if_neg Bool.false_ne_true]
        refine wpS_bind (wpS_elem (by omega) fun p hp => ?_)
        have go : AllGood (out.push p) := ho.push (ha _ hp)
        by_cases e3 : ia + 1 + 1 = a.size
        · rw [if_pos (by simpa using e3)]
          exact wpS_pure (.inl ⟨_, _, rfl, hW2, la _ _ _ go⟩)
        rw [if_neg (by simpa using e3)]
        by_cases e4 : ac + 1 ≥ mg
        · rw [if_pos e4]
          exact wpS_pure (.inr ⟨_, _, _, _, _, rfl, hW2, go, by omega, by omega, by omega⟩)
        · rw [if_neg e4]
          exact wpS_pure ⟨_, _, _, _, _, rfl, hW2, go, by omega, by omega, by omega⟩
    case ipost =>
      rintro c st2 (⟨r, y, rfl, hW2, hr⟩ | ⟨out, ia, ib, ac, bc, rfl, hW2, ho, i1, i2, i3⟩)
      · exact wpS_pure ⟨_, _, rfl, hW2, hr⟩
      dsimp only
      refine wpS_bind (wpS_lift (wpAny_rule ⟨rfl, ?_⟩))
      refine wpS_bind (wpS_mono (wpS_forRange (I := fun y c st' => ∃ out ia ib mg ac bc, c = (none, out, ia, ib, mg, ac, bc) ∧ WG n pe st' ∧ AllGood out ∧ ia + 2 ≤ a.size ∧ ib + 1 ≤ b.size ∧ 1 + x + y ≤ ia + ib)
        (Q := fun c st' => (∃ r y, c = (some r, y) ∧ WG n pe st' ∧ AllGood r) ∨ (∃ out ia ib mg ac bc, c = (none, out, ia, ib, mg, ac, bc) ∧ WG n pe st' ∧ AllGood out ∧ ia + 2 ≤ a.size ∧ ib + 1 ≤ b.size ∧ 1 + (x + 1) ≤ ia + ib)) ?jstep ?jfin ⟨_, _, _, _, _, _, rfl, hW2, ho, i1, i2, i3⟩) ?jpost)
      case jfin =>
        rintro c st' ⟨out, ia, ib, mg, ac, bc, rfl, q1, q2, q3, q4, q5⟩
        exact .inr ⟨_, _, _, _, _, _, rfl, q1, q2, q3, q4, by omega⟩
      case jpost =>
        rintro c st3 (⟨r, y, rfl, hW3, hr⟩ | ⟨out, ia, ib, mg, ac, bc, rfl, hW3, ho, i1, i2, i3⟩)
        · exact wpS_pure ⟨_, _, rfl, hW3, hr⟩
        dsimp only
        exact wpS_bind (wpS_setG hW3 fun st4 hW4 => wpS_pure ⟨_, _, _, _, rfl, hW4, ho, i1, i2, by omega⟩)
      case jstep =>
        rintro y c st3 _ hy ⟨out, ia, ib, mg, ac, bc, rfl, hW3, ho, i1, i2, i3⟩
        dsimp only
        refine wpS_ite (fun ec => ?_) (fun ec => ?_)
        all_goals
          refine wpS_bind (wpS_setG hW3 fun st4 hW4 => ?_)
          refine wpS_bind (wpS_elem (by omega) fun p hp => ?_)
          refine wpS_bind (wpS_gallop hW4.kind (hb p hp) ha (by omega) (by omega) fun k hk => ?_)
          dsimp only
          refine wpS_ite (fun ek => ?_) (fun ek => ?_)
          · have ho1 := ho.append (ha.extract ia (ia + k))
            refine wpS_ite (fun e1 => wpS_pure (.inl ⟨_, _, rfl, hW4, la _ _ _ ho1⟩)) (fun e1 => ?_)
            refine wpS_ite (fun e0 => wpS_pure (.inl ⟨_, _, rfl, hW4, dn _ _ _ ho1⟩)) (fun e0 => ?_)
            simp only [beq_iff_eq] at e1 e0
            refine wpS_bind (wpS_elem (by omega) fun p2 hp2 => ?_)
            have ho2 := ho1.push (hb p2 hp2)
            refine wpS_ite (fun e2 => wpS_pure (.inl ⟨_, _, rfl, hW4, dn _ _ _ ho2⟩)) (fun e2 => ?_)
            simp only [beq_iff_eq] at e2
            refine wpS_bind (wpS_elem (by omega) fun p3 hp3 => ?_)
            refine wpS_bind (wpS_gallop hW4.kind (ha p3 hp3) hb (by omega) (by omega) fun k2 hk2 => ?_)
            dsimp only
            refine wpS_ite (fun ek2 => ?_) (fun ek2 => ?_)
            · have ho3 := ho2.append (hb.extract (ib + 1) (ib + 1 + k2))
              refine wpS_ite (fun e3 => wpS_pure (.inl ⟨_, _, rfl, hW4, dn _ _ _ ho3⟩)) (fun e3 => ?_)
              simp only [beq_iff_eq] at e3
              refine wpS_bind (wpS_elem (by omega) fun p4 hp4 => ?_)
              have ho4 := ho3.push (ha p4 hp4)
              refine wpS_ite (fun e5 => wpS_pure (.inl ⟨_, _, rfl, hW4, la _ _ _ ho4⟩)) (fun e5 => ?_)
              simp only [beq_iff_eq] at e5
              exact wpS_ite (fun e6 => wpS_pure (.inr ⟨_, _, _, _, _, _, rfl, hW4, ho4, by omega, by omega, by omega⟩)) (fun e6 => wpS_pure ⟨_, _, _, _, _, _, rfl, hW4, ho4, by omega, by omega, by omega⟩)
            · refine wpS_bind (wpS_elem (by omega) fun p4 hp4 => ?_)
              have ho4 := ho2.push (ha p4 hp4)
              refine wpS_ite (fun e5 => wpS_pure (.inl ⟨_, _, rfl, hW4, la _ _ _ ho4⟩)) (fun e5 => ?_)
              simp only [beq_iff_eq] at e5
              exact wpS_ite (fun e6 => wpS_pure (.inr ⟨_, _, _, _, _, _, rfl, hW4, ho4, by omega, by omega, by omega⟩)) (fun e6 => wpS_pure ⟨_, _, _, _, _, _, rfl, hW4, ho4, by omega, by omega, by omega⟩)
          · refine wpS_bind (wpS_elem (by omega) fun p2 hp2 => ?_)
            have ho2 := ho.push (hb p2 hp2)
            refine wpS_ite (fun e2 => wpS_pure (.inl ⟨_, _, rfl, hW4, dn _ _ _ ho2⟩)) (fun e2 => ?_)
            simp only [beq_iff_eq] at e2
            refine wpS_bind (wpS_elem (by omega) fun p3 hp3 => ?_)
            refine wpS_bind (wpS_gallop hW4.kind (ha p3 hp3) hb (by omega) (by omega) fun k2 hk2 => ?_)
            dsimp only
            refine wpS_ite (fun ek2 => ?_) (fun ek2 => ?_)
            · have ho3 := ho2.append (hb.extract (ib + 1) (ib + 1 + k2))
              refine wpS_ite (fun e3 => wpS_pure (.inl ⟨_, _, rfl, hW4, dn _ _ _ ho3⟩)) (fun e3 => ?_)
              simp only [beq_iff_eq] at e3
              refine wpS_bind (wpS_elem (by omega) fun p4 hp4 => ?_)
              have ho4 := ho3.push (ha p4 hp4)
              refine wpS_ite (fun e5 => wpS_pure (.inl ⟨_, _, rfl, hW4, la _ _ _ ho4⟩)) (fun e5 => ?_)
              simp only [beq_iff_eq] at e5
              exact wpS_ite (fun e6 => wpS_pure (.inr ⟨_, _, _, _, _, _, rfl, hW4, ho4, by omega, by omega, by omega⟩)) (fun e6 => wpS_pure ⟨_, _, _, _, _, _, rfl, hW4, ho4, by omega, by omega, by omega⟩)
            · refine wpS_bind (wpS_elem (by omega) fun p4 hp4 => ?_)
              have ho4 := ho2.push (ha p4 hp4)
              refine wpS_ite (fun e5 => wpS_pure (.inl ⟨_, _, rfl, hW4, la _ _ _ ho4⟩)) (fun e5 => ?_)
              simp only [beq_iff_eq] at e5
              exact wpS_ite (fun e6 => wpS_pure (.inr ⟨_, _, _, _, _, _, rfl, hW4, ho4, by omega, by omega, by omega⟩)) (fun e6 => wpS_pure ⟨_, _, _, _, _, _, rfl, hW4, ho4, by omega, by omega, by omega⟩)
end
end Tim


set_option Elab.async false
set_option linter.all false
set_option maxRecDepth 100000
namespace Tim
open PySem PyProof.Rows
def mergeHi' : Array Keyed → Array Keyed → StateT SortSt Sem (Array Keyed) := sortPriv% PySem.Builtin.mergeHi
theorem mergeHi'_eq (a b : Array Keyed) : mergeHi' a b = (do
  rule "list.sort.merge-hi"
  let total := a.size + b.size
  let done (out : Array Keyed) (na nb : Nat) := a.extract 0 na ++ b.extract 0 nb ++ out.reverse
  let firstOfB (out : Array Keyed) (na nb : Nat) := b.extract 0 nb ++ a.extract 0 na ++ out.reverse
  let mut na := a.size - 1
  let mut nb := b.size
  let mut out : Array Keyed := #[← elem' a na]
  if na == 0 then return done out na nb
  if nb == 1 then return firstOfB out na nb
  let mut minGallop := gallopOf (← get)
  for _ in [0:total] do
    let mut acount := 0
    let mut bcount := 0
    for _ in [0:total] do
      let some aWins ← lt' (← elem' b (nb - 1)) (← elem' a (na - 1)) | return done out na nb
      if aWins then
        na := na - 1; out := out.push (← elem' a na); acount := acount + 1; bcount := 0
        if na == 0 then return done out na nb
        if acount ≥ minGallop then break
      else
        nb := nb - 1; out := out.push (← elem' b nb); bcount := bcount + 1; acount := 0
        if nb == 1 then return firstOfB out na nb
        if bcount ≥ minGallop then break
    rule "list.sort.gallop"
    minGallop := minGallop + 1
    for _ in [0:total] do
      if minGallop > 1 then minGallop := minGallop - 1
      setMinGallop' minGallop
      let some at_ ← gallop' false (← elem' b (nb - 1)) a 0 na (na - 1) | return done out na nb
      let k := na - at_
      acount := k
      if k > 0 then
        out := out ++ (a.extract at_ na).reverse; na := at_
        if na == 0 then return done out na nb
      nb := nb - 1; out := out.push (← elem' b nb)
      if nb == 1 then return firstOfB out na nb
      let some at_ ← gallop' true (← elem' a (na - 1)) b 0 nb (nb - 1) | return done out na nb
      let k := nb - at_
      bcount := k
      if k > 0 then
        out := out ++ (b.extract at_ nb).reverse; nb := at_
        if nb == 1 then return firstOfB out na nb
        if nb == 0 then return done out na nb
      na := na - 1; out := out.push (← elem' a na)
      if na == 0 then return done out na nb
      if acount < 7 && bcount < 7 then break
    minGallop := minGallop + 1
    setMinGallop' minGallop
  unsupported "internal:list.sort.merge-bound") := rfl
section
variable {prog : Program} {w : World} {A : Around} {E : Value → Shared → Prop} {s : Shared} {n : Nat} {pe : Array (Nat × Nat × Nat)} {st : SortSt}
set_option maxHeartbeats 8000000 in
theorem wpS_mergeHi {a b : Array Keyed} {Q : Array Keyed → SortSt → Prop} (hW : WG n pe st) (ha : AllGood a) (hb : AllGood b) (h1 : 1 ≤ a.size) (h2 : 1 ≤ b.size)
    (h : ∀ r st', WG n pe st' → AllGood r → Q r st') : wpS (model prog w) A E s (mergeHi' a b) Q st := by
  rw [mergeHi'_eq]
  refine wpS_bind (wpS_lift (wpAny_rule ⟨rfl, ?_⟩))
  dsimp only
  refine wpS_bind (wpS_elem (by omega) fun q0 hq0 => ?_)
  have dn : ∀ (out : Array Keyed) (i j : Nat), AllGood out → AllGood (a.extract 0 i ++ b.extract 0 j ++ out.reverse) := fun out i j ho => ((ha.extract _ _).append (hb.extract _ _)).append ho.reverse
  have la : ∀ (out : Array Keyed) (i j : Nat), AllGood out → AllGood (b.extract 0 j ++ a.extract 0 i ++ out.reverse) := fun out i j ho => ((hb.extract _ _).append (ha.extract _ _)).append ho.reverse
  have g0 : AllGood #[q0] := .one (ha _ hq0)
  by_cases e1 : a.size - 1 = 0
  · rw [if_pos (by simpa using e1)]
    exact wpS_pure (h _ _ hW (dn _ _ _ g0))
  rw [if_neg (by simpa using e1)]
  by_cases e2 : b.size = 1
  · rw [if_pos (by simpa using e2)]
    exact wpS_pure (h _ _ hW (la _ _ _ g0))
  rw [if_neg (by simpa using e2)]
  refine wpS_bind (wpS_get ?_)
  refine wpS_bind (wpS_mono (wpS_forRange (I := fun x c st' => ∃ na nb out mg, c = (none, na, nb, out, mg) ∧ WG n pe st' ∧ AllGood out ∧ 1 ≤ na ∧ na ≤ a.size ∧ 2 ≤ nb ∧ nb ≤ b.size ∧ na + nb + 1 + x ≤ a.size + b.size)
    (Q := fun c st' => ∃ r y, c = (some r, y) ∧ WG n pe st' ∧ AllGood r) ?step ?fin ⟨_, _, _, _, rfl, hW, g0, by omega, by omega, by omega, by omega, by omega⟩) ?post)
  case post =>
    rintro c st' ⟨r, y, rfl, hW', hr⟩
    exact wpS_pure (h r st' hW' hr)
  case fin =>
    rintro c st' ⟨na, nb, out, mg, rfl, hW', ho, i1, i2, i3, i4, i5⟩
    omega
  case step =>
    rintro x c st1 _ hx ⟨na, nb, out, mg, rfl, hW1, ho, i1, i2, i3, i4, i5⟩
    dsimp only
    refine wpS_bind (wpS_mono (wpS_forRange (I := fun y c st' => ∃ na nb out ac bc, c = (none, na, nb, out, ac, bc) ∧ WG n pe st' ∧ AllGood out ∧ 1 ≤ na ∧ na ≤ a.size ∧ 2 ≤ nb ∧ nb ≤ b.size ∧ na + nb + 1 + x ≤ a.size + b.size)
      (Q := fun c st' => (∃ r y, c = (some r, y) ∧ WG n pe st' ∧ AllGood r) ∨ (∃ na nb out ac bc, c = (none, na, nb, out, ac, bc) ∧ WG n pe st' ∧ AllGood out ∧ 1 ≤ na ∧ na ≤ a.size ∧ 2 ≤ nb ∧ nb ≤ b.size ∧ na + nb + 1 + x ≤ a.size + b.size)) ?istep ?ifin ⟨_, _, _, _, _, rfl, hW1, ho, i1, i2, i3, i4, i5⟩) ?ipost)
    case ifin => exact fun c st' z => .inr z
    case istep =>
      rintro y c st2 _ hy ⟨na, nb, out, ac, bc, rfl, hW2, ho, i1, i2, i3, i4, i5⟩
      dsimp only
      refine wpS_bind (wpS_elem (by omega) fun p hp => wpS_bind (wpS_elem (by omega) fun q hq => wpS_bind (wpS_lt hW2.kind (hb _ hp) (ha _ hq) fun bw => ?_)))
      cases bw with
      | true =>
        dsimp only
        rw [if_pos rfl]
        refine wpS_bind (wpS_elem (by omega) fun p hp => ?_)
        have go : AllGood (out.push p) := ho.push (ha _ hp)
        refine wpS_ite (fun ec => ?_) (fun ec => ?_)
        · exact wpS_pure (.inl ⟨_, _, rfl, hW2, dn _ _ _ go⟩)
        simp only [beq_iff_eq] at ec
        refine wpS_ite (fun ed => ?_) (fun ed => ?_)
        · exact wpS_pure (.inr ⟨_, _, _, _, _, rfl, hW2, go, by omega, by omega, by omega, by omega, by omega⟩)
        · exact wpS_pure ⟨_, _, _, _, _, rfl, hW2, go, by omega, by omega, by omega, by omega, by omega⟩
      | false =>
        dsimp only
        rw [if_neg Bool.false_ne_true]
        refine wpS_bind (wpS_elem (by omega) fun p hp => ?_)
        have go : AllGood (out.push p) := ho.push (hb _ hp)
        refine wpS_ite (fun ec => ?_) (fun ec => ?_)
        · exact wpS_pure (.inl ⟨_, _, rfl, hW2, la _ _ _ go⟩)
        simp only [beq_iff_eq] at ec
        refine wpS_ite (fun ed => ?_) (fun ed => ?_)
        · exact wpS_pure (.inr ⟨_, _, _, _, _, rfl, hW2, go, by omega, by omega, by omega, by omega, by omega⟩)
        · exact wpS_pure ⟨_, _, _, _, _, rfl, hW2, go, by omega, by omega, by omega, by omega, by omega⟩
    case ipost =>
      rintro c st2 (⟨r, y, rfl, hW2, hr⟩ | ⟨na, nb, out, ac, bc, rfl, hW2, ho, i1, i2, i3, i4, i5⟩)
      · exact wpS_pure ⟨_, _, rfl, hW2, hr⟩
      dsimp only
      refine wpS_bind (wpS_lift (wpAny_rule ⟨rfl, ?_⟩))
      refine wpS_bind (wpS_mono (wpS_forRange (I := fun y c st' => ∃ na nb out mg ac bc, c = (none, na, nb, out, mg, ac, bc) ∧ WG n pe st' ∧ AllGood out ∧ 1 ≤ na ∧ na ≤ a.size ∧ 2 ≤ nb ∧ nb ≤ b.size ∧ na + nb + 1 + x + y ≤ a.size + b.size)
        (Q := fun c st' => (∃ r y, c = (some r, y) ∧ WG n pe st' ∧ AllGood r) ∨ (∃ na nb out mg ac bc, c = (none, na, nb, out, mg, ac, bc) ∧ WG n pe st' ∧ AllGood out ∧ 1 ≤ na ∧ na ≤ a.size ∧ 2 ≤ nb ∧ nb ≤ b.size ∧ na + nb + 1 + (x + 1) ≤ a.size + b.size)) ?jstep ?jfin ⟨_, _, _, _, _, _, rfl, hW2, ho, i1, i2, i3, i4, i5⟩) ?jpost)
      case jfin =>
        rintro c st' ⟨na, nb, out, mg, ac, bc, rfl, q1, q2, q3, q4, q5, q6, q7⟩
        exact .inr ⟨_, _, _, _, _, _, rfl, q1, q2, q3, q4, q5, q6, by omega⟩
      case jpost =>
        rintro c st3 (⟨r, y, rfl, hW3, hr⟩ | ⟨na, nb, out, mg, ac, bc, rfl, hW3, ho, i1, i2, i3, i4, i5⟩)
        · exact wpS_pure ⟨_, _, rfl, hW3, hr⟩
        dsimp only
        exact wpS_bind (wpS_setG hW3 fun st4 hW4 => wpS_pure ⟨_, _, _, _, rfl, hW4, ho, i1, i2, i3, i4, by omega⟩)
      case jstep =>
        rintro y c st3 _ hy ⟨na, nb, out, mg, ac, bc, rfl, hW3, ho, i1, i2, i3, i4, i5⟩
        dsimp only
        refine wpS_ite (fun ec => ?_) (fun ec => ?_)
        all_goals
          refine wpS_bind (wpS_setG hW3 fun st4 hW4 => ?_)
          refine wpS_bind (wpS_elem (by omega) fun p hp => ?_)
          refine wpS_bind (wpS_gallop hW4.kind (hb p hp) ha (by omega) (by omega) fun k hk => ?_)
          dsimp only
          refine wpS_ite (fun ek => ?_) (fun ek => ?_)
          · have ho1 := ho.append (ha.extract k na).reverse
            refine wpS_ite (fun e1 => wpS_pure (.inl ⟨_, _, rfl, hW4, dn _ _ _ ho1⟩)) (fun e1 => ?_)
            simp only [beq_iff_eq] at e1
            refine wpS_bind (wpS_elem (by omega) fun p2 hp2 => ?_)
            have ho2 := ho1.push (hb p2 hp2)
            refine wpS_ite (fun e2 => wpS_pure (.inl ⟨_, _, rfl, hW4, la _ _ _ ho2⟩)) (fun e2 => ?_)
            simp only [beq_iff_eq] at e2
            refine wpS_bind (wpS_elem (by omega) fun p3 hp3 => ?_)
            refine wpS_bind (wpS_gallop hW4.kind (ha p3 hp3) hb (by omega) (by omega) fun k2 hk2 => ?_)
            dsimp only
            refine wpS_ite (fun ek2 => ?_) (fun ek2 => ?_)
            · have ho3 := ho2.append (hb.extract k2 (nb - 1)).reverse
              refine wpS_ite (fun e3 => wpS_pure (.inl ⟨_, _, rfl, hW4, la _ _ _ ho3⟩)) (fun e3 => ?_)
              refine wpS_ite (fun e4 => wpS_pure (.inl ⟨_, _, rfl, hW4, dn _ _ _ ho3⟩)) (fun e4 => ?_)
              simp only [beq_iff_eq] at e3 e4
              refine wpS_bind (wpS_elem (by omega) fun p4 hp4 => ?_)
              have ho4 := ho3.push (ha p4 hp4)
              refine wpS_ite (fun e5 => wpS_pure (.inl ⟨_, _, rfl, hW4, dn _ _ _ ho4⟩)) (fun e5 => ?_)
              simp only [beq_iff_eq] at e5
              exact wpS_ite (fun e6 => wpS_pure (.inr ⟨_, _, _, _, _, _, rfl, hW4, ho4, by omega, by omega, by omega, by omega, by omega⟩)) (fun e6 => wpS_pure ⟨_, _, _, _, _, _, rfl, hW4, ho4, by omega, by omega, by omega, by omega, by omega⟩)
            · refine wpS_bind (wpS_elem (by omega) fun p4 hp4 => ?_)
              have ho4 := ho2.push (ha p4 hp4)
              refine wpS_ite (fun e5 => wpS_pure (.inl ⟨_, _, rfl, hW4, dn _ _ _ ho4⟩)) (fun e5 => ?_)
              simp only [beq_iff_eq] at e5
              exact wpS_ite (fun e6 => wpS_pure (.inr ⟨_, _, _, _, _, _, rfl, hW4, ho4, by omega, by omega, by omega, by omega, by omega⟩)) (fun e6 => wpS_pure ⟨_, _, _, _, _, _, rfl, hW4, ho4, by omega, by omega, by omega, by omega, by omega⟩)
          · refine wpS_bind (wpS_elem (by omega) fun p2 hp2 => ?_)
            have ho2 := ho.push (hb p2 hp2)
            refine wpS_ite (fun e2 => wpS_pure (.inl ⟨_, _, rfl, hW4, la _ _ _ ho2⟩)) (fun e2 => ?_)
            simp only [beq_iff_eq] at e2
            refine wpS_bind (wpS_elem (by omega) fun p3 hp3 => ?_)
            refine wpS_bind (wpS_gallop hW4.kind (ha p3 hp3) hb (by omega) (by omega) fun k2 hk2 => ?_)
            dsimp only
            refine wpS_ite (fun ek2 => ?_) (fun ek2 => ?_)
            · have ho3 := ho2.append (hb.extract k2 (nb - 1)).reverse
              refine wpS_ite (fun e3 => wpS_pure (.inl ⟨_, _, rfl, hW4, la _ _ _ ho3⟩)) (fun e3 => ?_)
              refine wpS_ite (fun e4 => wpS_pure (.inl ⟨_, _, rfl, hW4, dn _ _ _ ho3⟩)) (fun e4 => ?_)
              simp only [beq_iff_eq] at e3 e4
              refine wpS_bind (wpS_elem (by omega) fun p4 hp4 => ?_)
              have ho4 := ho3.push (ha p4 hp4)
              refine wpS_ite (fun e5 => wpS_pure (.inl ⟨_, _, rfl, hW4, dn _ _ _ ho4⟩)) (fun e5 => ?_)
              simp only [beq_iff_eq] at e5
              exact wpS_ite (fun e6 => wpS_pure (.inr ⟨_, _, _, _, _, _, rfl, hW4, ho4, by omega, by omega, by omega, by omega, by omega⟩)) (fun e6 => wpS_pure ⟨_, _, _, _, _, _, rfl, hW4, ho4, by omega, by omega, by omega, by omega, by omega⟩)
            · refine wpS_bind (wpS_elem (by omega) fun p4 hp4 => ?_)
              have ho4 := ho2.push (ha p4 hp4)
              refine wpS_ite (fun e5 => wpS_pure (.inl ⟨_, _, rfl, hW4, dn _ _ _ ho4⟩)) (fun e5 => ?_)
              simp only [beq_iff_eq] at e5
              exact wpS_ite (fun e6 => wpS_pure (.inr ⟨_, _, _, _, _, _, rfl, hW4, ho4, by omega, by omega, by omega, by omega, by omega⟩)) (fun e6 => wpS_pure ⟨_, _, _, _, _, _, rfl, hW4, ho4, by omega, by omega, by omega, by omega, by omega⟩)
end
end Tim


set_option Elab.async false
set_option linter.all false
set_option maxRecDepth 100000
namespace Tim
open PySem PyProof.Rows
theorem mergeAt'_eq (i : Nat) : mergeAt' i = (do
  let s ← get
  let (some (sa, na, power), some (sb, nb, _)) := ((pendingOf s)[i]?, (pendingOf s)[i + 1]?) | unsupported "internal:list.sort.pending"
  set (setPending s (((pendingOf s).setIfInBounds i (sa, na + nb, power)).eraseIdxIfInBounds (i + 1)))
  let some k ← gallop' false (← elem' (arrOf s) sb) (arrOf s) sa na 0 | return false
  let (sa, na) := (sa + k, na - k)
  if na == 0 then return true
  let some nb ← gallop' true (← elem' (arrOf s) (sa + na - 1)) (arrOf s) sb nb (nb - 1) | return false
  if nb == 0 then return true
  let x := (arrOf s).extract sa sb
  let y := (arrOf s).extract sb (sb + nb)
  let merged ← if na ≤ nb then mergeLo' x y else mergeHi' x y
  modify fun s => setArr s (merged.toList.zipIdx.foldl (fun a (p, j) => a.setIfInBounds (sa + j) p) (arrOf s))
  return (failedOf (← get)).isNone) := rfl
/-- the runs that wait: one behind the other, none empty, up to hi -/
def Runs (p : Array (Nat × Nat × Nat)) (hi : Nat) : Prop :=
  ∀ (i sa na pw : Nat), p[i]? = some (sa, na, pw) → 1 ≤ na ∧ sa + na ≤ hi ∧ (∀ (sb nb q : Nat), p[i + 1]? = some (sb, nb, q) → sb = sa + na) ∧ (p[i + 1]? = none → sa + na = hi)
theorem setAll_good {x : Array Keyed} (sa : Nat) : ∀ (l : List (Keyed × Nat)), (∀ p ∈ l, Good p.1) → ∀ (x : Array Keyed), AllGood x →
    AllGood (l.foldl (fun a (q : Keyed × Nat) => a.setIfInBounds (sa + q.2) q.1) x) ∧ (l.foldl (fun a (q : Keyed × Nat) => a.setIfInBounds (sa + q.2) q.1) x).size = x.size
  | [], _, x, hx => ⟨hx, rfl⟩
  | q :: r, hl, x, hx => by
    have h1 : AllGood (x.setIfInBounds (sa + q.2) q.1) := fun p hp => by
      have hp' : p ∈ x.setIfInBounds (sa + q.2) q.1 := Array.mem_toList_iff.mp hp
      obtain ⟨k, hk, e⟩ := Array.mem_iff_getElem.mp hp'
      have hk' : k < x.size := by simpa using hk
      rw [Array.getElem_setIfInBounds hk'] at e
      split at e
      · rw [← e]; exact hl q List.mem_cons_self
      · rw [← e]; exact hx _ (Array.mem_toList_iff.mpr (Array.getElem_mem hk'))
    obtain ⟨a1, a2⟩ := setAll_good (x := x) sa r (fun p hp => hl p (List.mem_cons_of_mem _ hp)) _ h1
    exact ⟨a1, a2.trans (by simp)⟩
section
variable {prog : Program} {w : World} {A : Around} {E : Value → Shared → Prop} {s : Shared} {n : Nat} {pe : Array (Nat × Nat × Nat)} {st : SortSt}
theorem wpS_set {f : SortSt} {Q : PUnit → SortSt → Prop} (h : Q ⟨⟩ f) : wpS (model prog w) A E s (set f : StateT SortSt Sem PUnit) Q st := by
  unfold wpS
  rw [StateT.run_set]
  exact wpAny_pure ⟨rfl, h⟩
theorem runs_merge {p : Array (Nat × Nat × Nat)} {hi i sa na pw sb nb q : Nat} (h : Runs p hi) (e1 : p[i]? = some (sa, na, pw)) (e2 : p[i + 1]? = some (sb, nb, q)) :
    Runs ((p.setIfInBounds i (sa, na + nb, pw)).eraseIdxIfInBounds (i + 1)) hi ∧ ((p.setIfInBounds i (sa, na + nb, pw)).eraseIdxIfInBounds (i + 1)).size + 1 = p.size := by
  have hi1 : i + 1 < p.size := (Array.getElem?_eq_some_iff.mp e2).1
  have hsz : ((p.setIfInBounds i (sa, na + nb, pw)).eraseIdxIfInBounds (i + 1)).size + 1 = p.size := by
    rw [Array.eraseIdxIfInBounds, dif_pos (by rw [Array.size_setIfInBounds]; exact hi1), Array.size_eraseIdx, Array.size_setIfInBounds]; omega
  have at_ : ∀ j, ((p.setIfInBounds i (sa, na + nb, pw)).eraseIdxIfInBounds (i + 1))[j]? = if j = i then some (sa, na + nb, pw) else if j < i then p[j]? else p[j + 1]? := by
    intro j
    rw [Array.eraseIdxIfInBounds, dif_pos (by rw [Array.size_setIfInBounds]; exact hi1), Array.getElem?_eraseIdx, Array.getElem?_setIfInBounds, Array.getElem?_setIfInBounds]
    by_cases a : j = i
    · subst a; simp; omega
    · by_cases b : j < i
      · have c : ¬ i = j := fun z => a z.symm
        rw [if_neg a, if_pos b, if_pos (by omega), if_neg c]
      · have c : ¬ i = j + 1 := by omega
        rw [if_neg a, if_neg b, if_neg (by omega), if_neg c]
  refine ⟨fun j s1 n1 p1 e => ?_, hsz⟩
  rw [at_] at e
  rw [at_]
  obtain ⟨a1, a2, a3, a4⟩ := h i sa na pw e1
  obtain ⟨b1, b2, b3, b4⟩ := h (i + 1) sb nb q e2
  have c3 := a3 sb nb q e2
  by_cases hj : j = i
  · subst hj
    rw [if_pos rfl] at e
    cases e
    rw [if_neg (by omega), if_neg (by omega)]
    exact ⟨by omega, by omega, fun sc nc r e => by have := b3 sc nc r e; omega, fun e => by have := b4 e; omega⟩
  · rw [if_neg hj] at e
    by_cases hl : j < i
    · rw [if_pos hl] at e
      obtain ⟨d1, d2, d3, d4⟩ := h j s1 n1 p1 e
      refine ⟨d1, d2, fun sc nc r e5 => ?_, fun e5 => ?_⟩
      · by_cases hj1 : j + 1 = i
        · rw [if_pos hj1] at e5
          cases e5
          exact d3 sa na pw (by rw [hj1]; exact e1)
        · rw [if_neg hj1, if_pos (by omega)] at e5
          exact d3 sc nc r e5
      · by_cases hj1 : j + 1 = i
        · rw [if_pos hj1] at e5; cases e5
        · rw [if_neg hj1, if_pos (by omega)] at e5
          exact d4 e5
    · rw [if_neg hl] at e
      obtain ⟨d1, d2, d3, d4⟩ := h (j + 1) s1 n1 p1 e
      refine ⟨d1, d2, fun sc nc r e5 => ?_, fun e5 => ?_⟩
      · rw [if_neg (by omega), if_neg (by omega)] at e5
        exact d3 sc nc r e5
      · rw [if_neg (by omega), if_neg (by omega)] at e5
        exact d4 e5
theorem wpS_mergeAt {i hi : Nat} {Q : Bool → SortSt → Prop} (hW : WG n pe st) (hR : Runs pe hi) (hn : hi ≤ n) (hi' : i + 1 < pe.size) (h : ∀ pe' st', WG n pe' st' → Runs pe' hi → pe'.size + 1 = pe.size → Q true st') :
    wpS (model prog w) A E s (mergeAt' i) Q st := by
  obtain ⟨⟨sa, na, pw⟩, e1⟩ : ∃ r, pe[i]? = some r := ⟨pe[i]'(by omega), Array.getElem?_eq_getElem (by omega)⟩
  obtain ⟨⟨sb, nb, q⟩, e2⟩ : ∃ r, pe[i + 1]? = some r := ⟨pe[i + 1], Array.getElem?_eq_getElem hi'⟩
  obtain ⟨hR', hs'⟩ := runs_merge hR e1 e2
  obtain ⟨a1, a2, a3, a4⟩ := hR i sa na pw e1
  obtain ⟨b1, b2, b3, b4⟩ := hR (i + 1) sb nb q e2
  have c3 := a3 sb nb q e2
  rw [mergeAt'_eq]
  refine wpS_bind (wpS_get ?_)
  have hp : pendingOf st = pe := hW.pend
  rw [hp, e1, e2]
  dsimp only
  refine wpS_bind (wpS_set ?_)
  have hW1 : WG n ((pe.setIfInBounds i (sa, na + nb, pw)).eraseIdxIfInBounds (i + 1)) (setPending st ((pe.setIfInBounds i (sa, na + nb, pw)).eraseIdxIfInBounds (i + 1))) := ⟨hW.size, hW.good, hW.kind, hW.failed, rfl⟩
  have hg : AllGood (arrOf st) := hW.good
  have hz := hW.size
  refine wpS_bind (wpS_elem (by omega) fun p hp => ?_)
  refine wpS_bind (wpS_gallop hW1.kind (hg p hp) hg (by omega) (by omega) fun k hk => ?_)
  dsimp only
  refine wpS_ite (fun e3 => wpS_pure (h _ _ hW1 hR' hs')) (fun e3 => ?_)
  simp only [beq_iff_eq] at e3
  refine wpS_bind (wpS_elem (by omega) fun p2 hp2 => ?_)
  refine wpS_bind (wpS_gallop hW1.kind (hg p2 hp2) hg (by omega) (by omega) fun k2 hk2 => ?_)
  dsimp only
  refine wpS_ite (fun e4 => wpS_pure (h _ _ hW1 hR' hs')) (fun e4 => ?_)
  simp only [beq_iff_eq] at e4
  have fin : ∀ (r : Array Keyed) (st' : SortSt), WG n ((pe.setIfInBounds i (sa, na + nb, pw)).eraseIdxIfInBounds (i + 1)) st' → AllGood r →
      wpS (model prog w) A E s (do
        modify fun s => setArr s (r.toList.zipIdx.foldl (fun a (p, j) => a.setIfInBounds (sa + k + j) p) (arrOf s))
        return (failedOf (← get)).isNone) Q st' := by
    intro r st' hW' hr
    obtain ⟨g1, g2⟩ := setAll_good (x := #[]) (sa + k) r.toList.zipIdx (fun p hp => hr _ (List.fst_mem_of_mem_zipIdx hp)) (arrOf st') hW'.good
    refine wpS_bind (wpS_modify (wpS_bind (wpS_get ?_)))
    have hW2 : WG n ((pe.setIfInBounds i (sa, na + nb, pw)).eraseIdxIfInBounds (i + 1)) (setArr st' (r.toList.zipIdx.foldl (fun a (q : Keyed × Nat) => a.setIfInBounds (sa + k + q.2) q.1) (arrOf st'))) :=
      ⟨g2.trans hW'.size, g1, hW'.kind, hW'.failed, hW'.pend⟩
    have hf : failedOf (setArr st' (r.toList.zipIdx.foldl (fun a (q : Keyed × Nat) => a.setIfInBounds (sa + k + q.2) q.1) (arrOf st'))) = none := hW'.failed
    refine wpS_pure ?_
    have hq := h _ _ hW2 hR' hs'
    show Q (failedOf st').isNone _
    rw [hW'.failed]
    exact hq
  have x1 : 1 ≤ ((arrOf st).extract (sa + k) sb).size := by rw [Array.size_extract]; omega
  have y1 : 1 ≤ ((arrOf st).extract sb (sb + k2)).size := by rw [Array.size_extract]; omega
  refine wpS_ite (fun e5 => ?_) (fun e5 => ?_)
  · exact wpS_bind (wpS_mergeLo hW1 (hg.extract _ _) (hg.extract _ _) x1 y1 fun r st' hW' hr => fin r st' hW' hr)
  · exact wpS_bind (wpS_mergeHi hW1 (hg.extract _ _) (hg.extract _ _) x1 y1 fun r st' hW' hr => fin r st' hW' hr)
end
end Tim


set_option Elab.async false
set_option linter.all false
set_option maxRecDepth 100000
namespace Tim
open PySem PyProof.Rows
theorem runs_push {p : Array (Nat × Nat × Nat)} {lo m q : Nat} (h : Runs p lo) (hm : 1 ≤ m) : Runs (p.push (lo, m, q)) (lo + m) := by
  intro i sa na pw e
  rw [Array.getElem?_push] at e
  rw [Array.getElem?_push]
  by_cases hi : i = p.size
  · subst hi
    rw [if_pos rfl] at e
    cases e
    rw [if_neg (by omega), Array.getElem?_eq_none (by omega)]
    exact ⟨hm, Nat.le_refl _, (fun _ _ _ z => nomatch z), fun _ => rfl⟩
  · rw [if_neg hi] at e
    obtain ⟨a1, a2, a3, a4⟩ := h i sa na pw e
    have hlt : i < p.size := (Array.getElem?_eq_some_iff.mp e).1
    refine ⟨a1, by omega, fun sb nb r z => ?_, fun z => ?_⟩
    · by_cases hj : i + 1 = p.size
      · rw [if_pos hj] at z
        cases z
        exact (a4 (by rw [Array.getElem?_eq_none_iff]; omega)).symm
      · rw [if_neg hj] at z
        exact a3 sb nb r z
    · by_cases hj : i + 1 = p.size
      · rw [if_pos hj] at z; cases z
      · rw [if_neg hj] at z
        rw [Array.getElem?_eq_none_iff] at z
        omega
theorem runs_power {p : Array (Nat × Nat × Nat)} {hi k pw : Nat} (h : Runs p hi) : Runs (p.modify k fun (a, b, _) => (a, b, pw)) hi := by
  have e0 : ∀ j, (p.modify k fun (a, b, _) => (a, b, pw))[j]? = if k = j then (p[j]?).map (fun (a, b, _) => (a, b, pw)) else p[j]? := fun j => Array.getElem?_modify
  have back : ∀ (j sa na q : Nat), (p.modify k fun (a, b, _) => (a, b, pw))[j]? = some (sa, na, q) → ∃ q' : Nat, p[j]? = some (sa, na, q') := by
    intro j sa na q e
    rw [e0] at e
    split at e
    · cases z : p[j]? with
      | none => rw [z] at e; cases e
      | some r =>
        obtain ⟨x, y, u⟩ := r
        rw [z] at e
        cases e
        exact ⟨u, rfl⟩
    · exact ⟨q, e⟩
  intro i sa na q e
  obtain ⟨q', e'⟩ := back i sa na q e
  obtain ⟨a1, a2, a3, a4⟩ := h i sa na q' e'
  refine ⟨a1, a2, fun sb nb r z => ?_, fun z => ?_⟩
  · obtain ⟨r', z'⟩ := back _ _ _ _ z
    exact a3 sb nb r' z'
  · refine a4 ?_
    rw [e0] at z
    split at z
    · exact Option.map_eq_none_iff.mp z
    · exact z
section
variable {prog : Program} {w : World} {A : Around} {E : Value → Shared → Prop} {s : Shared} {n : Nat} {pe : Array (Nat × Nat × Nat)} {st : SortSt}
theorem wpS_sort {Q : Unit → SortSt → Prop} (hW : WG n #[] st) (h : ∀ pe st', WG n pe st' → Q () st') : wpS (model prog w) A E s sortRuns' Q st := by
  rw [sortRuns'_eq]
  refine wpS_bind (wpS_get ?_)
  dsimp only
  rw [hW.size]
  refine wpS_bind (wpS_mono (wpS_forRange (I := fun x c st' => ∃ lo pe, c = (none, lo) ∧ WG n pe st' ∧ Runs pe lo ∧ lo ≤ n) (Q := fun c st' => ∃ lo pe, c = (none, lo) ∧ WG n pe st' ∧ Runs pe lo ∧ lo ≤ n) ?step (fun _ _ z => z)
    ⟨0, #[], rfl, hW, (fun i sa na pw e => by simp at e), Nat.zero_le _⟩) ?post)
  case step =>
    rintro x c st1 _ hx ⟨lo, pe1, rfl, hW1, hR1, hlo⟩
    dsimp only
    refine wpS_ite (fun e => wpS_pure ⟨lo, pe1, rfl, hW1, hR1, hlo⟩) (fun e => ?_)
    refine wpS_bind (wpS_count hW1 (by omega) (by omega) fun m st2 hW2 m1 m2 => ?_)
    dsimp only
    refine wpS_ite (fun e3 => ?_) (fun e3 => ?_)
    · refine wpS_bind (wpS_lift (wpAny_rule ⟨rfl, ?_⟩))
      refine wpS_bind (wpS_bin hW2 (by omega) fun st3 hW3 => ?_)
      simp only [Bool.not_true, Bool.false_eq_true, if_false]
      have q1 : 1 ≤ min (n - lo) (minRun' n n 0) := by omega
      have q2 : lo + min (n - lo) (minRun' n n 0) ≤ n := by omega
      generalize min (n - lo) (minRun' n n 0) = m at q1 q2 ⊢
      refine wpS_bind (wpS_get ?_)
      cases eb : (pendingOf st3).back? with
      | none =>
        dsimp only
        have hpp : pendingOf _ = pe1 := hW3.pend
        refine wpS_bind (wpS_modify (wpS_pure ?_))
        exact ⟨_, (pe1).push (lo, m, 0), rfl, ⟨hW3.size, hW3.good, hW3.kind, hW3.failed, congrArg (fun z => Array.push z (lo, m, 0)) hpp⟩, runs_push hR1 q1, q2⟩
      | some r =>
        obtain ⟨s1, n1, pw1⟩ := r
        dsimp only
        refine wpS_bind (wpS_mono (wpS_forRange (I := fun x c st' => c = (none, ()) ∧ ∃ pe, WG n pe st' ∧ Runs pe lo) (Q := fun c st' => c = (none, ()) ∧ ∃ pe, WG n pe st' ∧ Runs pe lo) ?mstep (fun _ _ z => z) ⟨rfl, pe1, hW3, hR1⟩) ?mpost)
        case mpost =>
          rintro c st5 ⟨rfl, pe5, hW5, hR5⟩
          dsimp only
          have hp5 : pendingOf st5 = pe5 := hW5.pend
          refine wpS_bind (wpS_modify ?_)
          have hW6 : WG n (pe5.modify (pe5.size - 1) fun x => (x.fst, x.2.fst, power' n (2 * s1 + n1) (2 * s1 + n1 + n1 + m) n)) (setPending st5 (pe5.modify (pe5.size - 1) fun x => (x.fst, x.2.fst, power' n (2 * s1 + n1) (2 * s1 + n1 + n1 + m) n))) := ⟨hW5.size, hW5.good, hW5.kind, hW5.failed, rfl⟩
          have hR6 : Runs (pe5.modify (pe5.size - 1) fun x => (x.fst, x.2.fst, power' n (2 * s1 + n1) (2 * s1 + n1 + n1 + m) n)) lo := runs_power hR5
          rw [hp5]
          have hpp : pendingOf _ = pe5.modify (pe5.size - 1) fun x => (x.fst, x.2.fst, power' n (2 * s1 + n1) (2 * s1 + n1 + n1 + m) n) := hW6.pend
          refine wpS_bind (wpS_modify (wpS_pure ?_))
          exact ⟨_, (pe5.modify (pe5.size - 1) fun x => (x.fst, x.2.fst, power' n (2 * s1 + n1) (2 * s1 + n1 + n1 + m) n)).push (lo, m, 0), rfl, ⟨hW6.size, hW6.good, hW6.kind, hW6.failed, congrArg (fun z => Array.push z (lo, m, 0)) hpp⟩, runs_push hR6 q1, q2⟩
        case mstep =>
          rintro y c st5 _ hy ⟨rfl, pe5, hW5, hR5⟩
          refine wpS_bind (wpS_get ?_)
          have hp5 : pendingOf st5 = pe5 := hW5.pend
          rw [hp5]
          by_cases hz : pe5.size > 1
          · rw [if_pos hz, Array.getElem?_eq_getElem (show pe5.size - 2 < pe5.size by omega)]
            dsimp only
            refine wpS_ite (fun e6 => wpS_pure ⟨rfl, pe5, hW5, hR5⟩) (fun e6 => ?_)
            refine wpS_bind (wpS_mergeAt hW5 hR5 hlo (by omega) fun pe7 st7 hW7 hR7 _ => ?_)
            exact wpS_pure ⟨rfl, pe7, hW7, hR7⟩
          · rw [if_neg hz]
            exact wpS_pure ⟨rfl, pe5, hW5, hR5⟩
    · have q1 := m1
      have q2 : lo + m ≤ n := by omega
      refine wpS_bind (wpS_get ?_)
      cases eb : (pendingOf st2).back? with
      | none =>
        dsimp only
        have hpp : pendingOf _ = pe1 := hW2.pend
        refine wpS_bind (wpS_modify (wpS_pure ?_))
        exact ⟨_, (pe1).push (lo, m, 0), rfl, ⟨hW2.size, hW2.good, hW2.kind, hW2.failed, congrArg (fun z => Array.push z (lo, m, 0)) hpp⟩, runs_push hR1 q1, q2⟩
      | some r =>
        obtain ⟨s1, n1, pw1⟩ := r
        dsimp only
        refine wpS_bind (wpS_mono (wpS_forRange (I := fun x c st' => c = (none, ()) ∧ ∃ pe, WG n pe st' ∧ Runs pe lo) (Q := fun c st' => c = (none, ()) ∧ ∃ pe, WG n pe st' ∧ Runs pe lo) ?mstep (fun _ _ z => z) ⟨rfl, pe1, hW2, hR1⟩) ?mpost)
        case mpost =>
          rintro c st5 ⟨rfl, pe5, hW5, hR5⟩
          dsimp only
          have hp5 : pendingOf st5 = pe5 := hW5.pend
          refine wpS_bind (wpS_modify ?_)
          have hW6 : WG n (pe5.modify (pe5.size - 1) fun x => (x.fst, x.2.fst, power' n (2 * s1 + n1) (2 * s1 + n1 + n1 + m) n)) (setPending st5 (pe5.modify (pe5.size - 1) fun x => (x.fst, x.2.fst, power' n (2 * s1 + n1) (2 * s1 + n1 + n1 + m) n))) := ⟨hW5.size, hW5.good, hW5.kind, hW5.failed, rfl⟩
          have hR6 : Runs (pe5.modify (pe5.size - 1) fun x => (x.fst, x.2.fst, power' n (2 * s1 + n1) (2 * s1 + n1 + n1 + m) n)) lo := runs_power hR5
          rw [hp5]
          have hpp : pendingOf _ = pe5.modify (pe5.size - 1) fun x => (x.fst, x.2.fst, power' n (2 * s1 + n1) (2 * s1 + n1 + n1 + m) n) := hW6.pend
          refine wpS_bind (wpS_modify (wpS_pure ?_))
          exact ⟨_, (pe5.modify (pe5.size - 1) fun x => (x.fst, x.2.fst, power' n (2 * s1 + n1) (2 * s1 + n1 + n1 + m) n)).push (lo, m, 0), rfl, ⟨hW6.size, hW6.good, hW6.kind, hW6.failed, congrArg (fun z => Array.push z (lo, m, 0)) hpp⟩, runs_push hR6 q1, q2⟩
        case mstep =>
          rintro y c st5 _ hy ⟨rfl, pe5, hW5, hR5⟩
          refine wpS_bind (wpS_get ?_)
          have hp5 : pendingOf st5 = pe5 := hW5.pend
          rw [hp5]
          by_cases hz : pe5.size > 1
          · rw [if_pos hz, Array.getElem?_eq_getElem (show pe5.size - 2 < pe5.size by omega)]
            dsimp only
            refine wpS_ite (fun e6 => wpS_pure ⟨rfl, pe5, hW5, hR5⟩) (fun e6 => ?_)
            refine wpS_bind (wpS_mergeAt hW5 hR5 hlo (by omega) fun pe7 st7 hW7 hR7 _ => ?_)
            exact wpS_pure ⟨rfl, pe7, hW7, hR7⟩
          · rw [if_neg hz]
            exact wpS_pure ⟨rfl, pe5, hW5, hR5⟩
  case post =>
    rintro c st1 ⟨lo, pe1, rfl, hW1, hR1, hlo⟩
    dsimp only
    refine wpS_bind (wpS_mono (wpS_forRange (I := fun x c st' => c = (none, ()) ∧ ∃ pe, WG n pe st' ∧ Runs pe lo) (Q := fun c st' => c = (none, ()) ∧ ∃ pe, WG n pe st' ∧ Runs pe lo) ?fstep (fun _ _ z => z) ⟨rfl, pe1, hW1, hR1⟩) ?fpost)
    case fpost =>
      rintro c st3 ⟨rfl, pe3, hW3, hR3⟩
      exact wpS_pure (h pe3 st3 hW3)
    case fstep =>
      rintro y c st3 _ hy ⟨rfl, pe3, hW3, hR3⟩
      refine wpS_bind (wpS_get ?_)
      have hp : pendingOf st3 = pe3 := hW3.pend
      rw [hp]
      refine wpS_ite (fun e6 => wpS_pure ⟨rfl, pe3, hW3, hR3⟩) (fun e6 => ?_)
      refine wpS_bind (wpS_mergeAt hW3 hR3 hlo ?_ fun pe4 st4 hW4 hR4 _ => ?_)
      · repeat' (first | omega | split)
      · exact wpS_pure ⟨rfl, pe4, hW4, hR4⟩
end
end Tim


set_option Elab.async false
set_option linter.all false
set_option maxRecDepth 100000
namespace Tim
open PySem PyProof.Rows
section
variable {prog : Program} {w : World} {A : Around} {E : Value → Shared → Prop} {s : Shared}
theorem pairs_good {vs : List Value} {ns : List Int} (hI : IntsAre vs ns) : AllGood (pairsOf vs) := by
  intro p hp
  have hp' : p ∈ pairsOf vs := Array.mem_toList_iff.mp hp
  have hp2 : p ∈ vs.toArray.zip vs.toArray := hp'
  obtain ⟨k, hk, e⟩ := Array.mem_iff_getElem.mp hp2
  rw [Array.getElem_zip] at e
  have hk' : k < vs.length := by simpa using hk
  have e1 : p.1 = vs[k] := by rw [← e]; simp
  have e2 : p.2 = vs[k] := by rw [← e]; simp
  have hm : ∀ (vs : List Value) (ns : List Int), IntsAre vs ns → ∀ v ∈ vs, ∃ n t, v = .int n t := by
    intro vs ns h
    induction h with
    | nil => intro v hv; simp at hv
    | cons n t r ih =>
      intro v hv
      rcases List.mem_cons.mp hv with rfl | hv
      · exact ⟨n, t, rfl⟩
      · exact ih v hv
  obtain ⟨n, t, e3⟩ := hm vs ns hI vs[k] (List.getElem_mem hk')
  exact ⟨n, t, e1.trans e3, e2.trans e1.symm⟩
theorem ints_of_good : ∀ (l : List Keyed), (∀ p ∈ l, Good p) → ∃ ns', IntsAre (l.map (·.2)) ns'
  | [], _ => ⟨[], .nil⟩
  | p :: r, h => by
    obtain ⟨ns', hr⟩ := ints_of_good r fun q hq => h q (List.mem_cons_of_mem _ hq)
    obtain ⟨n, t, e1, e2⟩ := h p List.mem_cons_self
    refine ⟨n :: ns', ?_⟩
    rw [List.map_cons, e2, e1]
    exact .cons n t hr
/-- list.sort of ints, any length: ints come out, as many -/
theorem list_sort_any {a : Addr} {vs : List Value} {ns : List Int} {n : Nat} {P : PySem.Fin → Shared → Prop} (ho : s.heap.get? a = some (seqObj "list" vs.toArray n))
    (hI : IntsAre vs ns) (hz : vs.length ≤ sizeLine)
    (h : ∀ (out : Array Value) (ns' : List Int), IntsAre out.toList ns' → out.size = vs.length → P (.done (.ret .none)) { s with heap := sortedHeap s.heap a vs out }) :
    wpAny (model prog w) A (Builtin.«list.sort» ⟨[.ref a], []⟩) P E s := by
  rw [list_sort_plain]
  have ha : a < s.heap.objs.size := Heap.lt_size ho
  have hsz : vs.toArray.size = vs.length := by simp
  refine wpAny_bind (listItems_at ho rfl ?_)
  refine wpAny_bind (listUpdate_at ho rfl ?_ (by rw [hsz]; exact hz))
  obtain ⟨e1, ho1⟩ : ∃ e1, (s.heap.update a (Obj.mapSeq fun _ => #[])).get? a = some (seqObj "list" #[] e1) := ⟨_, get?_update_seq ho (fun _ => #[])⟩
  refine wpAny_bind (seqEpoch_at ho1 rfl ?_)
  refine wpAny_bind (wpAny_newTuple ?_ (by simpa using hz))
  refine wpAny_bind (wpAny_newList ?_)
  refine wpAny_holding ?_
  have ho6 : (((s.heap.update a (Obj.mapSeq fun _ => #[])).push (seqObj "tuple" vs.toArray 0)).push (seqObj "list" #[] 0)).get? a = some (seqObj "list" #[] e1) := by
    rw [Heap.get?_push_ne _ _ _ (by rw [size_push', Heap.size_update]; exact Nat.ne_of_lt (Nat.lt_succ_of_lt ha)), Heap.get?_push_ne _ _ _ (by rw [Heap.size_update]; exact Nat.ne_of_lt ha)]
    exact ho1
  show wpAny (model prog w) A _ P E { s with heap := ((s.heap.update a (Obj.mapSeq fun _ => #[])).push (seqObj "tuple" vs.toArray 0)).push (seqObj "list" #[] 0) }
  dsimp only
  have fin : ∀ (xs : Array Keyed), AllGood xs → xs.size = vs.length → P (.done (.ret .none)) { s with heap := sortedHeap s.heap a vs (xs.map (·.2)) } := by
    intro xs hg hx
    obtain ⟨ns', h1⟩ := ints_of_good xs.toList hg
    exact h _ ns' (by rw [Array.toList_map]; exact h1) (by rw [Array.size_map]; exact hx)
  by_cases h2 : vs.toArray.size < 2
  · rw [if_pos h2, if_pos h2]
    refine wpAny_bind (wpAny_pure ?_)
    rw [StateT.run_pure]
    refine wpAny_bind (wpAny_pure ?_)
    dsimp only
    refine wpAny_bind (seqEpoch_at ho6 rfl ?_)
    refine wpAny_bind (listUpdate_at ho6 rfl ?_ (hsz2 := by rw [Array.size_map]; show (pairsOf vs).size ≤ _; rw [pairsOf_size]; omega))
    simp only [bne_self_eq_false, Bool.false_eq_true, if_false]
    exact wpAny_pure (fin (pairsOf vs) (pairs_good hI) (pairsOf_size vs))
  · rw [if_neg h2, if_neg h2]
    obtain ⟨v₁, v₂, rest, rfl⟩ : ∃ v₁ v₂ rest, vs = v₁ :: v₂ :: rest := by
      match vs, hsz, h2 with
      | [], _, h2 => simp at h2
      | [_], _, h2 => simp at h2
      | v₁ :: v₂ :: rest, _, _ => exact ⟨v₁, v₂, rest, rfl⟩
    rw [keyKind_ints hI]
    refine wpAny_bind (wpAny_pure ?_)
    refine wpAny_bind (wpAny_mono (wpS_sort (n := (v₁ :: v₂ :: rest).length) (st := SortSt.mk' oneType' ((v₁ :: v₂ :: rest).toArray.zip (v₁ :: v₂ :: rest).toArray) #[] 7 none)
      (Q := fun _ st' => ∃ pe, WG (v₁ :: v₂ :: rest).length pe st')
      ⟨pairsOf_size _, pairs_good hI, rfl, rfl, rfl⟩ fun pe st' hW => ⟨pe, hW⟩) ?_ fun _ _ e => e)
    rintro ⟨⟨⟩, st'⟩ s' ⟨rfl, pe, hW⟩
    dsimp only
    refine wpAny_bind (seqEpoch_at ho6 rfl ?_)
    refine wpAny_bind (listUpdate_at ho6 rfl ?_ (hsz2 := by rw [Array.size_map]; exact Nat.le_succ_of_le (Nat.le_trans (Nat.le_of_eq hW.size) hz)))
    rw [hW.failed]
    simp only [bne_self_eq_false, Bool.false_eq_true, if_false]
    exact wpAny_pure (fin _ hW.good hW.size)
theorem sorted_any {l : Addr} {vs : List Value} {ns : List Int} {Q : Value → Shared → Prop} (hl : s.heap.IsList l vs.toArray) (hI : IntsAre vs ns) (hz : vs.length ≤ sizeLine)
    (h : ∀ (out : Array Value) (ns' : List Int), IntsAre out.toList ns' → out.size = vs.length → Q (.ref (s.heap.objs.size + 1)) { s with heap := sortedAll s.heap vs out }) :
    wpAny (model prog w) A (call (.builtin "sorted") [.ref l]) Q E s := by
  refine Calls.call_function_entry kind_sorted plain_sorted entry_sorted (args_sorted1 _) ?_
  unfold Builtin.«sorted»
  refine wpAny_bind (m := checkCount "sorted" 1 1 _) (wpAny_pure ?_)
  refine wpAny_bind (collect_list hl ?_ hz)
  refine wpAny_bind (wpAny_newList ?_ hz)
  have hsz : ((s.heap.push (seqObj "list" #[] 0)).update s.heap.objs.size (Obj.mapSeq (· ++ vs.toArray))).objs.size = s.heap.objs.size + 1 := by
    rw [Heap.size_update, size_push']
  have hoL : (((s.heap.push (seqObj "list" #[] 0)).update s.heap.objs.size (Obj.mapSeq (· ++ vs.toArray))).push (seqObj "list" vs.toArray 0)).get? (s.heap.objs.size + 1) = some (seqObj "list" vs.toArray 0) := by
    rw [← hsz]; exact Heap.get?_push_size _ rfl
  show wpAny _ _ _ _ _ { s with heap := ((s.heap.push (seqObj "list" #[] 0)).update s.heap.objs.size (Obj.mapSeq (· ++ vs.toArray))).push (seqObj "list" vs.toArray 0) }
  rw [hsz]
  refine wpAny_bind (wpAny_holding (wpAny_call_entry slot_list_sort ⟨_, hoL, rfl⟩ entry_list_sort (list_sort_any hoL hI hz fun out ns' a1 a2 => ⟨_, rfl, ?_⟩) (args_list_sort _)))
  exact wpAny_pure ⟨_, rfl, h out ns' a1 a2⟩
end
end Tim


set_option Elab.async false
set_option linter.all false
set_option maxRecDepth 100000
namespace L2
open PySem PySem.Spec PyProof.Rows
section
variable {X : Cx}
/-- sorted(ints): ints, as many (their order is not told here) -/
theorem call_sortedW : CallR X (.builtin "sorted") (fun xs H Q => ∃ (p : Addr) (ns : List Int), xs = [.ref p] ∧ SqL X.K H p (ns.map V.int) ∧ ∀ (l : Addr) (ms : List Int), H l = none → ms.length = ns.length → Q (.ref l) (upd H l (.lst (ms.map V.int)))) := by
  intro pins s σ H xs us Q I r h
  obtain ⟨p, ns, rfl, hq, q⟩ := h
  obtain ⟨u, rfl, ru⟩ := vals1 r
  cases ru
  obtain ⟨its, rv, pl, hz⟩ := I.list hq
  have hl := rv.length
  refine Tim.sorted_any pl.isList (intsAre_of rv) (by omega) fun out ms hm hs => ?_
  obtain ⟨e, he⟩ := sortedAll_at s.heap its out
  have hlen : ms.length = ns.length := by
    have h1 : (ms.map V.int).length = out.toList.length := (vals_ints hm).length
    simp only [List.length_map, Array.length_toList] at h1 hl
    omega
  have hb : H (s.heap.objs.size + 1) = none := I.hok.fresh (Nat.le_succ _)
  refine ⟨.ref (s.heap.objs.size + 1), _, I.laid (t' := s.toks) (a := s.heap.objs.size + 1) (o := .lst (ms.map V.int)) (fun b o hb => sortedAll_old hb) (Nat.le_succ _) ?_, rfl, q _ ms hb hlen⟩
  refine ⟨by rw [List.length_map, hlen]; rw [List.length_map] at hz; exact hz, out.toList, e, vals_ints hm, ?_⟩
  exact he
/-- xs[::-1] -/
theorem pe_rev {e : Expr} {te : TE} {pos p2 p3 p4 : Pos} {j : Nat} (he : PE X e te) :
    PE X (.Subscript e (.Slice none none (some (.UnaryOp .USub (.Constant (.int 1) j p4) p3)) p2) pos) (fun σ H Q => te σ H fun x H1 => ∃ (a : Addr) (xs : List V), x = .ref a ∧ SqL X.K H1 a xs ∧ ∀ p, H1 p = none → Q (.ref p) (upd H1 p (.lst xs.reverse))) := by
  intro pins s σ H Q I h
  refine Subscript_ (thn (he pins s σ H _ I h) fun v s1 ⟨x, H1, I1, r1, q1⟩ => ?_)
  obtain ⟨a, xs, rfl, hx, q⟩ := q1
  cases r1
  refine wpAny_Slice ?_
  rw [evalPart_none]
  refine wpAny_pure (wpAny_pure ?_)
  rw [evalPart_some]
  refine thn (pe_un un_neg pe_int pins s1 σ H1 (fun y H2 => y = .int (-1) ∧ H2 = H1) I1 ⟨1, rfl, rfl, rfl⟩) fun u s2 ⟨y, H2, I2, ry, ey, eH⟩ => ?_
  subst ey eH
  obtain ⟨t, rfl⟩ := ry
  have I4 : Inv X pins σ H2 { s2 with heap := s2.heap.push { cls := .type "slice", data := .fields #[.none, .none, .int (-1) t] } } := I2.kept (t' := s2.toks) fun b ob q => Heap.get?_push_of_some _ q
  obtain ⟨its, rv, pl, hz⟩ := I4.list hx
  have hl := rv.length
  refine tail_any (ops := [.ref a, .ref s2.heap.objs.size]) pl.isList.typeIs slot_list_getitem.lookup ?_ (by with_unfolding_all rfl)
  refine wpAny_getItem_list_slice (lo := none) (hi := none) (st := some (-1)) pl.isList (Heap.IsSliceOf.new ..) .none .none (.int (-1) t) (by decide) ?_ (by rw [List.size_toArray]; omega)
  rw [PySem.W.krv_pick]
  refine ⟨.ref _, _, I4.laid (t' := s2.toks) (o := .lst xs.reverse) (fun b ob q => Heap.get?_push_of_some _ q) (Nat.le_refl _) ?_, rfl, q _ (I4.hok.fresh (Nat.le_refl _))⟩
  exact ⟨by rw [List.length_reverse]; exact hz, its.reverse, 0, rv.reverse, Heap.get?_push_size _ rfl⟩
end

/-! ### data of any depth: lists and tuples of ints, bools, texts -/
mutual
/-- the value reads as the data -/
inductive Dp (K : PySem.W.Frag) (H : Hp) : V → PyData → Prop where
  | non : Dp K H .non .none
  | bl (b : Bool) : Dp K H (.bl b) (.bool b)
  | int (i : Int) : Dp K H (.int i) (.int i)
  | str (x : Str) : Dp K H (.str x) (.str x)
  | lst {a : Addr} {xs : List V} {ds : List PyData} : SqL K H a xs → Dps K H xs ds → Dp K H (.ref a) (.list ds)
  | tup {a : Addr} {xs : List V} {ds : List PyData} : SqT K H a xs → Dps K H xs ds → Dp K H (.ref a) (.tuple ds)
inductive Dps (K : PySem.W.Frag) (H : Hp) : List V → List PyData → Prop where
  | nil : Dps K H [] []
  | cons {x : V} {d : PyData} {xs : List V} {ds : List PyData} : Dp K H x d → Dps K H xs ds → Dps K H (x :: xs) (d :: ds)
end
section
variable {X : Cx} {pins : List (Addr × Obj)} {σ : St} {H : Hp} {s : Shared}
mutual
theorem Dp.reads (I : Inv X pins σ H s) : ∀ {v : V} {d : PyData} {u : Value}, Dp X.K H v d → RelV v u → ∃ as, Reads s.heap u d as
  | _, _, _, .non, r => by cases (show _ = Value.none from r); exact ⟨_, .none⟩
  | _, _, _, .bl b, r => by cases (show _ = Value.bool b from r); exact ⟨_, .bool b⟩
  | _, _, _, .int i, r => by obtain ⟨t, rfl⟩ := r; exact ⟨_, .int i t⟩
  | _, _, _, .str x, r => by obtain ⟨t, rfl⟩ := r; exact ⟨_, .str x t⟩
  | _, _, _, .lst (a := a) h hs, r => by
    cases (show _ = Value.ref a from r)
    obtain ⟨its, rv, ⟨o, n, h1, h2, _, h4⟩, _⟩ := I.list h
    obtain ⟨as, hr⟩ := Dps.reads I hs rv
    exact ⟨_, .list h1 h2 h4 (by simpa using hr)⟩
  | _, _, _, .tup (a := a) h hs, r => by
    cases (show _ = Value.ref a from r)
    obtain ⟨its, rv, ⟨o, h1, h2, n, h4⟩, _⟩ := I.tuple h
    obtain ⟨as, hr⟩ := Dps.reads I hs rv
    exact ⟨_, .tuple h1 h2 h4 (by simpa using hr)⟩
theorem Dps.reads (I : Inv X pins σ H s) : ∀ {vs : List V} {ds : List PyData} {us : List Value}, Dps X.K H vs ds → Vals vs us → ∃ as, ReadsAll s.heap us ds as
  | _, _, _, .nil, r => by cases r; exact ⟨_, .nil⟩
  | _, _, _, .cons h hs, r => by
    cases r with
    | cons r1 r2 =>
      obtain ⟨as, h1⟩ := Dp.reads I h r1
      obtain ⟨bs, h2⟩ := Dps.reads I hs r2
      exact ⟨_, .cons h1 h2⟩
end
/-- x == y of data -/
theorem op_eqD (hu : X.A.units + 64 < cLine) : OpR X (compareOp .Eq) (fun x y H Q => ∃ d e, Dp X.K H x d ∧ Dp X.K H y e ∧ (d.canLay0 && e.canLay0 && decide (d.depth ≤ 64)) = true ∧ Q (.bl (PyData.eqv d e)) H) := by
  intro pins s σ H x y v u Q I rx ry h
  obtain ⟨d, e, hd, he, hc, q⟩ := h
  simp only [Bool.and_eq_true, decide_eq_true_eq] at hc
  obtain ⟨as, r1⟩ := hd.reads I rx
  obtain ⟨bs, r2⟩ := he.reads I ry
  exact SeqAt.compareEq_reads r1 r2 hc.1.1 hc.1.2 (by omega) ⟨.bl _, H, I, rfl, q⟩
theorem op_neD (hu : X.A.units + 64 < cLine) : OpR X (compareOp .NotEq) (fun x y H Q => ∃ d e, Dp X.K H x d ∧ Dp X.K H y e ∧ (d.canLay0 && e.canLay0 && decide (d.depth ≤ 64)) = true ∧ Q (.bl (!PyData.eqv d e)) H) := by
  intro pins s σ H x y v u Q I rx ry h
  obtain ⟨d, e, hd, he, hc, q⟩ := h
  simp only [Bool.and_eq_true, decide_eq_true_eq] at hc
  obtain ⟨as, r1⟩ := hd.reads I rx
  obtain ⟨bs, r2⟩ := he.reads I ry
  exact SeqAt.compareNe_reads r1 r2 hc.1.1 hc.1.2 (by omega) ⟨.bl _, H, I, rfl, q⟩
end
theorem Dps.ints {K : PySem.W.Frag} {H : Hp} : ∀ (ns : List Int), Dps K H (ns.map V.int) (ns.map PyData.int)
  | [] => .nil
  | n :: r => .cons (.int n) (Dps.ints r)
theorem lay_ints : ∀ (ns : List Int), PyData.canLayAll0 (ns.map PyData.int) = true
  | [] => by simp [PyData.canLayAll0]
  | n :: r => by simp [PyData.canLayAll0, PyData.canLay0, lay_ints r]
theorem depth_ints : ∀ (ns : List Int), PyData.depthAll (ns.map PyData.int) = 0
  | [] => by simp [PyData.depthAll]
  | n :: r => by simp [PyData.depthAll, PyData.depth, depth_ints r]
theorem eqv_ints : ∀ (ns ms : List Int), PyData.eqvAll (ns.map PyData.int) (ms.map PyData.int) = decide (ns = ms)
  | [], [] => by simp [PyData.eqvAll]
  | [], _ :: _ => by simp [PyData.eqvAll]
  | _ :: _, [] => by simp [PyData.eqvAll]
  | n :: r, m :: t => by
    simp only [List.map_cons, PyData.eqvAll, PyData.eqv, eqv_ints r t]
    rw [Bool.eq_iff_iff]
    simp

/-! ### dict: setdefault, values; list(d.values()) -/
section
variable {X : Cx}
def rSetDef : V → List V → Hp → VK → Prop := fun x vs H Q => ∃ (a : Addr) (kvs : List (Key × V)) (k : Key) (d : V), x = .ref a ∧ vs = [kV k, d] ∧ H a = some (.dK kvs) ∧ kvs.length < sizeLine ∧
  (∀ v, valV kvs k = some v → Q v H) ∧ (valV kvs k = none → Q d (upd H a (.dK (putK kvs k d))))
theorem mt_setdefault : MtM X "dict.setdefault" rSetDef := by
  intro pins s σ H x vs v us Q I rx rv h
  obtain ⟨a, kvs, k, d, rfl, rfl, e, hl, h1, h2⟩ := h
  cases rx
  obtain ⟨u, w', rfl, ru, rd⟩ := rv.two
  obtain ⟨z, hd, ws, rel, dd⟩ := dk_of I.hok e
  refine call_meetsIn PySem.F.slot_dict_setdefault dd.typeIs PySem.F.entry_dict_setdefault (PySem.F.args_dict_setdefault_3 _ _ _) (kt_meets_setdefault (mixKind X.prog X.w) a (kV_is ru) hd w') ⟨ws, dd, by rw [← rel.length]; exact z, fun y hy => ?_, fun hn h' dd' hs => ?_⟩
  · have q := rel.val k
    rw [hy] at q
    cases ev : valV kvs k with
    | none => rw [ev] at q; exact q.elim
    | some v0 =>
      rw [ev] at q
      exact ⟨v0, H, I.tok _, q, h1 v0 ev⟩
  · have q := rel.val k
    rw [hn] at q
    cases ev : valV kvs k with
    | some v0 => rw [ev] at q; exact q.elim
    | none =>
      have hz : (putK kvs k d).length ≤ sizeLine := by have := length_putK kvs k d; omega
      have he : ∃ q, h'.get? a = some q := let ⟨q, _, _, hq, _⟩ := dd'; ⟨q, hq⟩
      exact ⟨d, _, d_write (t' := s.toks + 1) I (by rw [e]; exact True.intro) hs he (dk_new hz hd (rel.put k rd) dd'), rd, h2 ev⟩
theorem kv_vals {kvs : List (Key × V)} {ws : List (Key × Value)} (rel : KV kvs ws) : Vals (kvs.map (·.2)) (ws.map (·.2)) := by
  induction rel with
  | nil => exact .nil
  | cons r _ ih => exact .cons r.2 ih
/-- the view d.values() -/
def vvO (v d : Addr) : HO := .ext fun h => h.IsValuesView v d
def rValues : V → List V → Hp → VK → Prop := fun x vs H Q => ∃ (a : Addr) (kvs : List (Key × V)), x = .ref a ∧ vs = [] ∧ H a = some (.dK kvs) ∧ ∀ v, H v = none → Q (.ref v) (upd H v (vvO v a))
theorem mt_values : MtM X "dict.values" rValues := by
  intro pins s σ H x vs v us Q I rx rv h
  obtain ⟨a, kvs, rfl, rfl, e, q⟩ := h
  cases rx
  have := rv.zero
  subst this
  obtain ⟨z, hd, ws, rel, dd⟩ := dk_of I.hok e
  refine call_meetsIn PySem.F.slot_dict_values dd.typeIs PySem.F.entry_dict_values (PySem.F.args_dict_values_1 _) (meets_dict_values (mixKind X.prog X.w) a hd) ⟨⟨ws, dd⟩, ?_⟩
  have hv : (s.heap.push { cls := .type "dict_values", data := .fields #[.ref a] }).IsValuesView s.heap.objs.size a := ⟨_, Heap.get?_push_size _ rfl, rfl, rfl⟩
  refine ⟨.ref s.heap.objs.size, _, I.laid (t' := s.toks) (o := vvO s.heap.objs.size a) (fun b o q => Heap.get?_push_of_some _ q) (Nat.le_refl _) ?_, rfl, q _ (I.hok.fresh (Nat.le_refl _))⟩
  exact ⟨hv, ⟨_, Heap.get?_push_size _ rfl⟩, fun h1 h2 p k => let ⟨o, ho, r⟩ := p; ⟨o, k o ho, r⟩⟩
theorem call_list_values : CallR X (.type "list") (fun xs H Q => ∃ (v a : Addr) (kvs : List (Key × V)), xs = [.ref v] ∧ H v = some (vvO v a) ∧ H a = some (.dK kvs) ∧ X.calm = true ∧ ∀ l, H l = none → Q (.ref l) (upd H l (.lst (kvs.map (·.2))))) := by
  intro pins s σ H xs us Q I r h
  obtain ⟨v, a, kvs, rfl, hv, e, hc, q⟩ := h
  obtain ⟨u, rfl, ru⟩ := vals1 r
  cases ru
  obtain ⟨z, hd, ws, rel, dd⟩ := dk_of I.hok e
  obtain ⟨hvv, _, _⟩ : s.heap.IsValuesView v a ∧ _ ∧ _ := I.hok v _ hv
  obtain ⟨ep, hat⟩ := dd.dictAt
  refine PySem.W.kdl_call (PySem.W.kdl_values (knd := mixKind X.prog X.w) (kvs := ws) (ep := ep)) (I.ok.hd hc) ⟨hvv, hat⟩ (by rw [← rel.length]; exact z) fun h' tk acc' c' hk hD hacc => ?_
  have ev : acc'.toList = ws.map (·.2) := PySem.W.kdl_vals_eq acc'.toList (by rw [Array.length_toList]; exact hacc.1) fun j v ej => hacc.2 j v (by rw [← Array.getElem?_toList]; exact ej)
  have rv : Vals (kvs.map (·.2)) (ws.map (·.2)) := kv_vals rel
  refine ⟨.ref s.heap.objs.size, _, I.laid (t' := tk) (o := .lst (kvs.map (·.2))) hk (Nat.le_refl _) ?_, rfl, q _ (I.hok.fresh (Nat.le_refl _))⟩
  refine ⟨by rw [List.length_map]; exact z, ws.map (·.2), c', rv, ?_⟩
  rw [← ev]
  exact hD
end
end L2


set_option Elab.async false
set_option linter.all false
set_option maxRecDepth 100000
namespace L2
open PySem PySem.Spec PyProof.Rows
/-! ### a def under its global name -/
def Df (P : Program) (w : World) (K : PySem.W.Frag) (mg : Str → Option Value) (base : Heap) (k : Nat) (x : Str) (ps : List Str) (sp : Sp) : Prop :=
  ∃ f fd, FnOk P w K mg base CX0 k f fd ps sp ∧ Binds K fd ps [] ∧ PySem.W.keepIn K (.ref f) = true ∧ mg x = some (.ref f)
section
variable {P : Program} {w : World} {K : PySem.W.Frag} {mg : Str → Option Value} {base : Heap} {j k : Nat} {x : Str} {ps : List Str} {sp sp' : Sp}
theorem Df.mono (D : Df P w K mg base j x ps sp) (h : j ≤ k) : Df P w K mg base k x ps sp := let ⟨f, fd, F, r⟩ := D; ⟨f, fd, F.mono h, r⟩
theorem Df.imp (D : Df P w K mg base k x ps sp) (h : ∀ vs H Q E, sp' vs H Q E → sp vs H Q E) : Df P w K mg base k x ps sp' := let ⟨f, fd, F, r⟩ := D; ⟨f, fd, F.imp h, r⟩
end
section
variable {X : Cx} {k : Nat} {x : Str} {ps : List Str} {sp : Sp} {e : Expr} {es : List Expr} {t : TA} {p pos : Pos}
theorem pe_df (D : Df X.prog X.w X.K X.mg X.base k x ps sp) (hr : Room k X.A) (ha : PA X (e :: es) t) (hg : Gl X x := by rfl) (hdb : (x == ("__debug__" : Str)) = false := by decide)
    (he : starEach (e :: es) X.env = (false, eval e X.env) :: starEach es X.env := by rfl) (hpl : (backTo pos (starEach es X.env)).any (·.1) = false := by rfl) :
    PE X (.Call (.Name x p) (e :: es) [] pos) (fun σ H Q => t σ H fun vs H1 => sp vs H1 Q E0) := by
  obtain ⟨f, fd, F, hb, hk, hm⟩ := D
  intro pins s σ H Q I h
  exact pe_call F hr hg hm hk hb .nil pass0 ha hdb he hpl pins s σ H Q I (by unfold tCall; simpa using h)
end
/-! ### cuts -/
section
variable {X : Cx}
theorem cutS {st : Stmt} {t : TS} (h : PS X st t) : PS X st (fun D σ H => ∃ J : St → Hp → Prop, t { D with nx := J } σ H ∧ ∀ σ' H', J σ' H' → D.nx σ' H') := by
  rintro pins s σ H D I ⟨J, q, k⟩
  refine thn (h pins s σ H _ I q) fun f s' z => ?_
  cases f with
  | next => obtain ⟨σ', H', I', z⟩ := z; exact ⟨σ', H', I', k _ _ z⟩
  | brk => exact z
  | cont => exact z
  | ret u => exact z
theorem cutE {e : Expr} {t : TE} (h : PE X e t) : PE X e (fun σ H Q => ∃ J : V → Hp → Prop, t σ H J ∧ ∀ v H', J v H' → Q v H') := by
  rintro pins s σ H Q I ⟨J, q, k⟩
  exact thn (h pins s σ H _ I q) fun u s' ⟨v, H', I', r, z⟩ => ⟨v, H', I', r, k v H' z⟩
theorem cutT {e : Expr} {t : TT} (h : PT X e t) : PT X e (fun σ H Q => ∃ J : Bool → Hp → Prop, t σ H J ∧ ∀ v H', J v H' → Q v H') := by
  rintro pins s σ H Q I ⟨J, q, k⟩
  exact thn (h pins s σ H _ I q) fun u s' ⟨H', I', z⟩ => ⟨H', I', k u H' z⟩
end
/-! ### heaps -/
/-- all but what stands at p is as it was -/
def But (p : Addr) (H H' : Hp) : Prop := ∀ b o, b ≠ p → H b = some o → H' b = some o
section
variable {p : Addr} {H H' H'' : Hp}
theorem But.refl : But p H H := fun _ _ _ h => h
theorem But.trans (h : But p H H') (g : But p H' H'') : But p H H'' := fun b o n e => g b o n (h b o n e)
theorem But.upd {o : HO} (h : But p H H') : But p H (L2.upd H' p o) := fun b u n e => by rw [upd_ne n]; exact h b u n e
theorem But.lay {q : Addr} {o : HO} (h : But p H H') (hq : H q = none) : But p H (L2.upd H' q o) := fun b u n e => by rw [upd_ne (ne_of_none e hq)]; exact h b u n e
theorem same_new {q : Addr} (h : H q = none) (o : HO) : Same H (L2.upd H q o) := fun b u e => by rw [upd_ne (ne_of_none e h)]; exact e
theorem Same.but (h : Same H H') : But p H H' := fun b o _ e => h b o e
end
theorem le_line {n : Nat} (h : n ≤ 1000000) : n ≤ sizeLine := by rw [sizeLine_eq]; omega
theorem lt_line {n : Nat} (h : n ≤ 1000000) : n < sizeLine := by rw [sizeLine_eq]; omega
/-! ### a comprehension's names -/
def compOk (N : List Str) (names : List (Str × NameKind)) (own : List Str) (cap : List (Str × Nat)) (scope : Scope) : Bool :=
  (scope.kind == .function) && scope.names.all (fun y => (y.2 != .cell || scope.names.lookup y.1 == some .cell) && (y.2 != .local || scope.names.lookup y.1 == some .local) && (y.2 != .free || scope.names.lookup y.1 == some .free) && (y.2 != .free || (names.lookup y.1 == some .cell || names.lookup y.1 == some .free)))
  && cap.all fun p => N[p.2]? == some p.1 && scope.names.lookup p.1 == some .free && (names.lookup p.1 == some .cell || names.lookup p.1 == some .free)
theorem cscope {X : Cx} {own : List Str} {cap : List (Str × Nat)} {scope : Scope} (h : compOk X.N X.env.scope.names own cap scope = true) : CompScope X (own ++ cap.map (·.1)) own cap scope := by
  unfold compOk at h
  simp only [Bool.and_eq_true, List.all_eq_true, Bool.or_eq_true, bne_iff_ne, beq_iff_eq] at h
  obtain ⟨⟨h1, h2⟩, h3⟩ := h
  exact ⟨h1, fun y hy hl => (h2 y hy).1.1.1.resolve_left fun z => z hl, fun y hy hl => (h2 y hy).1.2.resolve_left fun z => z hl, fun y hy hl => (h2 y hy).1.1.2.resolve_left fun z => z hl, fun y hy hl => (h2 y hy).2.resolve_left fun z => z hl, rfl, fun p hp => ⟨(h3 p hp).1.1, (h3 p hp).1.2, (h3 p hp).2⟩⟩
/-! ### rules in short; the written part K is told (within a comprehension's block Lean can't find it) -/
section
variable {X : Cx} {a b e o : Expr} {es : List Expr} {ta tb te to : TE} {t : TA} {p pos : Pos}
/-- xs[i] -/
theorem eIx (K : PySem.W.Frag) (ha : PE X a ta) (hb : PE X b tb) (hs : PlainIx b := by exact fun _ _ => rfl) (hK : X.K = K := by rfl) :
    PE X (.Subscript a b pos) (fun σ H Q => ta σ H fun x H1 => tb σ H1 fun y H2 => ∃ p xs i v, x = .ref p ∧ y = .int i ∧ SqL K H2 p xs ∧ atI xs i = some v ∧ Q v H2) := by
  subst hK; exact pe_ix ix_list ha hb hs
theorem eIxT (K : PySem.W.Frag) (ha : PE X a ta) (hb : PE X b tb) (hs : PlainIx b := by exact fun _ _ => rfl) (hK : X.K = K := by rfl) :
    PE X (.Subscript a b pos) (fun σ H Q => ta σ H fun x H1 => tb σ H1 fun y H2 => ∃ p xs i v, x = .ref p ∧ y = .int i ∧ SqT K H2 p xs ∧ atI xs i = some v ∧ Q v H2) := by
  subst hK; exact pe_ix ix_tup ha hb hs
/-- len(xs) of a list or tuple -/
theorem eLen (K : PySem.W.Frag) (ml : X.mg "len" = none) (ha : PE X a ta) (hg : Gl X "len" := by rfl) (hs : starEach [a] X.env = [(false, eval a X.env)] := by rfl) (hK : X.K = K := by rfl) :
    PE X (.Call (.Name "len" p) [a] [] pos) (fun σ H Q => ta σ H fun x H1 => ∃ p ys, [x] = [V.ref p] ∧ (SqL K H1 p ys ∨ SqT K H1 p ys) ∧ Q (.int ys.length) H1) := by
  subst hK
  exact pe_callB call_len_seq hg ml PySem.boot_len (pa_cons ha pa_nil hs) (he := hs)
/-- list(xs) -/
theorem eList (K : PySem.W.Frag) (ml : X.mg "list" = none) (ha : PE X a ta) (hg : Gl X "list" := by rfl) (hs : starEach [a] X.env = [(false, eval a X.env)] := by rfl) (hK : X.K = K := by rfl) :
    PE X (.Call (.Name "list" p) [a] [] pos) (fun σ H Q => ta σ H fun x H1 => ∃ p ys, [x] = [V.ref p] ∧ (SqL K H1 p ys ∨ SqT K H1 p ys) ∧ ∀ l, H1 l = none → Q (.ref l) (upd H1 l (.lst ys))) := by
  subst hK
  exact pe_callTy call_list_of hg ml rfl (pa_cons ha pa_nil hs) (he := hs)
/-- min, max of two -/
theorem eMin (ml : X.mg "min" = none) (ha : PE X a ta) (hb : PE X b tb) (hc : X.calm = true := by rfl) (hg : Gl X "min" := by rfl) (hs : starEach [a, b] X.env = [(false, eval a X.env), (false, eval b X.env)] := by rfl) (hs2 : starEach [b] X.env = [(false, eval b X.env)] := by rfl) :
    PE X (.Call (.Name "min" p) [a, b] [] pos) (fun σ H Q => ta σ H fun x H1 => tb σ H1 fun y H2 => ∃ i j, [x, y] = [.int i, .int j] ∧ Q (.int (if j < i then j else i)) H2) := by
  exact pe_callB (call_min2 hc) hg ml rfl (pa_cons ha (pa_cons hb pa_nil hs2) (by rw [hs, hs2])) (he := by rw [hs, hs2]) (hpl := by rw [hs2]; rfl)
theorem eMax (ml : X.mg "max" = none) (ha : PE X a ta) (hb : PE X b tb) (hc : X.calm = true := by rfl) (hg : Gl X "max" := by rfl) (hs : starEach [a, b] X.env = [(false, eval a X.env), (false, eval b X.env)] := by rfl) (hs2 : starEach [b] X.env = [(false, eval b X.env)] := by rfl) :
    PE X (.Call (.Name "max" p) [a, b] [] pos) (fun σ H Q => ta σ H fun x H1 => tb σ H1 fun y H2 => ∃ i j, [x, y] = [.int i, .int j] ∧ Q (.int (if j > i then j else i)) H2) := by
  exact pe_callB (call_max2 hc) hg ml rfl (pa_cons ha (pa_cons hb pa_nil hs2) (by rw [hs, hs2])) (he := by rw [hs, hs2]) (hpl := by rw [hs2]; rfl)
/-- xs[lo:hi] -/
theorem eSl (K : PySem.W.Frag) {lo hi : Option Expr} {tl th : TO} {p2 : Pos} (he : PE X e te) (hl : PO X lo tl) (hu : PO X hi th) (hK : X.K = K := by rfl) :
    PE X (.Subscript e (.Slice lo hi none p2) pos) (tSl (rSlL K) te tl th) := by
  subst hK; exact pe_slice sl_list he hl hu
/-- x == y, x != y of data -/
theorem tEqD (K : PySem.W.Frag) {k : Nat} (hr : Room k X.A) (ha : PE X a ta) (hb : PE X b tb) (hK : X.K = K := by rfl) :
    PT X (.Compare a [.Eq] [b] pos) (fun σ H Q => ta σ H fun x H1 => tb σ H1 fun y H2 => ∃ d e, Dp K H2 x d ∧ Dp K H2 y e ∧ (d.canLay0 && e.canLay0 && decide (d.depth ≤ 64)) = true ∧ Q (PyData.eqv d e) H2) := by
  subst hK
  rintro pins s σ H Q I h
  refine pt_cmpR (op_eqD hr.units) ha hb (nomark _) pins s σ H Q I ?_
  unfold tTest tOp
  have : ∀ x y H2, (∃ d e, Dp X.K H2 x d ∧ Dp X.K H2 y e ∧ (d.canLay0 && e.canLay0 && decide (d.depth ≤ 64)) = true ∧ Q (PyData.eqv d e) H2) = (∃ d e, Dp X.K H2 x d ∧ Dp X.K H2 y e ∧ (d.canLay0 && e.canLay0 && decide (d.depth ≤ 64)) = true ∧ ∃ k, V.bl (PyData.eqv d e) = .bl k ∧ Q k H2) := by
    intro x y H2; exact propext ⟨fun ⟨d, e, a, b, c, q⟩ => ⟨d, e, a, b, c, _, rfl, q⟩, fun ⟨d, e, a, b, c, k, z, q⟩ => by cases z; exact ⟨d, e, a, b, c, q⟩⟩
  simp only [this] at h
  exact h
theorem tNeD (K : PySem.W.Frag) {k : Nat} (hr : Room k X.A) (ha : PE X a ta) (hb : PE X b tb) (hK : X.K = K := by rfl) :
    PT X (.Compare a [.NotEq] [b] pos) (fun σ H Q => ta σ H fun x H1 => tb σ H1 fun y H2 => ∃ d e, Dp K H2 x d ∧ Dp K H2 y e ∧ (d.canLay0 && e.canLay0 && decide (d.depth ≤ 64)) = true ∧ Q (!PyData.eqv d e) H2) := by
  subst hK
  rintro pins s σ H Q I h
  refine pt_cmpR (op_neD hr.units) ha hb (nomark _) pins s σ H Q I ?_
  unfold tTest tOp
  have : ∀ x y H2, (∃ d e, Dp X.K H2 x d ∧ Dp X.K H2 y e ∧ (d.canLay0 && e.canLay0 && decide (d.depth ≤ 64)) = true ∧ Q (!PyData.eqv d e) H2) = (∃ d e, Dp X.K H2 x d ∧ Dp X.K H2 y e ∧ (d.canLay0 && e.canLay0 && decide (d.depth ≤ 64)) = true ∧ ∃ k, V.bl (!PyData.eqv d e) = .bl k ∧ Q k H2) := by
    intro x y H2; exact propext ⟨fun ⟨d, e, a, b, c, q⟩ => ⟨d, e, a, b, c, _, rfl, q⟩, fun ⟨d, e, a, b, c, k, z, q⟩ => by cases z; exact ⟨d, e, a, b, c, q⟩⟩
  simp only [this] at h
  exact h
theorem eEqD (K : PySem.W.Frag) {k : Nat} (hr : Room k X.A) (ha : PE X a ta) (hb : PE X b tb) (hK : X.K = K := by rfl) :
    PE X (.Compare a [.Eq] [b] pos) (fun σ H Q => ta σ H fun x H1 => tb σ H1 fun y H2 => ∃ d e, Dp K H2 x d ∧ Dp K H2 y e ∧ (d.canLay0 && e.canLay0 && decide (d.depth ≤ 64)) = true ∧ Q (.bl (PyData.eqv d e)) H2) := by
  subst hK; exact pe_cmpR (op_eqD hr.units) ha hb (nomark _)
/-- ints compared -/
theorem cLt (ha : PE X a ta) (hb : PE X b tb) : PT X (.Compare a [.Lt] [b] pos) (tTest (tOp (rI0 fun i j => .bl (decide (i < j))) ta tb)) := pt_cmpR op_lt ha hb (nomark _)
theorem cGt (ha : PE X a ta) (hb : PE X b tb) : PT X (.Compare a [.Gt] [b] pos) (tTest (tOp (rI0 fun i j => .bl (decide (j < i))) ta tb)) := pt_cmpR op_gt ha hb (nomark _)
theorem cEq (ha : PE X a ta) (hb : PE X b tb) : PT X (.Compare a [.Eq] [b] pos) (tTest (tOp rEq ta tb)) := pt_cmpR op_eq ha hb (nomark _)
/-- loops over a list, a tuple; a tuple target -/
theorem iL (K : PySem.W.Frag) {tg : Expr} (ha : PE X a ta) (hK : X.K = K := by rfl) : PI X tg a (iList K ta) := by subst hK; exact pi_list ha
theorem iT (K : PySem.W.Frag) {tg : Expr} (ha : PE X a ta) (hK : X.K = K := by rfl) : PI X tg a (iTup K ta) := by subst hK; exact pi_tup ha
theorem iR (mr : X.mg "range" = none) {tg : Expr} (ha : PE X a ta) (hg : Gl X "range" := by rfl) (hs : starEach [a] X.env = [(false, eval a X.env)] := by rfl) : PI X tg (.Call (.Name "range" p) [a] [] pos) (iRng1 (tCons ta tNil)) := pi_range1 hg mr (pa_cons ha pa_nil hs) hs
/-- xs.append(e) -/
theorem eApp (K : PySem.W.Frag) {apos : Pos} (ho : PE X o to) (ha : PE X a ta) (hs : starEach [a] X.env = [(false, eval a X.env)] := by rfl)
    (hbase : attributeBase o "append" X.env (eval o X.env) = eval o X.env := by rfl) (hline : (apos.endLine == pos.line) = true := by rfl) (hK : X.K = K := by rfl)
    (hfew : ((backTo pos (starEach [a] X.env)).all (fun x => !x.1) && (backToKw pos (keywordEach [] X.env)).all (fun x => x.1.isSome)
      && decide ([a].length + ([] : List Keyword).length + (if ([] : List Keyword).isEmpty then 0 else 1) < 30)) = true := by rfl) :
    PE X (.Call (.Attribute o "append" apos) [a] [] pos) (tBM K "list" rAppend to (tCons ta tNil)) := by
  subst hK
  exact pe_bm PySem.F.plainAttrs_list PySem.F.slot_list_append PySem.F.type_list_append mt_append ho (pa_cons ha pa_nil hs) hbase hfew hline hs
/-- xs.pop(i) -/
theorem ePopAt (K : PySem.W.Frag) {apos : Pos} (ho : PE X o to) (ha : PE X a ta) (hs : starEach [a] X.env = [(false, eval a X.env)] := by rfl)
    (hbase : attributeBase o "pop" X.env (eval o X.env) = eval o X.env := by rfl) (hline : (apos.endLine == pos.line) = true := by rfl) (hK : X.K = K := by rfl)
    (hfew : ((backTo pos (starEach [a] X.env)).all (fun x => !x.1) && (backToKw pos (keywordEach [] X.env)).all (fun x => x.1.isSome)
      && decide ([a].length + ([] : List Keyword).length + (if ([] : List Keyword).isEmpty then 0 else 1) < 30)) = true := by rfl) :
    PE X (.Call (.Attribute o "pop" apos) [a] [] pos) (tBM K "list" rPopAt to (tCons ta tNil)) := by
  subst hK
  exact pe_bm PySem.F.plainAttrs_list PySem.F.slot_list_pop PySem.F.type_list_pop mt_popAt ho (pa_cons ha pa_nil hs) hbase hfew hline hs
end
end L2


set_option Elab.async false
set_option linter.all false
set_option maxRecDepth 100000
namespace L2
open PySem PySem.Spec PyProof.Rows
/-! ### the laws' own drawing: a pot of three ints -/
def Pot (H : Hp) (p : Addr) : Prop := ∃ a b c : Int, H p = some (.lst [.int a, .int b, .int c])
def spPot : Sp := fun vs H Q _ => ∃ c : Int, vs = [.int c] ∧ ∀ p a b, H p = none → Q (.ref p) (upd H p (.lst [.int a, .int b, .int 0]))
/-- drawn from the pot at p, nothing else -/
structure Took (p : Addr) (H H' : Hp) : Prop where
  eq : ∀ b, b ≠ p → H' b = H b
  pot : Pot H' p
theorem Took.mk' {p : Addr} {H : Hp} {a b c : Int} : Took p H (upd H p (.lst [.int a, .int b, .int c])) := ⟨fun _ n => upd_ne n, a, b, c, upd_same⟩
def spTake : Sp := fun vs H Q _ => ∃ (p : Addr) (m : Int), vs = [.ref p, .int m] ∧ Pot H p ∧ 0 < m ∧ m < 1073741824 ∧ ∀ (r : Int) (H' : Hp), 0 ≤ r → r < m → Took p H H' → Q (.int r) H'
/-- drawn from the pot at p, some things laid -/
structure Drawn (p : Addr) (H H' : Hp) : Prop where
  but : But p H H'
  pot : Pot H' p
section
variable {p q : Addr} {H H' H'' : Hp}
theorem Pot.ne (h : Pot H p) (hq : H q = none) : p ≠ q := let ⟨_, _, _, e⟩ := h; ne_of_none e hq
theorem Pot.some (h : Pot H p) : H p ≠ none := let ⟨_, _, _, e⟩ := h; by rw [e]; simp
theorem Drawn.refl (h : Pot H p) : Drawn p H H := ⟨.refl, h⟩
theorem Drawn.trans (h : Drawn p H H') (g : Drawn p H' H'') : Drawn p H H'' := ⟨h.but.trans g.but, g.pot⟩
theorem Drawn.took (h : Drawn p H H') (t : Took p H' H'') : Drawn p H H'' := ⟨fun b o n e => by rw [t.eq b n]; exact h.but b o n e, t.pot⟩
theorem Took.keep {o : HO} (t : Took p H H') (n : q ≠ p) (h : H q = .some o) : H' q = .some o := by rw [t.eq q n]; exact h
theorem Took.free (t : Took p H H') (h : H' q = none) : H q = none := by
  by_cases n : q = p
  · subst n; exact absurd h t.pot.some
  · rw [← t.eq q n]; exact h
theorem Drawn.free (h : Drawn p H H') (hq : H' q = none) : H q = none := by
  cases e : H q with
  | none => rfl
  | some o =>
    by_cases n : q = p
    · subst n; exact absurd hq h.pot.some
    · rw [h.but q o n e] at hq; cases hq
theorem Drawn.ne (h : Drawn p H H') (hp : Pot H p) (hq : H q = none) : q ≠ p := fun e => hp.ne hq e.symm
/-- something laid that was not there at the start -/
theorem Drawn.lay {o : HO} (h : Drawn p H H') (hq : H q = none) (hp : Pot H p) : Drawn p H (upd H' q o) :=
  ⟨h.but.lay hq, let ⟨a, b, c, e⟩ := h.pot; ⟨a, b, c, by rw [upd_ne (hp.ne hq)]; exact e⟩⟩
theorem Drawn.keep {o : HO} (h : Drawn p H H') (e : H q = .some o) (n : q ≠ p) : H' q = .some o := h.but q o n e
end
def spMixed (K : PySem.W.Frag) : Sp := fun vs H Q _ => ∃ (p l : Addr) (ns : List Int), vs = [.ref p, .ref l] ∧ Pot H p ∧ SqL K H l (ns.map V.int) ∧ ns.length ≤ 100000 ∧
  ∀ (r : Addr) (ms : List Int) (H' : Hp), Drawn p H H' → H r = none → H' r = some (.lst (ms.map V.int)) → ms.length = ns.length → Q (.ref r) H'
def spKinds : Sp := fun vs H Q _ => ∃ (p : Addr) (m : Int), vs = [.ref p, .int m] ∧ Pot H p ∧ 0 ≤ m ∧ m ≤ 1000 ∧
  ∀ (r : Addr) (ms : List Int) (H' : Hp), Drawn p H H' → H r = none → H' r = some (.lst (ms.map V.int)) → ms.length ≤ 1000 → Q (.ref r) H'
theorem map_erase : ∀ {ls : List Int} {k : Nat}, (ls.map V.int).eraseIdx k = (ls.eraseIdx k).map V.int
  | [], _ => rfl
  | _ :: _, 0 => rfl
  | x :: r, k + 1 => by simp [map_erase (ls := r) (k := k)]
theorem at_ints {ns : List Int} {r : Int} (h0 : 0 ≤ r) (h1 : r < (ns.length : Int)) : ∃ v, atI (ns.map V.int) r = some (.int v) := by
  have hk : r.toNat < ns.length := by omega
  have := atI_nat (xs := ns.map V.int) (j := r.toNat) (v := .int ns[r.toNat]) (by simp [hk])
  have er : ((r.toNat : Nat) : Int) = r := by omega
  rw [er] at this
  exact ⟨_, this⟩
theorem at_get {xs : List V} {r : Int} (h0 : 0 ≤ r) (h1 : r < (xs.length : Int)) : atI xs r = some (xs[r.toNat]'(by omega)) := by
  have hk : r.toNat < xs.length := by omega
  have := atI_nat (xs := xs) (j := r.toNat) (v := xs[r.toNat]) (by simp [hk])
  have er : ((r.toNat : Nat) : Int) = r := by omega
  rw [er] at this
  exact this
theorem mod_small {x m : Int} (h : 0 < m) (h' : m < 2 ^ 40) : -(2 ^ 64) < x % m ∧ x % m < 2 ^ 64 := by
  have a := Int.emod_nonneg x (b := m) (by omega)
  have b := Int.emod_lt_of_pos x h
  omega
theorem seq_ix {n : Nat} {r : Int} (h0 : 0 ≤ r) (h1 : r < (n : Int)) : seqIndex? r n = some r.toNat := seqIndex_of h0 h1
section
variable {X : Cx} {a : Expr} {ta : TE} {p pos : Pos}
/-- sorted(ints) -/
theorem eSorted (K : PySem.W.Frag) (ml : X.mg "sorted" = none) (ha : PE X a ta) (hg : Gl X "sorted" := by rfl) (hs : starEach [a] X.env = [(false, eval a X.env)] := by rfl) (hK : X.K = K := by rfl) :
    PE X (.Call (.Name "sorted" p) [a] [] pos) (fun σ H Q => ta σ H fun x H1 => ∃ (p : Addr) (ns : List Int), [x] = [.ref p] ∧ SqL K H1 p (ns.map V.int) ∧ ∀ (l : Addr) (ms : List Int), H1 l = none → ms.length = ns.length → Q (.ref l) (upd H1 l (.lst (ms.map V.int)))) := by
  subst hK
  exact pe_callB call_sortedW hg ml rfl (pa_cons ha pa_nil hs) (he := hs)
/-- isinstance(x, C), isinstance(x, (C, ..)) -/
theorem eIsi (K : PySem.W.Frag) (ml : X.mg "isinstance" = none) {b : Expr} {tb : TE} (ha : PE X a ta) (hb : PE X b tb) (hg : Gl X "isinstance" := by rfl) (hs : starEach [a, b] X.env = [(false, eval a X.env), (false, eval b X.env)] := by rfl) (hs2 : starEach [b] X.env = [(false, eval b X.env)] := by rfl) (hK : X.K = K := by rfl) :
    PE X (.Call (.Name "isinstance" p) [a, b] [] pos) (fun σ H Q => ta σ H fun x H1 => tb σ H1 fun y H2 => ∃ (x' : V) (t : String) (c : String), [x, y] = [x', .ty c] ∧ TyN K H2 x' t ∧ clNames.contains c = true ∧ Q (.bl (subT t c)) H2) := by
  subst hK
  exact pe_callB call_isi hg ml rfl (pa_cons ha (pa_cons hb pa_nil hs2) (by rw [hs, hs2])) (he := by rw [hs, hs2]) (hpl := by rw [hs2]; rfl)
theorem eIsiT (K : PySem.W.Frag) (ml : X.mg "isinstance" = none) {b : Expr} {tb : TE} (ha : PE X a ta) (hb : PE X b tb) (hg : Gl X "isinstance" := by rfl) (hs : starEach [a, b] X.env = [(false, eval a X.env), (false, eval b X.env)] := by rfl) (hs2 : starEach [b] X.env = [(false, eval b X.env)] := by rfl) (hK : X.K = K := by rfl) :
    PE X (.Call (.Name "isinstance" p) [a, b] [] pos) (fun σ H Q => ta σ H fun x H1 => tb σ H1 fun y H2 => ∃ (x' : V) (t : String) (p : Addr) (cs : List String), [x, y] = [x', .ref p] ∧ SqT K H2 p (cs.map V.ty) ∧ TyN K H2 x' t ∧ cs.all clNames.contains = true ∧ Q (.bl (cs.any (subT t))) H2) := by
  subst hK
  exact pe_callB call_isiT hg ml rfl (pa_cons ha (pa_cons hb pa_nil hs2) (by rw [hs, hs2])) (he := by rw [hs, hs2]) (hpl := by rw [hs2]; rfl)
/-- a tuple of targets -/
theorem gT (K : PySem.W.Frag) {es : List Expr} {k : Nat} {t : TGs} {n : Nat} (h : PGs X es t) (hc : X.calm = true := by rfl) (hn : (assignEach es X.env).length = n := by rfl) (hst : (assignEach es X.env).findIdx? (·.1) = none := by rfl) (hK : X.K = K := by rfl) :
    PG X (.Tuple es k pos) (gTup K n t) := by subst hK; exact pg_tup hc h hn hst
/-- xs[::-1] -/
theorem eRev (K : PySem.W.Frag) {p2 p3 p4 : Pos} {j : Nat} (he : PE X a ta) (hK : X.K = K := by rfl) :
    PE X (.Subscript a (.Slice none none (some (.UnaryOp .USub (.Constant (.int 1) j p4) p3)) p2) pos) (fun σ H Q => ta σ H fun x H1 => ∃ (q : Addr) (xs : List V), x = .ref q ∧ SqL K H1 q xs ∧ ∀ p, H1 p = none → Q (.ref p) (upd H1 p (.lst xs.reverse))) := by
  subst hK; exact pe_rev he
/-- enumerate, zip -/
theorem iEn (K : PySem.W.Frag) (ml : X.mg "enumerate" = none) {elts : List Expr} {k : Nat} {tpos : Pos} (ha : PE X a ta) (hg : Gl X "enumerate" := by rfl) (hs : starEach [a] X.env = [(false, eval a X.env)] := by rfl) (hK : X.K = K := by rfl) :
    PI X (.Tuple elts k tpos) (.Call (.Name "enumerate" p) [a] [] pos) (iEnum K (tCons ta tNil)) := by
  subst hK; exact pi_enum hg ml (pa_cons ha pa_nil hs) hs
theorem iZ (K : PySem.W.Frag) (ml : X.mg "zip" = none) {b : Expr} {tb : TE} {elts : List Expr} {k : Nat} {tpos : Pos} (ha : PE X a ta) (hb : PE X b tb) (hg : Gl X "zip" := by rfl) (hs : starEach [a, b] X.env = [(false, eval a X.env), (false, eval b X.env)] := by rfl) (hs2 : starEach [b] X.env = [(false, eval b X.env)] := by rfl) (hK : X.K = K := by rfl) :
    PI X (.Tuple elts k tpos) (.Call (.Name "zip" p) [a, b] [] pos) (iZip K (tCons ta (tCons tb tNil))) := by
  subst hK; exact pi_zip hg ml (pa_cons ha (pa_cons hb pa_nil hs2) (by rw [hs, hs2])) hs hs2
end
section
variable {K : PySem.W.Frag} {g : TG} {te : TE} {D : Addr} {σ0 : St} {H0 : Hp} {Z : Hp → Prop}
theorem comp_rangeT {lo : Int} {n : Nat} (Pv : Nat → St → Hp → Prop) (h0 : Pv 0 σ0 (upd H0 D (.lst [])))
    (hs : ∀ i σ H, i < n → Pv i σ H → g (.int (lo + i)) σ H fun σ2 H2 => te σ2 H2 fun v H4 => ∃ ys, H4 D = some (.lst ys) ∧ ys.length < sizeLine ∧ Pv (i + 1) σ2 (upd H4 D (.lst (ys ++ [v]))))
    (hd : ∀ σ H, Pv n σ H → Z H) : CompTurns (Itr lo n) g tYes te D σ0 H0 Z := by
  refine comp_range Pv h0 (fun i σ H hi p => ?_) hd
  simpa only [tYes, if_true] using hs i σ H hi p
theorem comp_listT {a : Addr} {xs : List V} (Pv : Nat → St → Hp → Prop) (h0 : Pv 0 σ0 (upd H0 D (.lst []))) (hl : ∀ i σ H, i ≤ xs.length → Pv i σ H → SqL K H a xs)
    (hs : ∀ i x σ H, xs[i]? = some x → Pv i σ H → g x σ H fun σ2 H2 => te σ2 H2 fun v H4 => ∃ ys, H4 D = some (.lst ys) ∧ ys.length < sizeLine ∧ Pv (i + 1) σ2 (upd H4 D (.lst (ys ++ [v]))))
    (hd : ∀ σ H, Pv xs.length σ H → Z H) : CompTurns (Itl K a) g tYes te D σ0 H0 Z := by
  refine comp_list Pv h0 hl (fun i x σ H hi p => ?_) hd
  simpa only [tYes, if_true] using hs i x σ H hi p
end
/-! ### lists of ints, not named -/
def AllI (xs : List V) : Prop := ∀ x ∈ xs, ∃ i, x = V.int i
theorem allI_map (ns : List Int) : AllI (ns.map V.int) := fun x hx => by
  obtain ⟨i, _, rfl⟩ := List.mem_map.mp hx
  exact ⟨i, rfl⟩
theorem AllI.ints : ∀ {xs : List V}, AllI xs → ∃ ns : List Int, xs = ns.map V.int
  | [], _ => ⟨[], rfl⟩
  | x :: r, h => by
    obtain ⟨i, rfl⟩ := h x List.mem_cons_self
    obtain ⟨ns, rfl⟩ := AllI.ints (xs := r) fun y hy => h y (List.mem_cons_of_mem _ hy)
    exact ⟨i :: ns, rfl⟩
theorem AllI.nil : AllI [] := fun _ h => by simp at h
theorem AllI.snoc {xs : List V} {i : Int} (h : AllI xs) : AllI (xs ++ [.int i]) := fun x hx => by
  rcases List.mem_append.mp hx with z | z
  · exact h x z
  · exact ⟨i, by simpa using z⟩
theorem AllI.app {xs ys : List V} (h : AllI xs) (g : AllI ys) : AllI (xs ++ ys) := fun x hx => (List.mem_append.mp hx).elim (h x) (g x)
theorem AllI.rev {xs : List V} (h : AllI xs) : AllI xs.reverse := fun x hx => h x (List.mem_reverse.mp hx)
theorem AllI.cut {xs : List V} {lo hi : Option Int} (h : AllI xs) : AllI (cutV xs lo hi) := fun x hx => h x (List.mem_of_mem_drop (List.mem_of_mem_take hx))
theorem AllI.rep {xs : List V} {k : Nat} (h : AllI xs) : AllI (List.replicate k xs).flatten := fun x hx => by
  obtain ⟨l, hl, hx⟩ := List.mem_flatten.mp hx
  rw [List.eq_of_mem_replicate hl] at hx
  exact h x hx
theorem pick {xs : List V} {Pd : V → Prop} {r : Int} (h : ∀ x ∈ xs, Pd x) (h0 : 0 ≤ r) (h1 : r < (xs.length : Int)) : ∃ v, atI xs r = some v ∧ Pd v :=
  ⟨_, at_get h0 h1, h _ (List.getElem_mem _)⟩
/-- laid at q, nothing else -/
structure Laid (q : Addr) (o : HO) (H H' : Hp) : Prop where
  was : H q = none
  eq : ∀ b, b ≠ q → H' b = H b
  new : H' q = some o
theorem Laid.of {q : Addr} {o : HO} {H H' : Hp} (h : H q = none) (e : upd H q o = H') : Laid q o H H' := ⟨h, fun b n => by rw [← e, upd_ne n], by rw [← e, upd_same]⟩
theorem Laid.keep {q b : Addr} {o u : HO} {H H' : Hp} (l : Laid q o H H') (h : H b = some u) : H' b = some u := by rw [l.eq b (ne_of_none h l.was)]; exact h
theorem Laid.same {q : Addr} {o : HO} {H H' : Hp} (l : Laid q o H H') : Same H H' := fun _ _ h => l.keep h
theorem Laid.ne {q b : Addr} {o u : HO} {H H' : Hp} (l : Laid q o H H') (h : H b = some u) : b ≠ q := ne_of_none h l.was
theorem Laid.drawn {p q : Addr} {o : HO} {H H' H'' : Hp} (l : Laid q o H' H'') (h : Drawn p H H') : Drawn p H H'' := by
  obtain ⟨a, b, c, e⟩ := h.pot
  exact ⟨fun b u n z => l.keep (h.but b u n z), a, b, c, l.keep e⟩
end L2


set_option Elab.async false
set_option linter.all false
set_option maxRecDepth 100000
namespace L2
open PySem PySem.Spec PyProof.Rows
section
variable {X : Cx} {a b o : Expr} {ta tb to : TE} {p pos : Pos}
/-- d.setdefault(k, x) -/
theorem eSetdef (K : PySem.W.Frag) {apos : Pos} (ho : PE X o to) (ha : PE X a ta) (hb : PE X b tb) (hs : starEach [a, b] X.env = [(false, eval a X.env), (false, eval b X.env)] := by rfl) (hs2 : starEach [b] X.env = [(false, eval b X.env)] := by rfl)
    (hbase : attributeBase o "setdefault" X.env (eval o X.env) = eval o X.env := by rfl) (hline : (apos.endLine == pos.line) = true := by rfl) (hK : X.K = K := by rfl)
    (hfew : ((backTo pos (starEach [a, b] X.env)).all (fun x => !x.1) && (backToKw pos (keywordEach [] X.env)).all (fun x => x.1.isSome)
      && decide ([a, b].length + ([] : List Keyword).length + (if ([] : List Keyword).isEmpty then 0 else 1) < 30)) = true := by rfl) :
    PE X (.Call (.Attribute o "setdefault" apos) [a, b] [] pos) (tBM K "dict" rSetDef to (tCons ta (tCons tb tNil))) := by
  subst hK
  exact pe_bm PySem.F.plainAttrs_dict PySem.F.slot_dict_setdefault PySem.F.type_dict_setdefault mt_setdefault ho (pa_cons ha (pa_cons hb pa_nil hs2) (by rw [hs, hs2])) hbase hfew hline (by rw [hs, hs2]) (by rw [hs2]; rfl)
/-- d.values() -/
theorem e_values (K : PySem.W.Frag) {apos : Pos} (ho : PE X o to) (hbase : attributeBase o "values" X.env (eval o X.env) = eval o X.env := by rfl) (hline : (apos.endLine == pos.line) = true := by rfl) (hK : X.K = K := by rfl) :
    PE X (.Call (.Attribute o "values" apos) [] [] pos) (tBM0 K "dict" rValues to) := by
  subst hK
  exact pe_bm0 PySem.F.plainAttrs_dict PySem.F.slot_dict_values PySem.F.type_dict_values mt_values ho hbase hline
/-- list(d.values()) -/
theorem eListVals (K : PySem.W.Frag) (ml : X.mg "list" = none) (ha : PE X a ta) (hg : Gl X "list" := by rfl) (hs : starEach [a] X.env = [(false, eval a X.env)] := by rfl) (hc : X.calm = true := by rfl) :
    PE X (.Call (.Name "list" p) [a] [] pos) (fun σ H Q => ta σ H fun x H1 => ∃ (v a : Addr) (kvs : List (Key × V)), [x] = [.ref v] ∧ H1 v = some (vvO v a) ∧ H1 a = some (.dK kvs) ∧ true = true ∧ ∀ l, H1 l = none → Q (.ref l) (upd H1 l (.lst (kvs.map (·.2))))) := by
  have h := pe_callTy (p := p) (pos := pos) (call_list_values (X := X)) hg ml rfl (pa_cons ha pa_nil hs) (he := hs)
  rw [hc] at h
  exact h
end
/-! ### groups: kinds with their things, by their first things -/
def gAdd (k t : Int) : List (Int × List Int) → List (Int × List Int)
  | [] => [(k, [t])]
  | (k', ts) :: r => if k' = k then (k', ts ++ [t]) :: r else (k', ts) :: gAdd k t r
def gUp (ks : List Int) : Nat → List (Int × List Int)
  | 0 => []
  | n + 1 => gAdd (ks.getD n 0) (n : Int) (gUp ks n)
def gOf (ks : List Int) : List (Int × List Int) := gUp ks ks.length
/-- a group with the address of its list -/
abbrev Cel := Int × List Int × Addr
def gs (cs : List Cel) : List (Int × List Int) := cs.map fun c => (c.1, c.2.1)
def refs (cs : List Cel) : List V := cs.map fun c => V.ref c.2.2
def kvc (cs : List Cel) : List (Key × V) := cs.map fun c => (Sum.inl c.1, V.ref c.2.2)
/-- the lists stand in the heap -/
structure CAt (H : Hp) (cs : List Cel) : Prop where
  nd : (cs.map fun c => c.2.2).Nodup
  at_ : ∀ c ∈ cs, H c.2.2 = some (.lst (c.2.1.map V.int))
theorem CAt.nil {H : Hp} : CAt H [] := ⟨by simp, fun _ h => by simp at h⟩
theorem CAt.same {H H' : Hp} {cs : List Cel} (h : CAt H cs) (s : ∀ c ∈ cs, ∀ o, H c.2.2 = some o → H' c.2.2 = some o) : CAt H' cs := ⟨h.nd, fun c hc => s c hc _ (h.at_ c hc)⟩
theorem gs_len (cs : List Cel) : (gs cs).length = cs.length := List.length_map _
theorem cel_split (k : Int) : ∀ cs : List Cel, (∃ l ts a r, cs = l ++ (k, ts, a) :: r ∧ ∀ x ∈ l, x.1 ≠ k) ∨ ∀ x ∈ cs, x.1 ≠ k
  | [] => .inr fun _ h => by simp at h
  | (k', ts, a) :: r => by
    by_cases e : k' = k
    · subst e; exact .inl ⟨[], ts, a, r, rfl, fun _ h => by simp at h⟩
    · rcases cel_split k r with ⟨l, ts', a', r', rfl, h⟩ | h
      · exact .inl ⟨(k', ts, a) :: l, ts', a', r', rfl, fun x hx => (List.mem_cons.mp hx).elim (fun z => by rw [z]; exact e) (h x)⟩
      · exact .inr fun x hx => (List.mem_cons.mp hx).elim (fun z => by rw [z]; exact e) (h x)
theorem gAdd_old {k t : Int} {ts : List Int} {a : Addr} {r : List Cel} : ∀ {l : List Cel}, (∀ x ∈ l, x.1 ≠ k) → gAdd k t (gs (l ++ (k, ts, a) :: r)) = gs (l ++ (k, ts ++ [t], a) :: r)
  | [], _ => by simp [gs, gAdd]
  | (k', ts', a') :: l, h => by
    have h1 : k' ≠ k := h (k', ts', a') List.mem_cons_self
    have ih := gAdd_old (k := k) (t := t) (ts := ts) (a := a) (r := r) (l := l) fun x hx => h x (List.mem_cons_of_mem _ hx)
    simp only [gs, List.cons_append, List.map_cons, gAdd, if_neg h1] at ih ⊢
    rw [ih]
theorem gAdd_new {k t : Int} {q : Addr} : ∀ {cs : List Cel}, (∀ x ∈ cs, x.1 ≠ k) → gAdd k t (gs cs) = gs (cs ++ [(k, [t], q)])
  | [], _ => by simp [gs, gAdd]
  | (k', ts', a') :: l, h => by
    have h1 : k' ≠ k := h (k', ts', a') List.mem_cons_self
    have ih := gAdd_new (k := k) (t := t) (q := q) (cs := l) fun x hx => h x (List.mem_cons_of_mem _ hx)
    simp only [gs, List.cons_append, List.map_cons, gAdd, if_neg h1] at ih ⊢
    rw [ih]
theorem val_old {k : Int} {ts : List Int} {a : Addr} {r : List Cel} : ∀ {l : List Cel}, (∀ x ∈ l, x.1 ≠ k) → valV (kvc (l ++ (k, ts, a) :: r)) (Sum.inl k) = some (.ref a)
  | [], _ => valV_pos rfl
  | (k', ts', a') :: l, h => by
    have h1 : k' ≠ k := h (k', ts', a') List.mem_cons_self
    show valV ((Sum.inl k', V.ref a') :: kvc (l ++ (k, ts, a) :: r)) (Sum.inl k) = _
    rw [valV_neg (by intro z; exact h1 (Sum.inl.inj z))]
    exact val_old fun x hx => h x (List.mem_cons_of_mem _ hx)
theorem val_new {k : Int} : ∀ {cs : List Cel}, (∀ x ∈ cs, x.1 ≠ k) → valV (kvc cs) (Sum.inl k) = none
  | [], _ => rfl
  | (k', ts', a') :: l, h => by
    have h1 : k' ≠ k := h (k', ts', a') List.mem_cons_self
    show valV ((Sum.inl k', V.ref a') :: kvc l) (Sum.inl k) = _
    rw [valV_neg (by intro z; exact h1 (Sum.inl.inj z))]
    exact val_new fun x hx => h x (List.mem_cons_of_mem _ hx)
theorem kvc_vals (cs : List Cel) : (kvc cs).map (·.2) = refs cs := by simp [kvc, refs, Function.comp_def]
theorem kvc_same {k : Int} {ts ts' : List Int} {a : Addr} {l r : List Cel} : kvc (l ++ (k, ts', a) :: r) = kvc (l ++ (k, ts, a) :: r) := by simp [kvc]
theorem refs_same {k : Int} {ts ts' : List Int} {a : Addr} {l r : List Cel} : refs (l ++ (k, ts', a) :: r) = refs (l ++ (k, ts, a) :: r) := by simp [refs]
/-- one more thing in a group that is there -/
theorem CAt.old {H : Hp} {k : Int} {ts ts' : List Int} {a : Addr} {l r : List Cel} (h : CAt H (l ++ (k, ts, a) :: r)) : CAt (upd H a (.lst (ts'.map V.int))) (l ++ (k, ts', a) :: r) := by
  have nd := h.nd
  simp only [List.map_append, List.map_cons] at nd
  refine ⟨by simpa only [List.map_append, List.map_cons] using nd, fun c hc => ?_⟩
  rw [List.nodup_append] at nd
  obtain ⟨n1, n2, n3⟩ := nd
  rw [List.nodup_cons] at n2
  rcases List.mem_append.mp hc with z | z
  · have ne : c.2.2 ≠ a := n3 _ (List.mem_map_of_mem z) a List.mem_cons_self
    rw [upd_ne ne]
    exact h.at_ c (List.mem_append_left _ z)
  · rcases List.mem_cons.mp z with rfl | z
    · exact upd_same
    · have ne : c.2.2 ≠ a := fun e => n2.1 (by rw [← e]; exact List.mem_map_of_mem z)
      rw [upd_ne ne]
      exact h.at_ c (List.mem_append_right _ (List.mem_cons_of_mem _ z))
theorem CAt.snoc {H : Hp} {k : Int} {ts : List Int} {q : Addr} {cs : List Cel} (h : CAt H cs) (hn : ∀ c ∈ cs, c.2.2 ≠ q) (hq : H q = some (.lst (ts.map V.int))) : CAt H (cs ++ [(k, ts, q)]) := by
  refine ⟨?_, fun c hc => ?_⟩
  · rw [List.map_append, List.nodup_append]
    refine ⟨h.nd, by simp, fun x hx y hy => ?_⟩
    obtain ⟨c, hc, rfl⟩ := List.mem_map.mp hx
    have : y = q := by simpa using hy
    rw [this]
    exact hn c hc
  · rcases List.mem_append.mp hc with z | z
    · exact h.at_ c z
    · have : c = (k, ts, q) := by simpa using z
      rw [this]; exact hq
/-! facts of the groups -/
theorem gAdd_all {k t : Int} {Pd Pd' : Int × List Int → Prop} (h1 : ∀ ts, Pd (k, ts) → Pd' (k, ts ++ [t])) (h2 : Pd' (k, [t])) (h3 : ∀ g, Pd g → Pd' g) : ∀ {l : List (Int × List Int)}, (∀ g ∈ l, Pd g) → ∀ g ∈ gAdd k t l, Pd' g
  | [], _, g, hg => by
    have : g = (k, [t]) := by simpa [gAdd] using hg
    rw [this]; exact h2
  | (k', ts) :: r, h, g, hg => by
    unfold gAdd at hg
    by_cases e : k' = k
    · subst e
      rw [if_pos rfl] at hg
      rcases List.mem_cons.mp hg with rfl | z
      · exact h1 ts (h _ List.mem_cons_self)
      · exact h3 g (h g (List.mem_cons_of_mem _ z))
    · rw [if_neg e] at hg
      rcases List.mem_cons.mp hg with rfl | z
      · exact h3 _ (h _ List.mem_cons_self)
      · exact gAdd_all h1 h2 h3 (fun g hg => h g (List.mem_cons_of_mem _ hg)) g z
theorem gAdd_len {k t : Int} : ∀ {l : List (Int × List Int)}, (gAdd k t l).length ≤ l.length + 1
  | [] => by simp [gAdd]
  | (k', ts) :: r => by
    unfold gAdd
    split
    · simp
    · have := gAdd_len (k := k) (t := t) (l := r)
      simp only [List.length_cons]; omega
theorem gUp_len (ks : List Int) : ∀ n, (gUp ks n).length ≤ n
  | 0 => by simp [gUp]
  | n + 1 => by
    have := gUp_len ks n
    have := gAdd_len (k := ks.getD n 0) (t := (n : Int)) (l := gUp ks n)
    unfold gUp; omega
/-- a group's kind is its first thing's; its things are there -/
def GOk (ks : List Int) (n : Nat) (g : Int × List Int) : Prop := (∃ (t : Nat) (r : List Int), g.2 = (t : Int) :: r ∧ t < n ∧ ks[t]? = some g.1) ∧ g.2.length ≤ n
theorem gUp_ok (ks : List Int) : ∀ n, n ≤ ks.length → ∀ g ∈ gUp ks n, GOk ks n g
  | 0, _, g, hg => by simp [gUp] at hg
  | n + 1, hn, g, hg => by
    have ih := gUp_ok ks n (by omega)
    have hk : ks[n]? = some (ks.getD n 0) := by
      rw [List.getD_eq_getElem?_getD, List.getElem?_eq_getElem (by omega)]; rfl
    refine gAdd_all (Pd := GOk ks n) (Pd' := GOk ks (n + 1)) ?_ ?_ ?_ ih g (by unfold gUp at hg; exact hg)
    · rintro ts ⟨⟨t, r, e, h1, h2⟩, h3⟩
      exact ⟨⟨t, r ++ [(n : Int)], by show ts ++ _ = _; rw [show ts = _ from e]; rfl, by omega, h2⟩, by show (ts ++ _).length ≤ _; rw [List.length_append]; exact Nat.succ_le_succ h3⟩
    · exact ⟨⟨n, [], rfl, by omega, hk⟩, by simp⟩
    · rintro g ⟨⟨t, r, e, h1, h2⟩, h3⟩
      exact ⟨⟨t, r, e, by omega, h2⟩, by omega⟩
/-- the things of the kind that more than half are -/
def gHalf (ks : List Int) : List Int := (((gOf ks).find? fun g => decide ((ks.length : Int) < 2 * (g.2.length : Int))).map (·.2)).getD []
end L2
namespace L2
open PySem PySem.Spec PyProof.Rows
/-! ### cells as data -/
def dCel (c : Cel) : PyData := .list (c.2.1.map PyData.int)
theorem dps_cells {K : PySem.W.Frag} {H : Hp} : ∀ {cs : List Cel}, (∀ c ∈ cs, H c.2.2 = some (.lst (c.2.1.map V.int))) → Dps K H (refs cs) (cs.map dCel)
  | [], _ => .nil
  | c :: r, h => .cons (.lst (SqL.of (h c List.mem_cons_self)) (Dps.ints _)) (dps_cells fun c hc => h c (List.mem_cons_of_mem _ hc))
theorem lay_cells : ∀ cs : List Cel, PyData.canLayAll0 (cs.map dCel) = true
  | [] => by simp [PyData.canLayAll0]
  | c :: r => by simp [PyData.canLayAll0, PyData.canLay0, dCel, lay_ints, lay_cells r]
theorem depth_cells : ∀ cs : List Cel, PyData.depthAll (cs.map dCel) ≤ 1
  | [] => by simp [PyData.depthAll]
  | c :: r => by
    have := depth_cells r
    simp only [List.map_cons, PyData.depthAll, PyData.depth, dCel, depth_ints]
    omega
theorem half_found {cs : List Cel} {ks : List Int} {i : Nat} {c : Cel} (hg : gs cs = gOf ks) (hc : cs[i]? = some c) (h : (ks.length : Int) < 2 * (c.2.1.length : Int))
    (hb : ∀ j c', cs[j]? = some c' → j < i → ¬ (ks.length : Int) < 2 * (c'.2.1.length : Int)) : gHalf ks = c.2.1 := by
  unfold gHalf
  obtain ⟨hi, e⟩ := List.getElem?_eq_some_iff.mp hc
  have hf : (gOf ks).find? (fun g => decide ((ks.length : Int) < 2 * (g.2.length : Int))) = some (c.1, c.2.1) := by
    rw [← hg, List.find?_eq_some_iff_getElem]
    refine ⟨decide_eq_true h, i, by rw [gs_len]; exact hi, by simp [gs, e], fun j hj => ?_⟩
    have hj' : j < cs.length := by omega
    have := hb j cs[j] (List.getElem?_eq_getElem hj') hj
    simp only [gs, List.getElem_map, Bool.not_eq_true', decide_eq_false_iff_not]
    exact this
  rw [hf]; rfl
theorem half_none {cs : List Cel} {ks : List Int} (hg : gs cs = gOf ks) (hb : ∀ c ∈ cs, ¬ (ks.length : Int) < 2 * (c.2.1.length : Int)) : gHalf ks = [] := by
  unfold gHalf
  have hf : (gOf ks).find? (fun g => decide ((ks.length : Int) < 2 * (g.2.length : Int))) = none := by
    rw [← hg, List.find?_eq_none]
    intro g hgm
    obtain ⟨c, hc, rfl⟩ := List.mem_map.mp hgm
    have := hb c hc
    simpa using this
  rw [hf]; rfl
theorem refs_at {cs : List Cel} {i : Nat} {x : V} (h : (refs cs)[i]? = some x) : ∃ c, cs[i]? = some c ∧ x = .ref c.2.2 := by
  unfold refs at h
  rw [List.getElem?_map] at h
  cases e : cs[i]? with
  | none => rw [e] at h; cases h
  | some c => rw [e] at h; exact ⟨c, rfl, (Option.some.inj h).symm⟩
theorem gHalf_len (ks : List Int) : (gHalf ks).length ≤ ks.length := by
  unfold gHalf
  cases e : (gOf ks).find? (fun g => decide ((ks.length : Int) < 2 * (g.2.length : Int))) with
  | none => exact Nat.zero_le _
  | some g => exact (gUp_ok ks ks.length (Nat.le_refl _) g (List.mem_of_find?_eq_some e)).2
theorem at0 {x : V} {r : List V} : atI (x :: r) 0 = some x := atI_nat (xs := x :: r) (j := 0) (v := x) rfl
end L2
namespace L2
open PySem PySem.Spec PyProof.Rows
/-! ### data stay while what is tracked stays -/
section
variable {K : PySem.W.Frag} {H H' : Hp}
theorem Same.rd (g : Same H H') {a : Addr} {o : HO} (h : Rd H a o) : Rd H' a o := by
  rcases h with h | ⟨ob, h⟩
  · exact .inl (g _ _ h)
  · exact .inr ⟨ob, g _ _ h⟩
theorem Same.tp (g : Same H H') {a : Addr} {xs : List V} (h : SqT K H a xs) : SqT K H' a xs := by
  rcases h with h | h
  · exact .inl (g.rd h)
  · exact .inr h
mutual
theorem Dp.same (g : Same H H') : ∀ {v : V} {d : PyData}, Dp K H v d → Dp K H' v d
  | _, _, .non => .non
  | _, _, .bl b => .bl b
  | _, _, .int i => .int i
  | _, _, .str x => .str x
  | _, _, .lst h hs => .lst (g.seq h) (Dps.same g hs)
  | _, _, .tup h hs => .tup (g.tp h) (Dps.same g hs)
theorem Dps.same (g : Same H H') : ∀ {vs : List V} {ds : List PyData}, Dps K H vs ds → Dps K H' vs ds
  | _, _, .nil => .nil
  | _, _, .cons h hs => .cons (Dp.same g h) (Dps.same g hs)
end
theorem Dps.len : ∀ {vs : List V} {ds : List PyData}, Dps K H vs ds → vs.length = ds.length
  | _, _, .nil => rfl
  | _, _, .cons _ hs => congrArg (· + 1) (Dps.len hs)
theorem Dps.get : ∀ {vs : List V} {ds : List PyData} {i : Nat} {v : V}, Dps K H vs ds → vs[i]? = some v → ∃ d, ds[i]? = some d ∧ Dp K H v d
  | _, _, _, _, .nil, h => by simp at h
  | _, _, 0, _, .cons (d := d) h hs, e => by
    have : _ = _ := Option.some.inj e
    subst this
    exact ⟨d, rfl, h⟩
  | _, _, i + 1, _, .cons h hs, e => Dps.get (i := i) hs e
end
mutual
/-- lists and ints alone -/
def li : PyData → Bool
  | .int _ => true
  | .list ds => liAll ds
  | _ => false
def liAll : List PyData → Bool
  | [] => true
  | d :: r => li d && liAll r
end
theorem liAll_get : ∀ {ds : List PyData} {i : Nat} {d : PyData}, liAll ds = true → ds[i]? = some d → li d = true
  | [], _, _, _, h => by simp at h
  | x :: r, 0, _, hl, h => by
    have : x = _ := Option.some.inj h
    subst this
    simp only [liAll, Bool.and_eq_true] at hl
    exact hl.1
  | x :: r, i + 1, _, hl, h => by
    simp only [liAll, Bool.and_eq_true] at hl
    exact liAll_get (i := i) hl.2 h
theorem depthAll_get : ∀ {ds : List PyData} {i : Nat} {d : PyData}, ds[i]? = some d → d.depth ≤ PyData.depthAll ds
  | [], _, _, h => by simp at h
  | x :: r, 0, _, h => by
    have : x = _ := Option.some.inj h
    subst this
    simp only [PyData.depthAll]; omega
  | x :: r, i + 1, _, h => by
    have := depthAll_get (ds := r) (i := i) h
    simp only [PyData.depthAll]; omega
theorem li_ints : ∀ (ns : List Int), liAll (ns.map PyData.int) = true
  | [] => rfl
  | n :: r => by simp [liAll, li, li_ints r]
end L2


set_option Elab.async false
set_option linter.all false
set_option maxRecDepth 100000
namespace L2
open PySem PySem.Spec PyProof.Rows
section
variable {X : Cx} {a b : Expr} {ta tb : TE} {p pos : Pos}
/-- len(d) -/
theorem eLenD (ml : X.mg "len" = none) (ha : PE X a ta) (hg : Gl X "len" := by rfl) (hs : starEach [a] X.env = [(false, eval a X.env)] := by rfl) :
    PE X (.Call (.Name "len" p) [a] [] pos) (fun σ H Q => ta σ H fun x H1 => ∃ a kvs, [x] = [V.ref a] ∧ H1 a = some (.dK kvs) ∧ Q (.int kvs.length) H1) :=
  pe_callB call_lenD hg ml PySem.boot_len (pa_cons ha pa_nil hs) (he := hs)
/-- d[k] -/
theorem eDGet {k : Nat} (hr : Room k X.A) (ha : PE X a ta) (hb : PE X b tb) (hs : NoSl b := by exact fun _ _ => rfl) : PE X (.Subscript a b pos) (tDGet ta tb) := pe_dget (hu_of hr) ha hb hs
end
/-! ### the groups' kinds, numbered -/
def gKeys (l : List (Int × List Int)) : List Int := l.map (·.1)
theorem gAdd_keys {k t : Int} : ∀ {l : List (Int × List Int)}, gKeys (gAdd k t l) = if k ∈ gKeys l then gKeys l else gKeys l ++ [k]
  | [] => by simp [gAdd, gKeys]
  | (k', ts) :: r => by
    have ih := gAdd_keys (k := k) (t := t) (l := r)
    unfold gAdd
    by_cases e : k' = k
    · subst e; simp [gKeys]
    · have e' : ¬ k = k' := fun z => e z.symm
      simp only [gKeys] at ih ⊢
      rw [if_neg e, List.map_cons, ih]
      by_cases m : k ∈ List.map (·.1) r
      · simp [m]
      · simp [m, e']
theorem gUp_nodup (ks : List Int) : ∀ n, (gKeys (gUp ks n)).Nodup
  | 0 => by simp [gUp, gKeys]
  | n + 1 => by
    have ih := gUp_nodup ks n
    unfold gUp
    rw [gAdd_keys]
    split
    · exact ih
    · rename_i h
      rw [List.nodup_append]
      exact ⟨ih, by simp, fun x hx y hy => by
        have : y = ks.getD n 0 := by simpa using hy
        rw [this]
        intro e
        exact h (e ▸ hx)⟩
theorem gUp_things (ks : List Int) : ∀ n, n ≤ ks.length → ∀ g ∈ gUp ks n, ∀ t ∈ g.2, ∃ t' : Nat, t = (t' : Int) ∧ t' < n ∧ ks[t']? = some g.1
  | 0, _, g, hg => by simp [gUp] at hg
  | n + 1, hn, g, hg => by
    have ih := gUp_things ks n (by omega)
    have hk : ks[n]? = some (ks.getD n 0) := by
      rw [List.getD_eq_getElem?_getD, List.getElem?_eq_getElem (by omega)]; rfl
    refine gAdd_all (Pd := fun g => ∀ t ∈ g.2, ∃ t' : Nat, t = (t' : Int) ∧ t' < n ∧ ks[t']? = some g.1) (Pd' := fun g => ∀ t ∈ g.2, ∃ t' : Nat, t = (t' : Int) ∧ t' < n + 1 ∧ ks[t']? = some g.1) ?_ ?_ ?_ ih g (by unfold gUp at hg; exact hg)
    · intro ts h t ht
      rcases List.mem_append.mp ht with z | z
      · obtain ⟨t', e, h1, h2⟩ := h t z
        exact ⟨t', e, by omega, h2⟩
      · exact ⟨n, by simpa using z, by omega, hk⟩
    · intro t ht
      exact ⟨n, by simpa using ht, by omega, hk⟩
    · intro g h t ht
      obtain ⟨t', e, h1, h2⟩ := h t ht
      exact ⟨t', e, by omega, h2⟩
theorem gAdd_in {k t : Int} : ∀ {l : List (Int × List Int)}, (∃ g ∈ gAdd k t l, t ∈ g.2) ∧ ∀ g ∈ l, ∃ g' ∈ gAdd k t l, ∀ x ∈ g.2, x ∈ g'.2
  | [] => ⟨⟨(k, [t]), by simp [gAdd], by simp⟩, fun g hg => by simp at hg⟩
  | (k', ts) :: r => by
    have ih := gAdd_in (k := k) (t := t) (l := r)
    unfold gAdd
    by_cases e : k' = k
    · rw [if_pos e]
      refine ⟨⟨(k', ts ++ [t]), List.mem_cons_self, by simp⟩, fun g hg => ?_⟩
      rcases List.mem_cons.mp hg with rfl | z
      · exact ⟨(k', ts ++ [t]), List.mem_cons_self, fun x hx => List.mem_append_left _ hx⟩
      · exact ⟨g, List.mem_cons_of_mem _ z, fun x hx => hx⟩
    · rw [if_neg e]
      obtain ⟨⟨g0, h0, h1⟩, h2⟩ := ih
      refine ⟨⟨g0, List.mem_cons_of_mem _ h0, h1⟩, fun g hg => ?_⟩
      rcases List.mem_cons.mp hg with rfl | z
      · exact ⟨_, List.mem_cons_self, fun x hx => hx⟩
      · obtain ⟨g', a1, a2⟩ := h2 g z
        exact ⟨g', List.mem_cons_of_mem _ a1, a2⟩
theorem gUp_all (ks : List Int) : ∀ n (t : Nat), t < n → ∃ g ∈ gUp ks n, (t : Int) ∈ g.2
  | 0, _, h => by omega
  | n + 1, t, h => by
    unfold gUp
    have A := gAdd_in (k := ks.getD n 0) (t := (n : Int)) (l := gUp ks n)
    by_cases e : t = n
    · subst e; exact A.1
    · obtain ⟨g, h1, h2⟩ := gUp_all ks n t (by omega)
      obtain ⟨g', h3, h4⟩ := A.2 g h1
      exact ⟨g', h3, h4 _ h2⟩
/-- the number of a kind among the groups' -/
def gNum (ks : List Int) (k : Int) : Nat := (gKeys (gOf ks)).idxOf k
theorem idx_at {ks : List Int} {j : Nat} {g : Int × List Int} (h : (gOf ks)[j]? = some g) : gNum ks g.1 = j := by
  have nd := gUp_nodup ks ks.length
  have hj : (gKeys (gOf ks))[j]? = some g.1 := by unfold gKeys; rw [List.getElem?_map, h]; rfl
  obtain ⟨hl, e⟩ := List.getElem?_eq_some_iff.mp hj
  unfold gNum
  rw [← e]
  exact nd.idxOf_getElem j hl
/-- a group's things are those of its number -/
theorem num_in {ks : List Int} {j : Nat} {g : Int × List Int} (h : (gOf ks)[j]? = some g) {t : Int} (ht : t ∈ g.2) : ∃ t' : Nat, t = (t' : Int) ∧ t' < ks.length ∧ ks[t']? = some g.1 ∧ gNum ks g.1 = j := by
  obtain ⟨t', e, h1, h2⟩ := gUp_things ks ks.length (Nat.le_refl _) g (List.mem_of_getElem? h) t ht
  exact ⟨t', e, h1, h2, idx_at h⟩
theorem in_num {ks : List Int} {t : Nat} {k : Int} (h : ks[t]? = some k) : ∃ g, (gOf ks)[gNum ks k]? = some g ∧ (t : Int) ∈ g.2 := by
  have ht := (List.getElem?_eq_some_iff.mp h).1
  obtain ⟨g, h1, h2⟩ := gUp_all ks ks.length t ht
  obtain ⟨t', e, _, h4⟩ := gUp_things ks ks.length (Nat.le_refl _) g h1 _ h2
  have e' : t' = t := by omega
  subst e'
  rw [h] at h4
  cases h4
  obtain ⟨j, hj⟩ := List.getElem?_of_mem h1
  have hj' : (gOf ks)[j]? = some g := hj
  rw [idx_at hj']
  exact ⟨g, hj', h2⟩
/-- the told numbers -/
def gSorts (ks : List Int) : List Int := ks.map fun k => (gNum ks k : Int)
def kvn (keys : List Int) : List (Key × V) := keys.zipIdx.map fun x => (Sum.inl x.1, V.int (x.2 : Int))
theorem kvn_len (keys : List Int) : (kvn keys).length = keys.length := by simp [kvn]
theorem kvn_val (k : Int) : ∀ (keys : List Int) (n : Nat), valV ((keys.zipIdx n).map fun x => ((Sum.inl x.1 : Key), V.int (x.2 : Int))) (Sum.inl k) = if k ∈ keys then some (.int ((keys.idxOf k + n : Nat) : Int)) else none
  | [], n => by simp [valV]
  | k' :: r, n => by
    have ih := kvn_val k r (n + 1)
    rw [List.zipIdx_cons, List.map_cons]
    by_cases e : k' = k
    · subst e
      rw [valV_pos rfl]
      simp
    · have e' : ¬ k = k' := fun z => e z.symm
      rw [valV_neg (by intro z; exact e (Sum.inl.inj z)), ih]
      by_cases m : k ∈ r
      · rw [if_pos m, if_pos (List.mem_cons_of_mem _ m)]
        rw [List.idxOf_cons, show (k' == k) = false by simpa using e]
        simp only [cond_false]
        congr 2
        omega
      · rw [if_neg m, if_neg (by simp [e', m])]
theorem kvn_get (keys : List Int) (k : Int) : valV (kvn keys) (Sum.inl k) = if k ∈ keys then some (.int ((keys.idxOf k : Nat) : Int)) else none := kvn_val k keys 0
theorem kvn_snoc (keys : List Int) (k : Int) : kvn (keys ++ [k]) = kvn keys ++ [(Sum.inl k, .int (keys.length : Int))] := by
  unfold kvn
  rw [List.zipIdx_append]
  simp
end L2


set_option Elab.async false
set_option linter.all false
set_option maxRecDepth 100000
namespace L2
open PySem PySem.Spec PyProof.Rows
/-! ### max(ints, default = d) -/
def IsMax (M : Int) (l : List Int) : Prop := M ∈ l ∧ ∀ a ∈ l, a ≤ M
theorem IsMax.step {M x : Int} {l : List Int} (h : IsMax M l) : IsMax (if x > M then x else M) (l ++ [x]) := by
  obtain ⟨h1, h2⟩ := h
  refine ⟨?_, fun a ha => ?_⟩
  · split
    · simp
    · exact List.mem_append_left _ h1
  · rcases List.mem_append.mp ha with z | z
    · have := h2 a z
      split <;> omega
    · have : a = x := by simpa using z
      subst this
      split <;> omega
/-- the best so far, of the first j -/
def Best (ns : List Int) (j : Nat) : Option Value → Prop
  | none => j = 0
  | some v => ∃ M t, v = .int M t ∧ IsMax M (ns.take j)
def bestSeq : Option Value → Array Value
  | none => #[]
  | some v => #[v, v]
theorem ints_get : ∀ {vs : List Value} {ns : List Int} {j : Nat} {v : Value}, IntsAre vs ns → vs[j]? = some v → ∃ t, v = .int (ns.getD j 0) t
  | _, _, _, _, .nil, h => by simp at h
  | _, _, 0, _, .cons n t _, h => ⟨t, (Option.some.inj h).symm⟩
  | _, _, j + 1, _, .cons n t r, h => by
    obtain ⟨t', e⟩ := ints_get (j := j) r h
    exact ⟨t', by simpa using e⟩
theorem max_args_kw (a d : Value) : argsOk "max" ⟨[a], [("default", d)]⟩ := by unfold argsOk; kernel_rfl
section
variable {prog : Program} {w : World} {A : Around} {R : Result → Shared → Prop} {I l : Addr} {items : Array Value} {ns : List Int} {d : Value}
theorem max_turns (hh : A.in1.handled = none) (hne : l ≠ I) (hi : IntsAre items.toList ns) (S : Addr) (hSI : S ≠ I) (hSl : S ≠ l) :
    ∀ (k j : Nat) (s : Shared) (b : Option Value) (c : Nat), items.size - j = k → j ≤ items.size → s.heap.IsListIter I l j → s.heap.IsList l items → Best ns j b →
      s.heap.get? S = some { cls := .type "list", dict := none, data := .seq (bestSeq b) c, slots := #[] } →
      (∀ v h' tk, ((ns = [] ∧ v = d) ∨ ∃ M t, v = .int M t ∧ IsMax M ns) → (∀ x o, x ≠ I → x ≠ S → s.heap.get? x = some o → h'.get? x = some o) → R (.ok (.ret v)) { s with heap := h', toks := tk }) →
      codeAny (model prog w) A (.builtin "max.loop" ⟨[.ref I, .none, .ref S], [("default", d)]⟩) R s := by
  have hnm : (toString "max" ++ toString ".loop" : String) = "max.loop" := by decide
  have hlen : ns.length = items.size := by have := hi.length; rw [Array.length_toList] at this; omega
  have W := Walks.list (prog := prog) (w := w) hh I l hne items
  intro k
  induction k with
  | zero =>
    intro j s b c hk hj st1 st2 hb hS hR
    have ej : j = items.size := by omega
    subst ej
    refine codeAny_builtin (F.entry_max_loop) (by
      rw [Around.under_plainId F.plain_max_loop]
      show wpAny _ A.in1 (seqItems? (.ref S) >>= fun _ => _) _ _ s
      refine wpAny_bind (wpAny_seqItems hS rfl (?_ : wpAny _ A.in1 (tryCatch (pyNext (.ref I)) (fun _ => _) >>= fun _ => _) _ _ s))
      refine wpAny_bind (wpAny_tryCatch (W.done s _ _ ⟨st1, st2⟩ fun h' tk keep => ?_))
      have kS := keep S _ (by simpa using hSI) hS
      cases b with
      | none =>
        have hb0 : items.size = 0 := hb
        have hn : ns = [] := List.length_eq_zero_iff.mp (by omega)
        show wpAny _ A.in1 (rule _ >>= fun _ => ret d) _ _ _
        exact wpAny_bind (wpAny_rule (wpAny_pure (hR d h' tk (.inl ⟨hn, rfl⟩) fun x o n1 _ e => keep x o (by simpa using n1) e)))
      | some v =>
        obtain ⟨M, t, rfl, hM⟩ := hb
        have htk : ns.take items.size = ns := List.take_of_length_le (by omega)
        rw [htk] at hM
        show wpAny _ A.in1 (updateSeq S (fun _ => #[]) >>= fun _ => _) _ _ _
        refine wpAny_bind (wpAny_updateSeq (hz := by show 2 ≤ sizeLine; decide) kS rfl (wpAny_bind (wpAny_letGo (wpAny_pure (hR _ _ tk (.inr ⟨M, t, rfl, hM⟩) fun x o n1 n2 e => ?_)))))
        exact (Heap.get?_update_other _ _ (Ne.symm n2)).trans (keep x o (by simpa using n1) e))
  | succ k ih =>
    intro j s b c hk hj st1 st2 hb hS hR
    have hlt : j < items.size := by omega
    refine codeAny_builtin (F.entry_max_loop) (by
      rw [Around.under_plainId F.plain_max_loop]
      show wpAny _ A.in1 (seqItems? (.ref S) >>= fun _ => _) _ _ s
      refine wpAny_bind (wpAny_seqItems hS rfl (?_ : wpAny _ A.in1 (tryCatch (pyNext (.ref I)) (fun _ => _) >>= fun _ => _) _ _ s))
      refine wpAny_bind (wpAny_tryCatch (W.item j s _ _ hlt ⟨st1, st2⟩ fun v h' tk hv st' keep => ?_))
      have kS := keep S _ (by simpa using hSI) hS
      have hx : ∃ t, v = .int (ns.getD j 0) t := by
        exact ints_get hi (by rw [Array.getElem?_toList]; exact hv)
      obtain ⟨t, rfl⟩ := hx
      have htk : ns.take (j + 1) = ns.take j ++ [ns.getD j 0] := by
        rw [List.take_add_one, List.getD_eq_getElem?_getD, List.getElem?_eq_getElem (by omega)]
        rfl
      have goOn : ∀ (b' : Option Value) (h2 : Heap) (c' : Nat), Best ns (j + 1) b' → h2.get? S = some { cls := .type "list", dict := none, data := .seq (bestSeq b') c', slots := #[] } →
          (∀ x o, x ≠ S → h'.get? x = some o → h2.get? x = some o) → codeAny (model prog w) A (.builtin "max.loop" ⟨[.ref I, .none, .ref S], [("default", d)]⟩) R { s with heap := h2, toks := tk } := fun b' h2 c' hb' hS' k2 => by
        refine ih (j + 1) _ b' c' (by omega) hlt (st'.1.at fun o e => k2 I o (Ne.symm hSI) e) (st'.2.at fun o e => k2 l o (Ne.symm hSl) e) hb' hS' fun v' h3 tk3 hv' k3 => hR v' h3 tk3 hv' fun x o n1 n2 e => ?_
        exact k3 x o n1 n2 (k2 x o n2 (keep x o (by simpa using n1) e))
      cases b with
      | none =>
        have hb0 : j = 0 := hb
        subst hb0
        show wpAny _ A.in1 (updateSeq S (fun _ => #[Value.int (ns.getD 0 0) t, Value.int (ns.getD 0 0) t]) >>= fun _ => _) _ _ _
        refine wpAny_bind (wpAny_updateSeq kS rfl ?_)
        rw [hnm]
        refine wpAny_pure ⟨plainId_quiet F.plain_max_loop _, goOn (some (.int (ns.getD 0 0) t)) _ _ ⟨_, t, rfl, ?_⟩ (Heap.get?_update_self _ kS rfl) fun x o n e => (Heap.get?_update_other _ _ (Ne.symm n)).trans e⟩
        rw [htk]
        exact ⟨by simp, fun a ha => by
          have : a = ns.getD 0 0 := by simpa using ha
          omega⟩
      | some vb =>
        obtain ⟨M, tb, rfl, hM⟩ := hb
        show wpAny _ A.in1 (tryCatch (holding [Value.int (ns.getD j 0) t, Value.int (ns.getD j 0) t] (richCompare .Gt (.int (ns.getD j 0) t) (.int M tb) >>= fun _ => _)) (fun _ => _) >>= fun _ => _) _ _ _
        refine wpAny_bind (wpAny_tryCatch (wpAny_holding (wpAny_bind ?_)))
        refine richCompare_gives (op := .Gt) (typeIs_int _ _ t) (typeIs_int _ _ tb) F.slot_int_gt F.entry_int_gt (F.args_int_gt_2 _ _) (gives_int_gt _ _ t tb) (fun x => nomatch x) ?_
        refine wpAny_bind (wpAny_holding (wpAny_truthy_bool (wpAny_bind (wpAny_letGo (wpAny_pure ?_)))))
        have hst := hM.step (x := ns.getD j 0)
        rw [← htk] at hst
        by_cases hgt : ns.getD j 0 > M
        · rw [if_pos hgt] at hst
          rw [if_pos (decide_eq_true hgt)]
          refine wpAny_bind (wpAny_updateSeq (hz := by show 2 ≤ sizeLine; decide) kS rfl (wpAny_bind (wpAny_letGo ?_)))
          rw [hnm]
          exact wpAny_pure ⟨plainId_quiet F.plain_max_loop _, goOn (some (.int (ns.getD j 0) t)) _ _ ⟨_, t, rfl, hst⟩ (Heap.get?_update_self _ kS rfl) fun x o n e => (Heap.get?_update_other _ _ (Ne.symm n)).trans e⟩
        · rw [if_neg hgt] at hst
          rw [if_neg (by simpa using hgt)]
          refine wpAny_bind (wpAny_letGo ?_)
          rw [hnm]
          exact wpAny_pure ⟨plainId_quiet F.plain_max_loop _, goOn (some (.int M tb)) _ _ ⟨_, tb, rfl, hst⟩ kS fun x o _ e => e⟩)
theorem max_default {E : Value → Shared → Prop} {s : Shared} {Q : Value → Shared → Prop} {vs : List Value} (hh : A.handled = none) (hl : s.heap.IsList l vs.toArray) (hi : IntsAre vs ns)
    (h : ∀ v h' tk, ((ns = [] ∧ v = d) ∨ ∃ M t, v = .int M t ∧ IsMax M ns) → (∀ b o, s.heap.get? b = some o → h'.get? b = some o) → Q v { s with heap := h', toks := tk }) :
    wpAny (model prog w) A (call (.builtin "max") [.ref l] [("default", d)]) Q E s := by
  have hnm : (toString "max" ++ toString ".loop" : String) = "max.loop" := by decide
  obtain ⟨ol, el, _⟩ := id hl
  have llt : l < s.heap.objs.size := Heap.lt_size el
  have body : wpAny (model prog w) A.in1 (Builtin.«max» ⟨[.ref l], [("default", d)]⟩) (fun fin s' => match fin with
      | .done f => (match (Except.ok f : Result) with | .ok (.ret v) => Q v s' | .ok _ => False | .error e => E e s')
      | .again c' => c'.quiet = true ∧ codeAny (model prog w) A c' (fun r s' => match r with | .ok (.ret v) => Q v s' | .ok _ => False | .error e => E e s') s') E s := by
    show wpAny _ A.in1 (Builtin.Builtins.bindParams "max" ["key", "default"] 0 ⟨[], [("default", d)]⟩ >>= fun _ => _) _ _ s
    refine wpAny_bind (wpAny_of_eq (show Builtin.Builtins.bindParams "max" ["key", "default"] 0 ⟨[], [("default", d)]⟩ = pure [none, some d] from by with_unfolding_all rfl) (wpAny_bind (wpAny_pure ?_)))
    refine wpAny_bind (wpAny_pyIter_list hl ?_)
    refine wpAny_bind (wpAny_newObj_type ?_)
    rw [hnm]
    refine wpAny_pure ⟨plainId_quiet F.plain_max_loop _, ?_⟩
    have e1 : (s.heap.push { cls := .type "list_iterator", data := .fields #[.ref l, .int 0 0] }).objs.size = s.heap.objs.size + 1 := Heap.size_push ..
    refine max_turns (I := s.heap.objs.size) (l := l) (items := vs.toArray) (ns := ns) (d := d) hh (Nat.ne_of_lt llt) (by simpa using hi) _ (by rw [e1]; exact Nat.ne_of_gt (Nat.lt_succ_self _)) (by rw [e1]; exact Nat.ne_of_gt (Nat.lt_succ_of_lt llt)) _ 0 _ none 0 rfl (Nat.zero_le _)
      ⟨_, Heap.get?_push_of_some _ (Heap.get?_push_size _ rfl), rfl, rfl⟩ ((hl.push _).push _) rfl (Heap.get?_push_size _ rfl) fun v h' tk hv kp => ?_
    refine h v h' tk hv fun b o e => kp b o (Nat.ne_of_lt (Heap.lt_size e)) (by rw [e1]; exact Nat.ne_of_lt (Nat.lt_succ_of_lt (Heap.lt_size e))) (Heap.get?_push_of_some _ (Heap.get?_push_of_some _ e))
  refine wpAny_call (codeAny_call_builtin F.plain_max F.entry_max ?_)
  simp only [checkBuiltinCall, F.kind_max]
  have ha := max_args_kw (.ref l) d
  cases hsig : Manifest.signature? "max" with
  | none => exact wpAny_pure body
  | some sig =>
    simp only [argsOk, hsig] at ha
    have h2 : Bind.checkArgs "max" sig ⟨[.ref l], [("default", d)]⟩ = pure () := ha
    show wpAny _ A.in1 (Bind.checkArgs "max" sig ⟨[.ref l], [("default", d)]⟩) _ _ s
    rw [h2]
    exact wpAny_pure body
end
section
variable {X : Cx} {a b : Expr} {ta tb : TE} {p pos kp : Pos}
/-- max(xs, default = d) -/
theorem eMaxDef (K : PySem.W.Frag) (mm : X.mg "max" = none) (ha : PE X a ta) (hb : PE X b tb) (hc : X.calm = true := by rfl) (hg : Gl X "max" := by rfl) (hs : starEach [a] X.env = [(false, eval a X.env)] := by rfl) (hK : X.K = K := by rfl)
    (hall : (backToKw pos (keywordEach [⟨some "default", b, kp⟩] X.env)).all (·.1.isSome) = true := by rfl) (hks : (backToKw pos (keywordEach [⟨some "default", b, kp⟩] X.env)).filterMap (·.1) = ([Str.ofString "default"] : List Str) := by rfl)
    (hno : (backToKw pos (keywordEach [⟨some "default", b, kp⟩] X.env)).any (·.1.isNone) = false := by rfl) :
    PE X (.Call (.Name "max" p) [a] [⟨some "default", b, kp⟩] pos) (fun σ H Q => ta σ H fun x H1 => tb σ H1 fun y H2 => ∃ (q : Addr) (ns : List Int) (j : Int), x = .ref q ∧ y = .int j ∧ SqL K H2 q (ns.map V.int) ∧ (ns = [] → Q (.int j) H2) ∧ ∀ M, IsMax M ns → Q (.int M) H2) := by
  subst hK
  intro pins s σ H Q I h
  have hb1 : backTo pos (starEach [a] X.env) = [(false, eval a X.env)] := by rw [hs]; rfl
  refine wpAny_Call_Name_kw (ld_blt I hg mm (u := .builtin "max") rfl (callWith_builtin_kwB (by rw [hb1]; rfl) hno ?_))
  rw [hb1]
  refine evalArgs_kwB hall (Calls.spliced_cons (thn (ha pins s σ H _ I h) fun u s1 ⟨x, H1, I1, r1, q1⟩ => Calls.spliced_nil ?_))
  refine kws_cons (thn (hb pins s1 σ H1 _ I1 q1) fun u2 s2 ⟨y, H2, I2, r2, q2⟩ => kws_nil ?_)
  obtain ⟨q, ns, j, rfl, rfl, hq, hz, hm⟩ := q2
  cases r1
  obtain ⟨t, rfl⟩ := r2
  obtain ⟨its, rv, pl, _⟩ := I2.list hq
  rw [hks]
  refine max_default (d := .int j t) (I2.ok.hd hc) pl.isList (intsAre_of rv) fun v h' tk hv kp' => ?_
  rcases hv with ⟨e, rfl⟩ | ⟨M, t', rfl, hM⟩
  · exact ⟨.int j, H2, I2.kept kp', ⟨_, rfl⟩, hz e⟩
  · exact ⟨.int M, H2, I2.kept kp', ⟨_, rfl⟩, hm M hM⟩
end
end L2


set_option Elab.async false
set_option linter.all false
set_option maxRecDepth 100000
namespace L2
open PySem PySem.Spec PyProof.Rows
/-! ### the groups that no other has more of -/
def gMost (ks : List Int) : List (Int × List Int) := (gOf ks).filter fun g => (gOf ks).all fun g' => decide (g'.2.length ≤ g.2.length)
def cMost (cs : List Cel) : List Cel := cs.filter fun c => cs.all fun c' => decide (c'.2.1.length ≤ c.2.1.length)
theorem gs_most {cs : List Cel} {ks : List Int} (h : gs cs = gOf ks) : gs (cMost cs) = gMost ks := by
  unfold gMost cMost
  rw [← h]
  unfold gs
  rw [List.filter_map]
  congr 1
  refine List.filter_congr fun c _ => ?_
  simp [List.all_map, Function.comp_def]
theorem most_mem {cs : List Cel} {c : Cel} (h : c ∈ cMost cs) : c ∈ cs := (List.mem_filter.mp h).1
theorem CAt.sub {H : Hp} {cs ds : List Cel} (h : CAt H cs) (hs : ds.Sublist cs) : CAt H ds := ⟨h.nd.sublist (hs.map _), fun c hc => h.at_ c (hs.subset hc)⟩
theorem most_sub (cs : List Cel) : (cMost cs).Sublist cs := List.filter_sublist
def lens (cs : List Cel) : List Int := cs.map fun c => (c.2.1.length : Int)
theorem most_max {cs : List Cel} {M : Int} (h : lens cs = [] ∨ IsMax M (lens cs)) : cs.filter (fun c => decide ((c.2.1.length : Int) = M)) = cMost cs := by
  refine List.filter_congr fun c hc => ?_
  rcases h with h | ⟨h1, h2⟩
  · have : cs = [] := List.map_eq_nil_iff.mp h
    rw [this] at hc; simp at hc
  · have hcl := h2 _ (List.mem_map.mpr ⟨c, hc, rfl⟩)
    obtain ⟨c0, hc0, e0⟩ := List.mem_map.mp h1
    rw [Bool.eq_iff_iff]
    simp only [decide_eq_true_eq, List.all_eq_true]
    refine ⟨fun e c' hc' => ?_, fun a => ?_⟩
    · have := h2 _ (List.mem_map.mpr ⟨c', hc', rfl⟩)
      omega
    · have := a c0 hc0
      omega
theorem most_none {cs : List Cel} {c : Cel} : cs.filter (fun o => decide ((c.2.1.length : Int) < (o.2.1.length : Int))) = [] ↔ (cs.all fun c' => decide (c'.2.1.length ≤ c.2.1.length)) = true := by
  rw [List.filter_eq_nil_iff]
  simp only [decide_eq_true_eq, List.all_eq_true]
  refine ⟨fun h c' hc' => ?_, fun h c' hc' => ?_⟩
  · have := h c' hc'; omega
  · have := h c' hc'; omega
theorem dcel_gs {cs ds : List Cel} (h : gs cs = gs ds) : cs.map dCel = ds.map dCel := by
  have : ∀ es : List Cel, es.map dCel = (gs es).map fun g => PyData.list (g.2.map PyData.int) := fun es => by simp [gs, dCel, Function.comp_def]
  rw [this, this, h]
theorem lens_gs {cs ds : List Cel} (h : gs cs = gs ds) : lens cs = lens ds := by
  have : ∀ es : List Cel, lens es = (gs es).map fun g => (g.2.length : Int) := fun es => by simp [gs, lens, Function.comp_def]
  rw [this, this, h]
theorem li_cells : ∀ cs : List Cel, liAll (cs.map dCel) = true
  | [] => rfl
  | c :: r => by simp [liAll, li, dCel, li_ints, li_cells r]
end L2


set_option Elab.async false
set_option linter.all false
set_option maxRecDepth 100000
namespace L2
open PySem PySem.Spec PyProof.Rows
section
variable {X : Cx} {a b e o : Expr} {ta tb te to : TE} {p pos : Pos}
theorem eNeD (K : PySem.W.Frag) {k : Nat} (hr : Room k X.A) (ha : PE X a ta) (hb : PE X b tb) (hK : X.K = K := by rfl) :
    PE X (.Compare a [.NotEq] [b] pos) (fun σ H Q => ta σ H fun x H1 => tb σ H1 fun y H2 => ∃ d e, Dp K H2 x d ∧ Dp K H2 y e ∧ (d.canLay0 && e.canLay0 && decide (d.depth ≤ 64)) = true ∧ Q (.bl (!PyData.eqv d e)) H2) := by
  subst hK; exact pe_cmpR (op_neD hr.units) ha hb (nomark _)
/-- int(truth) -/
theorem call_intB : CallR X (.type "int") (fun xs H Q => ∃ k, xs = [V.bl k] ∧ Q (.int (if k then 1 else 0)) H) := fun pins s σ H xs us Q I r h => call_int1 pins s σ H xs us Q I r (.inr h)
theorem eInt (ml : X.mg "int" = none) (ha : PE X a ta) (hg : Gl X "int" := by rfl) (hs : starEach [a] X.env = [(false, eval a X.env)] := by rfl) :
    PE X (.Call (.Name "int" p) [a] [] pos) (fun σ H Q => ta σ H fun x H1 => ∃ k, [x] = [V.bl k] ∧ Q (.int (if k then 1 else 0)) H1) :=
  pe_callTy call_intB hg ml rfl (pa_cons ha pa_nil hs) (he := hs)
/-- range(a, b) -/
theorem iR2 (mr : X.mg "range" = none) {tg : Expr} (ha : PE X a ta) (hb : PE X b tb) (hg : Gl X "range" := by rfl) (hs : starEach [a, b] X.env = [(false, eval a X.env), (false, eval b X.env)] := by rfl) (hs2 : starEach [b] X.env = [(false, eval b X.env)] := by rfl) :
    PI X tg (.Call (.Name "range" p) [a, b] [] pos) (iRng2 (tCons ta (tCons tb tNil))) := pi_range2 hg mr (pa_cons ha (pa_cons hb pa_nil hs2) (by rw [hs, hs2])) hs hs2
/-- x in xs, x not in xs -/
theorem eIn (K : PySem.W.Frag) (ha : PE X a ta) (hb : PE X b tb) (hm : behindInMarks .In b = false := by rfl) (hK : X.K = K := by rfl) : PE X (.Compare a [.In] [b] pos) (tOp (rIn K false) ta tb) := by
  subst hK; exact pe_cmpR op_in_seq ha hb hm
theorem eNotIn (K : PySem.W.Frag) (ha : PE X a ta) (hb : PE X b tb) (hm : behindInMarks .NotIn b = false := by rfl) (hK : X.K = K := by rfl) : PE X (.Compare a [.NotIn] [b] pos) (tOp (rIn K true) ta tb) := by
  subst hK; exact pe_cmpR op_notIn_seq ha hb hm
theorem tIn (K : PySem.W.Frag) (ha : PE X a ta) (hb : PE X b tb) (hm : behindInMarks .In b = false := by rfl) (hK : X.K = K := by rfl) : PT X (.Compare a [.In] [b] pos) (tTest (tOp (rIn K false) ta tb)) := by
  subst hK; exact pt_cmpR op_in_seq ha hb hm
theorem tNotIn (K : PySem.W.Frag) (ha : PE X a ta) (hb : PE X b tb) (hm : behindInMarks .NotIn b = false := by rfl) (hK : X.K = K := by rfl) : PT X (.Compare a [.NotIn] [b] pos) (tTest (tOp (rIn K true) ta tb)) := by
  subst hK; exact pt_cmpR op_notIn_seq ha hb hm
end
mutual
theorem eqv_refl : ∀ d : PyData, d.canLay0 = true → PyData.eqv d d = true
  | .none, _ => by simp [PyData.eqv]
  | .bool _, _ => by simp [PyData.eqv]
  | .int _, _ => by simp [PyData.eqv]
  | .str _, _ => by simp [PyData.eqv]
  | .list xs, h => by
    have := eqvAll_refl xs (by simpa [PyData.canLay0] using h)
    simpa [PyData.eqv] using this
  | .tuple xs, h => by
    have := eqvAll_refl xs (by simpa [PyData.canLay0] using h)
    simpa [PyData.eqv] using this
  | .dict _, h => by simp [PyData.canLay0] at h
theorem eqvAll_refl : ∀ ds : List PyData, PyData.canLayAll0 ds = true → PyData.eqvAll ds ds = true
  | [], _ => by simp [PyData.eqvAll]
  | x :: r, h => by
    have h' : x.canLay0 = true ∧ PyData.canLayAll0 r = true := by simpa [PyData.canLayAll0] using h
    simp [PyData.eqvAll, eqv_refl x h'.1, eqvAll_refl r h'.2]
end
/-! ### asks: tuples of two things and a truth -/
abbrev Ask := Nat × Nat × Bool
abbrev ACel := Ask × Addr
def askT (a : Ask) : List V := [.int (a.1 : Int), .int (a.2.1 : Int), .bl a.2.2]
def dAsk (a : Ask) : PyData := .tuple [.int (a.1 : Int), .int (a.2.1 : Int), .bool a.2.2]
def arefs (cs : List ACel) : List V := cs.map fun c => V.ref c.2
def asksOf (cs : List ACel) : List Ask := cs.map (·.1)
def AAt (H : Hp) (cs : List ACel) : Prop := ∀ c ∈ cs, H c.2 = some (.tup (askT c.1))
/-- the tuples stay -/
def TupS (H H' : Hp) : Prop := ∀ p xs, H p = some (.tup xs) → H' p = some (.tup xs)
theorem TupS.refl {H : Hp} : TupS H H := fun _ _ h => h
theorem TupS.trans {H H' H'' : Hp} (a : TupS H H') (b : TupS H' H'') : TupS H H'' := fun p xs h => b p xs (a p xs h)
theorem Same.tups {H H' : Hp} (h : Same H H') : TupS H H' := fun p xs e => h p _ e
theorem TupS.upd {H : Hp} {l : Addr} {xs : List V} {o : HO} (h : H l = some (.lst xs)) : TupS H (L2.upd H l o) := fun p ys e => by rw [upd_ne (ne_of e h (by intro z; cases z))]; exact e
theorem AAt.to {H H' : Hp} {cs : List ACel} (h : AAt H cs) (t : TupS H H') : AAt H' cs := fun c hc => t _ _ (h c hc)
theorem AAt.snoc {H : Hp} {cs : List ACel} {a : Ask} {q : Addr} (h : AAt H cs) (hq : H q = some (.tup (askT a))) : AAt H (cs ++ [(a, q)]) := fun c hc => by
  rcases List.mem_append.mp hc with z | z
  · exact h c z
  · have : c = (a, q) := by simpa using z
    rw [this]; exact hq
theorem AAt.nil {H : Hp} : AAt H [] := fun _ h => by simp at h
theorem dp_ask {K : PySem.W.Frag} {H : Hp} {p : Addr} {a : Ask} (h : H p = some (.tup (askT a))) : Dp K H (.ref p) (dAsk a) := .tup (SqT.of h) (.cons (.int _) (.cons (.int _) (.cons (.bl _) .nil)))
theorem dps_asks {K : PySem.W.Frag} {H : Hp} : ∀ {cs : List ACel}, AAt H cs → Dps K H (arefs cs) ((asksOf cs).map dAsk)
  | [], _ => .nil
  | c :: r, h => .cons (dp_ask (h c List.mem_cons_self)) (dps_asks fun c hc => h c (List.mem_cons_of_mem _ hc))
theorem lay_asks : ∀ as : List Ask, PyData.canLayAll0 (as.map dAsk) = true
  | [] => by simp [PyData.canLayAll0]
  | a :: r => by simp [PyData.canLayAll0, PyData.canLay0, dAsk, lay_asks r]
theorem depth_asks : ∀ as : List Ask, PyData.depthAll (as.map dAsk) ≤ 1
  | [] => by simp [PyData.depthAll]
  | a :: r => by
    have := depth_asks r
    simp only [List.map_cons, PyData.depthAll, PyData.depth, dAsk]
    omega
theorem arefs_at {cs : List ACel} {i : Nat} {x : V} (h : (arefs cs)[i]? = some x) : ∃ c, cs[i]? = some c ∧ x = .ref c.2 := by
  unfold arefs at h
  rw [List.getElem?_map] at h
  cases e : cs[i]? with
  | none => rw [e] at h; cases h
  | some c => rw [e] at h; exact ⟨c, rfl, (Option.some.inj h).symm⟩
theorem in_nats {t : Nat} {ns : List Nat} : inV (.int (t : Int)) (ns.map fun (n : Nat) => V.int (n : Int)) = decide (t ∈ ns) := by
  unfold inV
  rw [Bool.eq_iff_iff, List.any_eq_true]
  simp only [decide_eq_true_eq]
  constructor
  · rintro ⟨y, hy, e⟩
    obtain ⟨n, hn, rfl⟩ := List.mem_map.mp hy
    have : n = t := by
      have e' : eqV (.int (n : Int)) (.int (t : Int)) = true := e
      simp [eqV] at e'
      omega
    rw [← this]; exact hn
  · intro h
    exact ⟨.int t, List.mem_map.mpr ⟨t, h, rfl⟩, by simp [eqV]⟩
theorem flat_nats {ns : List Nat} : (ns.map fun (n : Nat) => V.int (n : Int)).all flatV = true := by
  rw [List.all_eq_true]
  intro x hx
  obtain ⟨n, _, rfl⟩ := List.mem_map.mp hx
  rfl
end L2


set_option Elab.async false
set_option linter.all false
set_option maxRecDepth 100000
namespace L2
open PySem PySem.Spec PyProof.Rows
/-! ### asked in a row: what is gone along -/
def same2 (ks : List Int) (i j : Nat) : Bool := decide (ks.getD i 0 = ks.getD j 0)
/-- the first walk behind n things more: the asks, the taken one, the count -/
def rw1 (ks : List Int) : Nat → List Ask × Nat × Int
  | 0 => ([], 0, if ks = [] then 0 else 1)
  | n + 1 => if (rw1 ks n).2.2 > 0 then ((rw1 ks n).1 ++ [((rw1 ks n).2.1, n + 1, same2 ks (rw1 ks n).2.1 (n + 1))], (rw1 ks n).2.1, (rw1 ks n).2.2 + 2 * (if same2 ks (rw1 ks n).2.1 (n + 1) then 1 else 0) - 1) else ((rw1 ks n).1, n + 1, 1)
def rTaken (ks : List Int) : Nat := (rw1 ks (ks.length - 1)).2.1
def rAsks (ks : List Int) : List Ask := (rw1 ks (ks.length - 1)).1
def rRight0 (ks : List Int) : List Nat := (if ks = [] then [] else [rTaken ks]) ++ ((rAsks ks).filter fun a => decide (a.1 = rTaken ks) && a.2.2).map fun a => a.2.1
def rWrong0 (ks : List Int) : List Nat := ((rAsks ks).filter fun a => decide (a.1 = rTaken ks) && !a.2.2).map fun a => a.2.1
def rStop (ks : List Int) (s : List Ask × List Nat × List Nat) : Bool := decide (ks.length < 2 * s.2.1.length) || decide (ks.length ≤ 2 * s.2.2.length)
/-- the second walk: the asks, those alike, those unlike -/
def rw2 (ks : List Int) : Nat → List Ask × List Nat × List Nat
  | 0 => (rAsks ks, rRight0 ks, rWrong0 ks)
  | n + 1 => if rStop ks (rw2 ks n) then rw2 ks n else if n ∈ (rw2 ks n).2.1 ∨ n ∈ (rw2 ks n).2.2 then rw2 ks n
    else if same2 ks (rTaken ks) n then ((rw2 ks n).1 ++ [(rTaken ks, n, true)], (rw2 ks n).2.1 ++ [n], (rw2 ks n).2.2)
    else ((rw2 ks n).1 ++ [(rTaken ks, n, false)], (rw2 ks n).2.1, (rw2 ks n).2.2 ++ [n])
def rEnd (ks : List Int) : List Ask × List Nat × List Nat := rw2 ks ks.length
def rFound (ks : List Int) : Option Nat := if ks.length < 2 * (rEnd ks).2.1.length then some (rTaken ks) else none
/-- what is found, as a tuple's items and as data -/
def foundT : Option Nat → List V
  | none => [.str "none"]
  | some t => [.str "one", .int (t : Int)]
def dFound : Option Nat → PyData
  | none => .tuple [.str "none"]
  | some t => .tuple [.str "one", .int (t : Int)]
theorem rw1_taken {ks : List Int} : ∀ {n : Nat}, n + 1 ≤ ks.length → (rw1 ks n).2.1 < ks.length
  | 0, h => by simp only [rw1]; omega
  | n + 1, h => by
    have ih := rw1_taken (ks := ks) (n := n) (by omega)
    unfold rw1
    split
    · exact ih
    · show n + 1 < ks.length
      omega
theorem rw1_len {ks : List Int} : ∀ {n : Nat}, (rw1 ks n).1.length ≤ n
  | 0 => by simp [rw1]
  | n + 1 => by
    have ih := rw1_len (ks := ks) (n := n)
    unfold rw1
    split
    · simp; omega
    · show (rw1 ks n).1.length ≤ _; omega
theorem rw2_len {ks : List Int} : ∀ {n : Nat}, (rw2 ks n).1.length ≤ (rAsks ks).length + n ∧ (rw2 ks n).2.1.length ≤ (rRight0 ks).length + n ∧ (rw2 ks n).2.2.length ≤ (rWrong0 ks).length + n
  | 0 => by simp [rw2]
  | n + 1 => by
    obtain ⟨h1, h2, h3⟩ := rw2_len (ks := ks) (n := n)
    unfold rw2
    split
    · exact ⟨by omega, by omega, by omega⟩
    · split
      · exact ⟨by omega, by omega, by omega⟩
      · split
        · simp only [List.length_append, List.length_singleton]; exact ⟨by omega, by omega, by omega⟩
        · simp only [List.length_append, List.length_singleton]; exact ⟨by omega, by omega, by omega⟩
theorem rAsks_len (ks : List Int) : (rAsks ks).length ≤ ks.length := by
  have := rw1_len (ks := ks) (n := ks.length - 1)
  unfold rAsks; omega
theorem rRight_len (ks : List Int) : (rRight0 ks).length ≤ ks.length + 1 := by
  have h1 := rAsks_len ks
  have h2 := List.length_filter_le (fun a : Ask => decide (a.1 = rTaken ks) && a.2.2) (rAsks ks)
  unfold rRight0
  rw [List.length_append, List.length_map]
  split
  · simp; omega
  · simp; omega
theorem rWrong_len (ks : List Int) : (rWrong0 ks).length ≤ ks.length := by
  have h1 := rAsks_len ks
  have h2 := List.length_filter_le (fun a : Ask => decide (a.1 = rTaken ks) && !a.2.2) (rAsks ks)
  unfold rWrong0
  rw [List.length_map]; omega
/-- a stopped second walk stays -/
theorem rw2_stop {ks : List Int} {n : Nat} (h : rStop ks (rw2 ks n) = true) : ∀ m, n ≤ m → rw2 ks m = rw2 ks n
  | 0, hm => by have : n = 0 := by omega
                subst this; rfl
  | m + 1, hm => by
    by_cases e : n = m + 1
    · subst e; rfl
    · have ih := rw2_stop h m (by omega)
      show rw2 ks (m + 1) = _
      rw [rw2, ih, if_pos h]
def dRow (ks : List Int) : PyData := .tuple [.list ((rEnd ks).1.map dAsk), dFound (rFound ks)]
/-- a told pair: the tuple at r, the list of asks at a, what is found at f -/
structure ToldAt (H : Hp) (r a f : Addr) (cs : List ACel) (fo : Option Nat) : Prop where
  tup : H r = some (.tup [.ref a, .ref f])
  lst : H a = some (.lst (arefs cs))
  asks : AAt H cs
  found : H f = some (.tup (foundT fo))
theorem ToldAt.same {H H' : Hp} {r a f : Addr} {cs : List ACel} {fo : Option Nat} (h : ToldAt H r a f cs fo) (s : Same H H') : ToldAt H' r a f cs fo := ⟨s _ _ h.tup, s _ _ h.lst, h.asks.to s.tups, s _ _ h.found⟩
theorem ToldAt.dp {K : PySem.W.Frag} {H : Hp} {r a f : Addr} {cs : List ACel} {fo : Option Nat} (h : ToldAt H r a f cs fo) : Dp K H (.ref r) (.tuple [.list ((asksOf cs).map dAsk), dFound fo]) := by
  refine .tup (SqT.of h.tup) (.cons (.lst (SqL.of h.lst) (dps_asks h.asks)) (.cons ?_ .nil))
  have hf := h.found
  cases fo with
  | none => exact .tup (SqT.of hf) (.cons (.str _) .nil)
  | some t => exact .tup (SqT.of hf) (.cons (.str _) (.cons (.int _) .nil))
theorem lay_told (as : List Ask) (fo : Option Nat) : (PyData.tuple [.list (as.map dAsk), dFound fo]).canLay0 = true := by
  cases fo with
  | none => simp only [PyData.canLay0, PyData.canLayAll0, dFound, lay_asks, Bool.and_true, Bool.true_and]; decide +kernel
  | some t => simp only [PyData.canLay0, PyData.canLayAll0, dFound, lay_asks, Bool.and_true, Bool.true_and]; decide +kernel
theorem depth_told (as : List Ask) (fo : Option Nat) : (PyData.tuple [.list (as.map dAsk), dFound fo]).depth ≤ 64 := by
  have := depth_asks as
  cases fo with
  | none => simp only [PyData.depth, PyData.depthAll, dFound]; omega
  | some t => simp only [PyData.depth, PyData.depthAll, dFound]; omega
end L2
namespace L2
open PySem PySem.Spec PyProof.Rows
def spTold (K : PySem.W.Frag) (as : List Int → List Ask) (fo : List Int → Option Nat) : Sp := fun vs H Q _ => ∃ (l : Addr) (ks : List Int), vs = [.ref l] ∧ SqL K H l (ks.map V.int) ∧ ks.length ≤ 1000 ∧
  ∀ (r a f : Addr) (cs : List ACel) (H' : Hp), Same H H' → H a = none → ToldAt H' r a f cs (fo ks) → asksOf cs = as ks → Q (.ref r) H'
theorem ne_nil (ks : List Int) : (!PyData.eqv (.list (ks.map PyData.int)) (.list [])) = !decide (ks = []) := by
  cases ks <;> simp [PyData.eqv, PyData.eqvAll]
theorem lay_nil (ks : List Int) : ((PyData.list (ks.map PyData.int)).canLay0 && (PyData.list []).canLay0 && decide ((PyData.list (ks.map PyData.int)).depth ≤ 64)) = true := by
  simp [PyData.canLay0, PyData.canLayAll0, lay_ints, PyData.depth, depth_ints]
def natV (ns : List Nat) : List V := ns.map fun (n : Nat) => V.int (n : Int)
theorem natV_len (ns : List Nat) : (natV ns).length = ns.length := List.length_map _
theorem natV_snoc (ns : List Nat) (n : Nat) : natV (ns ++ [n]) = natV ns ++ [.int (n : Int)] := by simp [natV]
theorem getD_some {ks : List Int} {i : Nat} (h : i < ks.length) : ks[i]? = some (ks.getD i 0) := by rw [List.getD_eq_getElem?_getD, List.getElem?_eq_getElem h]; rfl
theorem at_kind {ks : List Int} {i : Nat} (h : i < ks.length) : atI (ks.map V.int) (i : Int) = some (.int (ks.getD i 0)) := atI_nat (by rw [List.getElem?_map, getD_some h]; rfl)
theorem same2_dec (ks : List Int) (i j : Nat) : decide (V.int (ks.getD i 0) = V.int (ks.getD j 0)) = same2 ks i j := by
  unfold same2
  rw [Bool.eq_iff_iff]
  simp
end L2


set_option Elab.async false
set_option linter.all false
set_option maxRecDepth 100000
namespace L2
open PySem PySem.Spec PyProof.Rows
section
variable {X : Cx} {pos : Pos}
/-- a, b, .. = a list of that length -/
theorem gL (K : PySem.W.Frag) {es : List Expr} {k : Nat} {t : TGs} {n : Nat} (h : PGs X es t) (hc : X.calm = true := by rfl) (hn : (assignEach es X.env).length = n := by rfl) (hst : (assignEach es X.env).findIdx? (·.1) = none := by rfl) (hK : X.K = K := by rfl) :
    PG X (.Tuple es k pos) (fun v σ H Q => ∃ a xs, v = .ref a ∧ SqL K H a xs ∧ xs.length = n ∧ t xs σ H Q) := by
  subst hK
  rintro pins s σ H v u Q I r ⟨a, xs, rfl, hq, hl, hw⟩
  cases r
  obtain ⟨its, rv, ht, hz⟩ := I.list hq
  rw [assign_Tuple]
  refine wpAny_bind (wpAny_standAt ?_)
  unfold unpack
  rw [hst, show (assignEach es X.env).length = its.toArray.size by rw [hn, ← hl, rv.length]; simp]
  refine wpAny_bind (wpAny_holding (PySem.W.kun_itemsOf (I.ok.hd hc) ht.isList fun h' hx => ?_))
  have I1 : Inv X pins σ H { s with heap := h' } := I.kept (t' := s.toks) fun b o e => hx b o (Nat.ne_of_lt (Heap.lt_size e)) e
  exact h pins _ σ H xs _ Q I1 (by simpa using rv) hw
end
/-! ### the row of unlike neighbours: asks, the row from behind, the heap -/
def laid (ks : List Int) : Nat → List Ask × List Nat × List Nat
  | 0 => ([], [], [])
  | n + 1 => match (laid ks n).2.1 with
    | [] => ((laid ks n).1, [n], (laid ks n).2.2)
    | t :: r => if same2 ks t n then ((laid ks n).1 ++ [(t, n, true)], t :: r, n :: (laid ks n).2.2)
      else ((laid ks n).1 ++ [(t, n, false)], (laid ks n).2.2.take 1 ++ [n] ++ (t :: r), (laid ks n).2.2.drop 1)
def rowLast (ks : List Int) : Nat := (laid ks ks.length).2.1.headD 0
/-- the row gone back: the asks, what is found -/
def back (ks : List Int) (t : Nat) : List Nat → Nat → List Ask → List Ask × Option Nat
  | [], left, a => (a, if 0 < left then some t else none)
  | [x], left, a => if same2 ks x t then ((if x = t then a else a ++ [(t, x, same2 ks x t)]), some t)
    else if left = 0 then ((if x = t then a else a ++ [(t, x, same2 ks x t)]), none)
    else ((if x = t then a else a ++ [(t, x, same2 ks x t)]), if 0 < left - 1 then some t else none)
  | x :: y :: r, left, a => if same2 ks x t then back ks t r left (if x = t then a else a ++ [(t, x, same2 ks x t)])
    else if left = 0 then ((if x = t then a else a ++ [(t, x, same2 ks x t)]), none)
    else back ks t (y :: r) (left - 1) (if x = t then a else a ++ [(t, x, same2 ks x t)])
def rowsEnd (ks : List Int) : List Ask × Option Nat := if ks = [] then ([], none) else back ks (rowLast ks) (laid ks ks.length).2.1 (laid ks ks.length).2.2.length (laid ks ks.length).1
theorem laid_ok {ks : List Int} : ∀ {n : Nat}, n ≤ ks.length → (laid ks n).1.length ≤ n ∧ (laid ks n).2.1.length + (laid ks n).2.2.length ≤ n ∧ (∀ x ∈ (laid ks n).2.1, x < ks.length) ∧ (∀ x ∈ (laid ks n).2.2, x < ks.length) ∧ (0 < n → (laid ks n).2.1 ≠ [])
  | 0, _ => ⟨by simp [laid], by simp [laid], fun _ h => by simp [laid] at h, fun _ h => by simp [laid] at h, fun h => by omega⟩
  | n + 1, hn => by
    obtain ⟨h1, h2, h3, h4, h5⟩ := laid_ok (ks := ks) (n := n) (by omega)
    rw [laid]
    cases e : (laid ks n).2.1 with
    | nil =>
      rw [e] at h2
      simp only [List.length_nil, Nat.zero_add] at h2
      simp only [List.length_singleton]
      refine ⟨by omega, by omega, fun x hx => ?_, h4, fun _ => by simp⟩
      have : x = n := by simpa using hx
      omega
    | cons t r =>
      rw [e] at h2 h3
      simp only [List.length_cons] at h2
      by_cases hs : same2 ks t n = true
      · simp only [hs, if_true, List.length_append, List.length_cons, List.length_nil]
        refine ⟨by omega, by omega, h3, fun x hx => ?_, fun _ => by simp⟩
        rcases List.mem_cons.mp hx with rfl | z
        · omega
        · exact h4 x z
      · simp only [hs, Bool.false_eq_true, if_false, List.length_append, List.length_cons, List.length_nil, List.length_take, List.length_drop]
        refine ⟨by omega, by omega, fun x hx => ?_, fun x hx => h4 x (List.mem_of_mem_drop hx), fun _ => by simp⟩
        rcases List.mem_append.mp hx with z | z
        · rcases List.mem_append.mp z with z | z
          · exact h4 x (List.mem_of_mem_take z)
          · have : x = n := by simpa using z
            omega
        · exact h3 x z
theorem back_len {ks : List Int} {t : Nat} : ∀ (row : List Nat) (left : Nat) (a : List Ask), (back ks t row left a).1.length ≤ a.length + row.length
  | [], left, a => by simp [back]
  | [x], left, a => by
    rw [back]
    split
    · split <;> simp
    · split
      · split <;> simp
      · split <;> simp
  | x :: y :: r, left, a => by
    have i1 := back_len (ks := ks) (t := t) r left (if x = t then a else a ++ [(t, x, same2 ks x t)])
    have i2 := back_len (ks := ks) (t := t) (y :: r) (left - 1) (if x = t then a else a ++ [(t, x, same2 ks x t)])
    have hz : (if x = t then a else a ++ [(t, x, same2 ks x t)]).length ≤ a.length + 1 := by split <;> simp
    rw [back]
    simp only [List.length_cons] at i2 ⊢
    split
    · omega
    · split
      · show (if x = t then a else a ++ [(t, x, same2 ks x t)]).length ≤ _
        omega
      · omega
def dNat (ns : List Nat) : PyData := .list (ns.map fun (n : Nat) => PyData.int (n : Int))
theorem dps_nat {K : PySem.W.Frag} {H : Hp} : ∀ ns : List Nat, Dps K H (natV ns) (ns.map fun (n : Nat) => PyData.int (n : Int))
  | [] => .nil
  | n :: r => .cons (.int _) (dps_nat r)
theorem lay_nat (ns : List Nat) : ((dNat ns).canLay0 && (PyData.list []).canLay0 && decide ((dNat ns).depth ≤ 64)) = true := by
  have e : ns.map (fun (n : Nat) => PyData.int (n : Int)) = (ns.map fun (n : Nat) => (n : Int)).map PyData.int := by simp [Function.comp_def]
  unfold dNat
  rw [e]
  exact lay_nil _
theorem eqv_nat (ns : List Nat) : PyData.eqv (dNat ns) (.list []) = decide (ns = []) := by
  cases ns <;> simp [dNat, PyData.eqv, PyData.eqvAll]
theorem cutV_take (xs : List V) (k : Nat) : cutV xs none (some (k : Int)) = xs.take k := by
  unfold cutV
  rw [HT.sIx_none, HT.sIx_nat, List.drop_zero, Nat.sub_zero]
  by_cases h : k ≤ xs.length
  · rw [Nat.min_eq_left h]
  · rw [Nat.min_eq_right (by omega), List.take_of_length_le (Nat.le_refl _), List.take_of_length_le (by omega)]
theorem cutV_drop (xs : List V) (k : Nat) : cutV xs (some (k : Int)) none = xs.drop k := by
  unfold cutV
  rw [HT.sIx_none, HT.sIx_nat]
  by_cases h : k ≤ xs.length
  · rw [Nat.min_eq_left h, List.take_of_length_le (by rw [List.length_drop]; exact Nat.le_refl _)]
  · rw [Nat.min_eq_right (by omega), List.drop_of_length_le (Nat.le_refl _), List.drop_of_length_le (by omega)]
    simp
theorem natV_take (ns : List Nat) (k : Nat) : cutV (natV ns) none (some (k : Int)) = natV (ns.take k) := by
  rw [cutV_take]; unfold natV; rw [List.map_take]
theorem natV_drop (ns : List Nat) (k : Nat) : cutV (natV ns) (some (k : Int)) none = natV (ns.drop k) := by
  rw [cutV_drop]; unfold natV; rw [List.map_drop]
theorem natV_app (ms ns : List Nat) : natV ms ++ natV ns = natV (ms ++ ns) := by unfold natV; rw [List.map_append]
theorem natV_cons (n : Nat) (ns : List Nat) : natV (n :: ns) = V.int (n : Int) :: natV ns := rfl
/-- how long the list in slot i is -/
def muAt (i : Nat) (σ : St) (H : Hp) : Nat := match σ[i]? with
  | some (some (V.ref b)) => (match H b with | some (HO.lst xs) => xs.length | _ => 0)
  | _ => 0
theorem muAt_eq {i : Nat} {σ : St} {H : Hp} {b : Addr} {xs : List V} (h : σ[i]? = some (some (.ref b))) (e : H b = some (.lst xs)) : muAt i σ H = xs.length := by
  unfold muAt; rw [h]; show (match H b with | some (HO.lst xs) => xs.length | _ => 0) = _; rw [e]
end L2


set_option Elab.async false
set_option linter.all false
set_option maxRecDepth 100000
namespace L2
open PySem PySem.Spec PyProof.Rows
/-! ### a hand of n ints -/
def Hnd (n : Nat) (H : Hp) (p : Addr) : Prop := ∃ ns : List Int, ns.length = n ∧ H p = some (.lst (ns.map V.int))
structure TookN (n : Nat) (p : Addr) (H H' : Hp) : Prop where
  eq : ∀ b, b ≠ p → H' b = H b
  hnd : Hnd n H' p
structure DrawnN (n : Nat) (p : Addr) (H H' : Hp) : Prop where
  but : But p H H'
  hnd : Hnd n H' p
section
variable {n : Nat} {p q : Addr} {H H' H'' : Hp}
theorem Hnd.some (h : Hnd n H p) : H p ≠ none := let ⟨_, _, e⟩ := h; by rw [e]; simp
theorem Hnd.ne (h : Hnd n H p) (hq : H q = none) : p ≠ q := let ⟨_, _, e⟩ := h; ne_of_none e hq
theorem TookN.keep {o : HO} (t : TookN n p H H') (e : H q = .some o) (h : q ≠ p) : H' q = .some o := by rw [t.eq q h]; exact e
theorem TookN.tups (t : TookN n p H H') (h : Hnd n H p) : TupS H H' := fun b xs e => by
  obtain ⟨_, _, e'⟩ := h
  rw [t.eq b (ne_of e e' (by intro z; cases z))]; exact e
theorem DrawnN.refl (h : Hnd n H p) : DrawnN n p H H := ⟨.refl, h⟩
theorem DrawnN.trans (h : DrawnN n p H H') (g : DrawnN n p H' H'') : DrawnN n p H H'' := ⟨h.but.trans g.but, g.hnd⟩
theorem DrawnN.took (h : DrawnN n p H H') (t : TookN n p H' H'') : DrawnN n p H H'' := ⟨fun b o z e => by rw [t.eq b z]; exact h.but b o z e, t.hnd⟩
theorem TookN.drawn (t : TookN n p H H') (h : Hnd n H p) : DrawnN n p H H' := (DrawnN.refl h).took t
theorem DrawnN.keep {o : HO} (h : DrawnN n p H H') (e : H q = .some o) (z : q ≠ p) : H' q = .some o := h.but q o z e
theorem DrawnN.free (h : DrawnN n p H H') (hq : H' q = none) : H q = none := by
  cases e : H q with
  | none => rfl
  | some o =>
    by_cases z : q = p
    · subst z; exact absurd hq h.hnd.some
    · rw [h.but q o z e] at hq; cases hq
theorem DrawnN.laid {o : HO} (h : DrawnN n p H H') (l : Laid q o H' H'') : DrawnN n p H H'' := by
  obtain ⟨ns, e1, e2⟩ := h.hnd
  exact ⟨fun b u z e => l.keep (h.but b u z e), ns, e1, l.keep e2⟩
theorem DrawnN.tups (d : DrawnN n p H H') (h : Hnd n H p) : TupS H H' := fun b xs e => by
  obtain ⟨_, _, e'⟩ := h
  exact d.but b _ (ne_of e e' (by intro z; cases z)) e
end
def spTakeN (n : Nat) : Sp := fun vs H Q _ => ∃ (p : Addr) (m : Int), vs = [.ref p, .int m] ∧ Hnd n H p ∧ 0 < m ∧ m < 2 ^ 200 ∧ ∀ (r : Int) (H' : Hp), 0 ≤ r → r < m → TookN n p H H' → Q (.int r) H'
section
variable {X : Cx}
/-- // by a positive number of up to two hundred bits -/
theorem op_fdivW : OpR X (binaryOp .FloorDiv) (rI (fun _ j => 0 < j ∧ j < 2 ^ 200) fun i j => .int (i / j)) := opI fun i j _ _ _ _ _ hc q => by
  obtain ⟨h1, h2⟩ := hc
  refine floordiv_int (by omega) (by rw [Int.fdiv_eq_ediv_of_nonneg i (by omega)]; exact q) (.inl (PyProof.noPylong_of_log2 ?_))
  have h3 : j.natAbs ≠ 0 := by omega
  have h4 : j.natAbs < 2 ^ 200 := by
    have : ((j.natAbs : Nat) : Int) = j := by omega
    have h5 : ((j.natAbs : Nat) : Int) < ((2 ^ 200 : Nat) : Int) := by rw [this]; exact_mod_cast h2
    omega
  have := (Nat.log2_lt h3).mpr h4
  omega
/-- max(ints), not empty -/
theorem eMaxL (K : PySem.W.Frag) {a : Expr} {ta : TE} {p pos : Pos} (mm : X.mg "max" = none) (ha : PE X a ta) (hc : X.calm = true := by rfl) (hg : Gl X "max" := by rfl) (hs : starEach [a] X.env = [(false, eval a X.env)] := by rfl) (hK : X.K = K := by rfl) :
    PE X (.Call (.Name "max" p) [a] [] pos) (fun σ H Q => ta σ H fun x H1 => ∃ (q : Addr) (ns : List Int), [x] = [.ref q] ∧ SqL K H1 q (ns.map V.int) ∧ ns ≠ [] ∧ ∀ M, IsMax M ns → Q (.int M) H1) := by
  subst hK
  have rule : CallR X (.builtin "max") (fun xs H Q => ∃ (q : Addr) (ns : List Int), xs = [.ref q] ∧ SqL X.K H q (ns.map V.int) ∧ ns ≠ [] ∧ ∀ M, IsMax M ns → Q (.int M) H) := by
    intro pins s σ H xs us Q I r h
    obtain ⟨q, ns, rfl, hq, hne, k⟩ := h
    obtain ⟨u, rfl, ru⟩ := vals1 r
    cases ru
    obtain ⟨its, rv, pl, hz⟩ := I.list hq
    have hi := intsAre_of rv
    obtain ⟨xs, e⟩ := hi.allInts.items; have hl := pl.isList; rw [e] at hl
    have hns : xs.toList.map (·.1) = ns := by rw [← hi.numsOf, ← nums_intItems, ← e]
    have hsz : 0 < xs.size := by
      rcases Nat.eq_zero_or_pos xs.size with z | z
      · exact absurd (by rw [← hns, List.map_eq_nil_iff]; exact List.length_eq_zero_iff.mp (by simpa using z)) hne
      · exact z
    have hlen : (xs.toList.map (·.1)).length = xs.size := by rw [List.length_map, Array.length_toList]
    refine max_intList (I.ok.hd hc) hl hsz fun v h' tk hv hk => ?_
    obtain ⟨t, rfl⟩ := intItems_at hv; have best := argBest_gt (numAt xs) (xs.size - 1)
    refine ⟨.int _, H, I.kept hk, ⟨_, rfl⟩, k _ ⟨?_, fun a ha => ?_⟩⟩
    · rw [← hns, numAt_eq]; have := best.1; exact getD_mem (by rw [hlen]; omega)
    · rw [← hns] at ha; obtain ⟨j, hj, e2⟩ := mem_getD ha; rw [hlen] at hj
      rw [← e2, ← numAt_eq]; exact best.2 j (by omega)
  exact pe_callB rule hg mm rfl (pa_cons ha pa_nil hs) (he := hs)
end
/-! ### trees of asks -/
inductive Tr where
  | none
  | one (i : Int)
  | ask (i j : Int) (a u : Tr)
def Tr.deep : Tr → Nat
  | .none => 0
  | .one _ => 0
  | .ask _ _ a u => 1 + max a.deep u.deep
def TrAt (H : Hp) : V → Tr → Prop
  | v, .none => ∃ p, v = .ref p ∧ H p = some (.tup [.str "none"])
  | v, .one i => ∃ p, v = .ref p ∧ H p = some (.tup [.str "one", .int i])
  | v, .ask i j a u => ∃ p x y, v = .ref p ∧ H p = some (.tup [.str "ask", .int i, .int j, x, y]) ∧ TrAt H x a ∧ TrAt H y u
theorem TrAt.to {H H' : Hp} (s : TupS H H') : ∀ {v : V} {t : Tr}, TrAt H v t → TrAt H' v t
  | _, .none, ⟨p, e, h⟩ => ⟨p, e, s _ _ h⟩
  | _, .one _, ⟨p, e, h⟩ => ⟨p, e, s _ _ h⟩
  | _, .ask _ _ _ _, ⟨p, x, y, e, h, a, b⟩ => ⟨p, x, y, e, s _ _ h, a.to s, b.to s⟩
theorem Laid.tups {q : Addr} {o : HO} {H H' : Hp} (l : Laid q o H H') : TupS H H' := l.same.tups
section
variable {X : Cx}
theorem eSlT (K : PySem.W.Frag) {e : Expr} {te : TE} {lo hi : Option Expr} {tl th : TO} {p2 pos : Pos} (he : PE X e te) (hl : PO X lo tl) (hu : PO X hi th) (hK : X.K = K := by rfl) :
    PE X (.Subscript e (.Slice lo hi none p2) pos) (tSl (rSlT K) te tl th) := by
  subst hK; exact pe_slice sl_tup he hl hu
end
theorem comp_tupT {K : PySem.W.Frag} {g : TG} {te : TE} {D : Addr} {σ0 : St} {H0 : Hp} {Z : Hp → Prop} {a : Addr} {xs : List V} (Pv : Nat → St → Hp → Prop) (h0 : Pv 0 σ0 (upd H0 D (.lst []))) (hl : ∀ i σ H, i ≤ xs.length → Pv i σ H → SqT K H a xs)
    (hs : ∀ i x σ H, xs[i]? = some x → Pv i σ H → g x σ H fun σ2 H2 => te σ2 H2 fun v H4 => ∃ ys, H4 D = some (.lst ys) ∧ ys.length < sizeLine ∧ Pv (i + 1) σ2 (upd H4 D (.lst (ys ++ [v]))))
    (hd : ∀ σ H, Pv xs.length σ H → Z H) : CompTurns (Itt K a) g tYes te D σ0 H0 Z := by
  refine ⟨fun i m σ H => m = xs.length - i ∧ i ≤ xs.length ∧ Pv i σ H, ⟨xs.length, by simp, Nat.zero_le _, h0⟩, ?_⟩
  rintro i m σ H ⟨rfl, hi, pv⟩
  have st := hl i σ H hi pv
  by_cases hlt : i < xs.length
  · refine .inr ⟨⟨xs, xs[i], st, by simp [hlt]⟩, Pv (i + 1), fun σ' H' p' => ⟨xs.length - (i + 1), by omega, rfl, hlt, p'⟩, fun x H' y => ?_⟩
    obtain ⟨e, y⟩ := y
    subst e
    have := hs i x σ _ (y xs st) pv
    simpa only [tYes, if_true] using this
  · have e : i = xs.length := by omega
    subst e
    exact .inl ⟨⟨xs, st, Nat.le_refl _⟩, hd σ H pv⟩
end L2


set_option Elab.async false
set_option linter.all false
set_option maxRecDepth 100000
namespace L2
open PySem PySem.Spec PyProof.Rows
theorem vals_bl : ∀ {bs : List Bool} {us : List Value}, Vals (bs.map V.bl) us → us = bs.map Value.bool
  | [], _, h => by cases h; rfl
  | b :: r, _, h => by
    cases h with
    | cons h1 h2 =>
      cases (show _ = Value.bool b from h1)
      rw [vals_bl h2]; rfl
section
variable {X : Cx} {a b o : Expr} {ta tb to : TE} {p pos : Pos}
/-- xs[i] of a list or a tuple -/
theorem eIxS (K : PySem.W.Frag) (ha : PE X a ta) (hb : PE X b tb) (hs : PlainIx b := by exact fun _ _ => rfl) (hK : X.K = K := by rfl) :
    PE X (.Subscript a b pos) (tOp (fun x y H Q => rIxL K x y H Q ∨ rIxT K x y H Q) ta tb) := by
  subst hK; exact pe_ix (ix_list.or ix_tup) ha hb hs
/-- all(truths) -/
theorem eAll (K : PySem.W.Frag) (mm : X.mg "all" = none) (ha : PE X a ta) (hc : X.calm = true := by rfl) (hg : Gl X "all" := by rfl) (hs : starEach [a] X.env = [(false, eval a X.env)] := by rfl) (hK : X.K = K := by rfl) :
    PE X (.Call (.Name "all" p) [a] [] pos) (fun σ H Q => ta σ H fun x H1 => ∃ (q : Addr) (bs : List Bool), [x] = [.ref q] ∧ SqL K H1 q (bs.map V.bl) ∧ Q (.bl (bs.all id)) H1) := by
  subst hK
  have rule : CallR X (.builtin "all") (fun xs H Q => ∃ (q : Addr) (bs : List Bool), xs = [.ref q] ∧ SqL X.K H q (bs.map V.bl) ∧ Q (.bl (bs.all id)) H) := by
    intro pins s σ H xs us Q I r h
    obtain ⟨q, bs, rfl, hq, k⟩ := h
    obtain ⟨u, rfl, ru⟩ := vals1 r
    cases ru
    obtain ⟨its, rv, pl, hz⟩ := I.list hq
    have ei : its = bs.map Value.bool := vals_bl rv
    subst ei
    obtain ⟨ol, el, _⟩ := id pl.isList
    have qlt : q < s.heap.objs.size := Heap.lt_size el
    refine call_all_walk (wpAny_pyIter_list pl.isList ⟨_, _, _, _, _, _, fun i => bs.getD i false, rfl, Walks.list (A := X.A.in1) (I.ok.hd hc) _ q (Nat.ne_of_lt qlt) (bs.map Value.bool).toArray, ⟨⟨_, Heap.get?_push_size _ rfl, rfl, rfl⟩, pl.isList.push _⟩, ?_, fun h' tk keep => ?_⟩)
    · intro i v s' Q' E' hv hQ
      have hv' : (bs.map Value.bool)[i]? = some v := by simpa using hv
      rw [List.getElem?_map] at hv'
      cases eb : bs[i]? with
      | none => rw [eb] at hv'; cases hv'
      | some b =>
        rw [eb] at hv'
        have : v = .bool b := (Option.some.inj hv').symm
        subst this
        have e2 : bs.getD i false = b := by rw [List.getD_eq_getElem?_getD, eb]; rfl
        simp only [e2] at hQ
        exact wpAny_truthy_bool hQ
    · have ea : (List.range (bs.map Value.bool).toArray.size).all (fun i => bs.getD i false) = bs.all id := by
        rw [Bool.eq_iff_iff, List.all_eq_true, List.all_eq_true]
        constructor
        · intro hh b hb
          obtain ⟨i, hi⟩ := List.getElem?_of_mem hb
          have := hh i (by simp; exact (List.getElem?_eq_some_iff.mp hi).1)
          rw [List.getD_eq_getElem?_getD, hi] at this
          exact this
        · intro hh i hi
          have hi' : i < bs.length := by simpa using hi
          rw [List.getD_eq_getElem?_getD, List.getElem?_eq_getElem hi']
          exact hh _ (List.getElem_mem hi')
      rw [ea]
      have kp : ∀ b o, s.heap.get? b = some o → h'.get? b = some o := fun b o e => keep b o (fun hm => absurd (List.mem_singleton.mp hm) (Nat.ne_of_lt (Heap.lt_size e))) (Heap.get?_push_of_some _ e)
      exact ⟨.bl _, H, I.kept kp, rfl, k⟩
  exact pe_callB rule hg mm rfl (pa_cons ha pa_nil hs) (he := hs)
/-- xs.count(k), xs.index(k) of ints -/
def isInt (k : Int) : Value → Bool
  | .int a _ => a == k
  | _ => false
theorem eq_int {its : List Value} {ns : List Int} (h : IntsAre its ns) (k : Int) (t : Tok) : ∀ y, y ∈ its.toArray → MeetsSeq.EqGives y (.int k t) (isInt k y) := by
  intro y hy
  have hy' : y ∈ its := by simpa using hy
  obtain ⟨i, hi⟩ := List.getElem?_of_mem hy'
  obtain ⟨t', rfl⟩ := ints_get h hi
  exact MeetsSeq.EqGives.int _ _ _ _
theorem count_int {k : Int} : ∀ {its : List Value} {ns : List Int}, IntsAre its ns → its.countP (isInt k) = ns.count k
  | _, _, .nil => rfl
  | _, _, .cons n t h => by
    rw [List.countP_cons, List.count_cons, count_int h]
    rfl
def rCount : V → List V → Hp → VK → Prop := fun x vs H Q => ∃ (l : Addr) (ns : List Int) (k : Int), x = .ref l ∧ vs = [.int k] ∧ H l = some (.lst (ns.map V.int)) ∧ Q (.int (ns.count k : Nat)) H
theorem mt_count : MtM X "list.count" rCount := by
  intro pins s σ H x vs v us Q I rx rv h
  obtain ⟨l, ns, k, rfl, rfl, hH, q⟩ := h
  cases rx
  obtain ⟨u, rfl, ru⟩ := rv.one
  obtain ⟨t, rfl⟩ := ru
  obtain ⟨z, its, n, r, hl, e⟩ := I.lstM hH
  refine call_meets F.slot_list_count ⟨_, e, rfl⟩ F.entry_list_count (F.args_list_count_2 _ _) (MeetsSeq.list_count l its.toArray n (.int k t) (isInt k) (eq_int (intsAre_of r) k t)) ⟨e, ?_⟩
  refine ⟨.int _, H, I.tok _, ⟨_, rfl⟩, ?_⟩
  have ec : its.toArray.toList.countP (isInt k) = ns.count k := by rw [← count_int (intsAre_of r)]
  rw [ec]
  exact q
def rIndex : V → List V → Hp → VK → Prop := fun x vs H Q => ∃ (l : Addr) (ns : List Int) (k : Int) (j : Nat), x = .ref l ∧ vs = [.int k] ∧ H l = some (.lst (ns.map V.int)) ∧ ns[j]? = some k ∧ (∀ m, m < j → ns[m]? ≠ some k) ∧ Q (.int (j : Nat)) H
theorem mt_index : MtM X "list.index" rIndex := by
  intro pins s σ H x vs v us Q I rx rv h
  obtain ⟨l, ns, k, j, rfl, rfl, hH, hj, hno, q⟩ := h
  cases rx
  obtain ⟨u, rfl, ru⟩ := rv.one
  obtain ⟨t, rfl⟩ := ru
  obtain ⟨z, its, n, r, hl, e⟩ := I.lstM hH
  have hi := intsAre_of r
  have hlen : its.length = ns.length := hi.length
  have hjl : j < its.toArray.size := by
    have := (List.getElem?_eq_some_iff.mp hj).1
    rw [List.size_toArray]; omega
  have hz' : ns.length ≤ sizeLine := by
    have zz := z
    rw [List.length_map] at zz
    omega
  have hval : ∀ (m : Nat) (hm : m < its.toArray.size), isInt k its.toArray[m] = decide (ns[m]? = some k) := fun m hm => by
    have hm' : m < its.length := by simpa using hm
    obtain ⟨t', e1⟩ := ints_get hi (List.getElem?_eq_getElem hm')
    have e2 : its.toArray[m] = its[m] := by simp
    rw [e2, e1]
    have e3 : ns[m]? = some (ns.getD m 0) := getD_some (by omega)
    rw [e3]
    show (ns.getD m 0 == k) = _
    rw [Bool.eq_iff_iff]
    simp
  refine call_meets F.slot_list_index ⟨_, e, rfl⟩ F.entry_list_index (F.args_list_index_2 _ _) (MeetsSeq.list_index l its.toArray n (.int k t) (isInt k) (eq_int hi k t) j hjl ?_ ?_ ?_) ⟨e, ?_⟩
  · have : j < sizeLine := by rw [List.size_toArray] at hjl; omega
    rw [sizeLine_eq] at this
    omega
  · rw [hval j hjl]; exact decide_eq_true hj
  · intro m hm hlt
    rw [hval m hm]; exact decide_eq_false (hno m hlt)
  · exact ⟨.int _, H, I.tok _, ⟨_, rfl⟩, q⟩
theorem e_count (K : PySem.W.Frag) {apos : Pos} (ho : PE X o to) (ha : PE X a ta) (hs : starEach [a] X.env = [(false, eval a X.env)] := by rfl)
    (hbase : attributeBase o "count" X.env (eval o X.env) = eval o X.env := by rfl) (hline : (apos.endLine == pos.line) = true := by rfl) (hK : X.K = K := by rfl)
    (hfew : ((backTo pos (starEach [a] X.env)).all (fun x => !x.1) && (backToKw pos (keywordEach [] X.env)).all (fun x => x.1.isSome)
      && decide ([a].length + ([] : List Keyword).length + (if ([] : List Keyword).isEmpty then 0 else 1) < 30)) = true := by rfl) :
    PE X (.Call (.Attribute o "count" apos) [a] [] pos) (tBM K "list" rCount to (tCons ta tNil)) := by
  subst hK
  exact pe_bm PySem.F.plainAttrs_list PySem.F.slot_list_count PySem.F.type_list_count mt_count ho (pa_cons ha pa_nil hs) hbase hfew hline hs
theorem e_index (K : PySem.W.Frag) {apos : Pos} (ho : PE X o to) (ha : PE X a ta) (hs : starEach [a] X.env = [(false, eval a X.env)] := by rfl)
    (hbase : attributeBase o "index" X.env (eval o X.env) = eval o X.env := by rfl) (hline : (apos.endLine == pos.line) = true := by rfl) (hK : X.K = K := by rfl)
    (hfew : ((backTo pos (starEach [a] X.env)).all (fun x => !x.1) && (backToKw pos (keywordEach [] X.env)).all (fun x => x.1.isSome)
      && decide ([a].length + ([] : List Keyword).length + (if ([] : List Keyword).isEmpty then 0 else 1) < 30)) = true := by rfl) :
    PE X (.Call (.Attribute o "index" apos) [a] [] pos) (tBM K "list" rIndex to (tCons ta tNil)) := by
  subst hK
  exact pe_bm PySem.F.plainAttrs_list PySem.F.slot_list_index PySem.F.type_list_index mt_index ho (pa_cons ha pa_nil hs) hbase hfew hline hs
end
end L2


set_option Elab.async false
set_option linter.all false
set_option maxRecDepth 100000
namespace L2
open PySem PySem.Spec PyProof.Rows
mutual
/-- ints, truths, texts, lists and tuples of such -/
def okD : PyData → Bool
  | .int _ => true
  | .bool _ => true
  | .str _ => true
  | .list ds => decide (ds.length ≤ 1000000) && okAll ds
  | .tuple ds => decide (ds.length ≤ 1000000) && okAll ds
  | _ => false
def okAll : List PyData → Bool
  | [] => true
  | d :: r => okD d && okAll r
end
theorem okAll_get : ∀ {ds : List PyData} {i : Nat} {d : PyData}, okAll ds = true → ds[i]? = some d → okD d = true
  | [], _, _, _, h => by simp at h
  | x :: r, 0, _, hl, h => by
    have : x = _ := Option.some.inj h
    subst this
    simp only [okAll, Bool.and_eq_true] at hl
    exact hl.1
  | x :: r, i + 1, _, hl, h => by
    simp only [okAll, Bool.and_eq_true] at hl
    exact okAll_get (i := i) hl.2 h
theorem ok_ints : ∀ ns : List Int, okAll (ns.map PyData.int) = true
  | [] => rfl
  | n :: r => by simp [okAll, okD, ok_ints r]
theorem ok_asks : ∀ as : List Ask, okAll (as.map dAsk) = true
  | [] => rfl
  | a :: r => by simp [okAll, okD, dAsk, ok_asks r]
/-- a list or a tuple with its items -/
def SqS (K : PySem.W.Frag) (H : Hp) (a : Addr) (xs : List V) : Prop := SqL K H a xs ∨ SqT K H a xs
theorem Same.ss {K : PySem.W.Frag} {H H' : Hp} (g : Same H H') {a : Addr} {xs : List V} (h : SqS K H a xs) : SqS K H' a xs := h.elim (fun z => .inl (g.seq z)) (fun z => .inr (g.tp z))
structure SeqBoth (K : PySem.W.Frag) (H : Hp) (a b : Addr) (xs ys : List V) (ds : List PyData) (ty : String) : Prop where
  t : ty = "list" ∨ ty = "tuple"
  sx : SqS K H a xs
  sy : SqS K H b ys
  dx : Dps K H xs ds
  dy : Dps K H ys ds
  tx : ∀ H1, Same H H1 → TyN K H1 (.ref a) ty
  ty' : ∀ H1, Same H H1 → TyN K H1 (.ref b) ty
theorem dp_both {K : PySem.W.Frag} {H : Hp} {x y : V} {d : PyData} (hx : Dp K H x d) (hy : Dp K H y d) (hok : okD d = true) :
    (∃ i, x = .int i ∧ y = .int i) ∨ (∃ b, x = .bl b ∧ y = .bl b) ∨ (∃ z, x = .str z ∧ y = .str z) ∨ ∃ a b xs ys ds ty, x = .ref a ∧ y = .ref b ∧ SeqBoth K H a b xs ys ds ty ∧ okAll ds = true ∧ ds.length ≤ 1000000 ∧ d.depth = PyData.depthAll ds + 1 := by
  cases hy with
  | non => simp [okD] at hok
  | int i => cases hx; exact .inl ⟨_, rfl, rfl⟩
  | bl b => cases hx; exact .inr (.inl ⟨_, rfl, rfl⟩)
  | str z => cases hx; exact .inr (.inr (.inl ⟨_, rfl, rfl⟩))
  | lst hyl hys =>
    cases hx with
    | lst hxl hxs => exact .inr (.inr (.inr ⟨_, _, _, _, _, "list", rfl, rfl, ⟨.inl rfl, .inl hxl, .inl hyl, hxs, hys, fun H1 g => .lst (g.seq hxl), fun H1 g => .lst (g.seq hyl)⟩, (by simp only [okD, Bool.and_eq_true] at hok; exact hok.2), (by simp only [okD, Bool.and_eq_true] at hok; exact of_decide_eq_true hok.1), by simp only [PyData.depth]⟩))
  | tup hyl hys =>
    cases hx with
    | tup hxl hxs => exact .inr (.inr (.inr ⟨_, _, _, _, _, "tuple", rfl, rfl, ⟨.inr rfl, .inr hxl, .inr hyl, hxs, hys, fun H1 g => .tup (g.tp hxl), fun H1 g => .tup (g.tp hyl)⟩, (by simp only [okD, Bool.and_eq_true] at hok; exact hok.2), (by simp only [okD, Bool.and_eq_true] at hok; exact of_decide_eq_true hok.1), by simp only [PyData.depth]⟩))
end L2


set_option Elab.async false
set_option linter.all false
set_option maxRecDepth 100000
namespace L2
open PySem PySem.Spec PyProof.Rows
theorem in_ints {k : Int} {ns : List Int} : inV (.int k) (ns.map V.int) = decide (k ∈ ns) := by
  unfold inV
  rw [Bool.eq_iff_iff, List.any_eq_true]
  simp only [decide_eq_true_eq]
  constructor
  · rintro ⟨y, hy, e⟩
    obtain ⟨n, hn, rfl⟩ := List.mem_map.mp hy
    have : n = k := by
      have e' : eqV (.int n) (.int k) = true := e
      simpa [eqV] using e'
    rw [← this]; exact hn
  · intro h
    exact ⟨.int k, List.mem_map.mpr ⟨k, h, rfl⟩, by simp [eqV]⟩
theorem flat_ints {ns : List Int} : (ns.map V.int).all flatV = true := by
  rw [List.all_eq_true]
  intro x hx
  obtain ⟨n, _, rfl⟩ := List.mem_map.mp hx
  rfl
/-! ### asked one by one: the kinds in order, their first things, the asks -/
def obUp (o : List Int) (k : Int) : Nat := if k ∈ o then o.idxOf k + 1 else o.length
def obAsks (o : List Int) (fs : List Nat) (n : Nat) (k : Int) (m : Nat) : List Ask := (List.range m).map fun at_ => (fs.getD at_ 0, n, decide (o.getD at_ 0 = k))
def ob (ks : List Int) : Nat → List Int × List Nat × List Ask
  | 0 => ([], [], [])
  | n + 1 => (if ks.getD n 0 ∈ (ob ks n).1 then (ob ks n).1 else (ob ks n).1 ++ [ks.getD n 0],
      if ks.getD n 0 ∈ (ob ks n).1 then (ob ks n).2.1 else (ob ks n).2.1 ++ [n],
      (ob ks n).2.2 ++ obAsks (ob ks n).1 (ob ks n).2.1 n (ks.getD n 0) (obUp (ob ks n).1 (ks.getD n 0)))
theorem ob_len (ks : List Int) : ∀ n, (ob ks n).1.length ≤ n ∧ (ob ks n).2.1.length = (ob ks n).1.length ∧ (ob ks n).2.2.length ≤ n * n
  | 0 => by simp [ob]
  | n + 1 => by
    obtain ⟨h1, h2, h3⟩ := ob_len ks n
    have hu : obUp (ob ks n).1 (ks.getD n 0) ≤ n := by
      unfold obUp
      split
      · rename_i hm
        have := List.idxOf_lt_length_of_mem hm
        omega
      · exact h1
    rw [ob]
    refine ⟨?_, ?_, ?_⟩
    · show (if _ then _ else _ : List Int).length ≤ _
      split
      · omega
      · rw [List.length_append, List.length_singleton]; omega
    · show (if _ then _ else _ : List Nat).length = (if _ then _ else _ : List Int).length
      split
      · exact h2
      · rw [List.length_append, List.length_append, h2]; rfl
    · show (_ ++ _ : List Ask).length ≤ _
      rw [List.length_append]
      unfold obAsks
      rw [List.length_map, List.length_range, Nat.succ_mul, Nat.mul_succ]
      omega
def FirstMax (o ks : List Int) (k : Int) : Prop := ∃ j, o[j]? = some k ∧ (∀ (i : Nat) (k' : Int), o[i]? = some k' → ks.count k' ≤ ks.count k) ∧ ∀ (i : Nat) (k' : Int), i < j → o[i]? = some k' → ks.count k' < ks.count k
theorem FirstMax.uniq {o ks : List Int} {k k' : Int} (h : FirstMax o ks k) (h' : FirstMax o ks k') : k = k' := by
  obtain ⟨j, a1, a2, a3⟩ := h
  obtain ⟨j', b1, b2, b3⟩ := h'
  by_cases e : j = j'
  · subst e; rw [a1] at b1; exact Option.some.inj b1
  · rcases Nat.lt_or_gt_of_ne e with z | z
    · have := b3 j k z a1
      have := a2 j' k' b1
      omega
    · have := a3 j' k' z b1
      have := b2 j k a1
      omega
def thingsOf (ks : List Int) (k : Int) : List Nat := (List.range ks.length).filter fun t => decide (ks.getD t 0 = k)
def DueTh (ks : List Int) (th : List Nat) : Prop := (ks = [] ∧ th = []) ∨ ∃ k, FirstMax (ob ks ks.length).1 ks k ∧ th = thingsOf ks k
theorem ob_nil {ks : List Int} (h : (ob ks ks.length).1 = []) : ks = [] := by
  cases hk : ks.length with
  | zero => exact List.length_eq_zero_iff.mp hk
  | succ n =>
    rw [hk, ob] at h
    have h' : (if ks.getD n 0 ∈ (ob ks n).1 then (ob ks n).1 else (ob ks n).1 ++ [ks.getD n 0]) = [] := h
    split at h'
    · rename_i hm; rw [h'] at hm; simp at hm
    · simp at h'
theorem DueTh.uniq {ks : List Int} {a b : List Nat} (h : DueTh ks a) (g : DueTh ks b) : a = b := by
  rcases h with ⟨e, rfl⟩ | ⟨k, h1, rfl⟩
  · rcases g with ⟨_, rfl⟩ | ⟨k, ⟨j, g1, _⟩, rfl⟩
    · rfl
    · subst e; simp [ob] at g1
  · rcases g with ⟨e, rfl⟩ | ⟨k', g1, rfl⟩
    · subst e
      obtain ⟨j, z, _⟩ := h1
      simp [ob] at z
    · rw [h1.uniq g1]
theorem things_len (ks : List Int) (k : Int) : (thingsOf ks k).length ≤ ks.length := by
  have := List.length_filter_le (fun t => decide (ks.getD t 0 = k)) (List.range ks.length)
  rw [List.length_range] at this
  exact this
structure DueAt (H : Hp) (r a b : Addr) (cs : List ACel) (th : List Nat) : Prop where
  tup : H r = some (.tup [.ref a, .ref b])
  lst : H a = some (.lst (arefs cs))
  asks : AAt H cs
  things : H b = some (.lst (natV th))
theorem DueAt.same {H H' : Hp} {r a b : Addr} {cs : List ACel} {th : List Nat} (h : DueAt H r a b cs th) (s : Same H H') : DueAt H' r a b cs th := ⟨s _ _ h.tup, s _ _ h.lst, h.asks.to s.tups, s _ _ h.things⟩
theorem DueAt.dp {K : PySem.W.Frag} {H : Hp} {r a b : Addr} {cs : List ACel} {th : List Nat} (h : DueAt H r a b cs th) : Dp K H (.ref r) (.tuple [.list ((asksOf cs).map dAsk), dNat th]) :=
  .tup (SqT.of h.tup) (.cons (.lst (SqL.of h.lst) (dps_asks h.asks)) (.cons (.lst (SqL.of h.things) (dps_nat _)) .nil))
theorem ok_nat (ns : List Nat) : okAll (ns.map fun (n : Nat) => PyData.int (n : Int)) = true := by
  have e : ns.map (fun (n : Nat) => PyData.int (n : Int)) = (ns.map fun (n : Nat) => (n : Int)).map PyData.int := by simp [Function.comp_def]
  rw [e]; exact ok_ints _
theorem ok_due {as : List Ask} {th : List Nat} (h1 : as.length ≤ 1000000) (h2 : th.length ≤ 1000000) : okD (.tuple [.list (as.map dAsk), dNat th]) = true := by
  simp only [okD, okAll, dNat, ok_asks, ok_nat, List.length_map, List.length_cons, List.length_nil, Bool.and_true, Bool.and_eq_true, decide_eq_true_eq]
  omega
theorem depth_due (as : List Ask) (th : List Nat) : (PyData.tuple [.list (as.map dAsk), dNat th]).depth ≤ 3 := by
  have h1 := depth_asks as
  have e : th.map (fun (n : Nat) => PyData.int (n : Int)) = (th.map fun (n : Nat) => (n : Int)).map PyData.int := by simp [Function.comp_def]
  simp only [PyData.depth, PyData.depthAll, dNat, e, depth_ints]
  omega
def spDue (K : PySem.W.Frag) : Sp := fun vs H Q _ => ∃ (l : Addr) (ks : List Int), vs = [.ref l] ∧ SqL K H l (ks.map V.int) ∧ H l = some (.lst (ks.map V.int)) ∧ ks.length ≤ 1000 ∧
  ∀ (r a b : Addr) (cs : List ACel) (th : List Nat) (H' : Hp), Same H H' → H a = none → H b = none → a ≠ b → DueAt H' r a b cs th → asksOf cs = (ob ks ks.length).2.2 → DueTh ks th → Q (.ref r) H'
theorem int_get {ks : List Int} {i : Nat} {x : V} (h : (ks.map V.int)[i]? = some x) : x = .int (ks.getD i 0) ∧ i < ks.length := by
  rw [List.getElem?_map] at h
  cases e : ks[i]? with
  | none => rw [e] at h; cases h
  | some z =>
    rw [e] at h
    have hz : ks.getD i 0 = z := by rw [List.getD_eq_getElem?_getD, e]; rfl
    rw [hz]
    exact ⟨(Option.some.inj h).symm, (List.getElem?_eq_some_iff.mp e).1⟩
/-- a comprehension over enumerate(list), the list staying as it is -/
theorem comp_enum {K : PySem.W.Frag} {g : TG} {tc : TT} {te : TE} {D : Addr} {σ0 : St} {H0 : Hp} {Z : Hp → Prop} {a : Addr} {xs : List V} (Pv : Nat → St → Hp → Prop) (h0 : Pv 0 σ0 (upd H0 D (.lst [])))
    (hl : ∀ i σ H, i ≤ xs.length → Pv i σ H → SqL K H a xs)
    (hs : ∀ i x σ H p, xs[i]? = some x → Pv i σ H → H p = none → g (.ref p) σ (upd H p (.tup [.int (i : Nat), x])) fun σ2 H2 => tc σ2 H2 fun b H3 =>
      if b = true then te σ2 H3 fun v H4 => ∃ zs, H4 D = some (.lst zs) ∧ zs.length < sizeLine ∧ Pv (i + 1) σ2 (upd H4 D (.lst (zs ++ [v]))) else Pv (i + 1) σ2 H3)
    (hd : ∀ σ H, Pv xs.length σ H → Z H) : CompTurns (Ite K a) g tc te D σ0 H0 Z := by
  refine ⟨fun i m σ H => m = xs.length - i ∧ i ≤ xs.length ∧ Pv i σ H, ⟨xs.length, by simp, Nat.zero_le _, h0⟩, ?_⟩
  rintro i m σ H ⟨rfl, hi, pv⟩
  have st := hl i σ H hi pv
  by_cases hlt : i < xs.length
  · refine .inr ⟨⟨xs, xs[i], st, by simp [hlt]⟩, Pv (i + 1), fun σ' H' p' => ⟨xs.length - (i + 1), by omega, rfl, hlt, p'⟩, fun x H' y => ?_⟩
    obtain ⟨p, v, rfl, hp, rfl, y⟩ := y
    exact hs i v σ H p (y xs st) pv hp
  · have e : i = xs.length := by omega
    subst e
    exact .inl ⟨⟨xs, st, Nat.le_refl _⟩, hd σ H pv⟩
theorem idx_get {k : Int} {o : List Int} (h : k ∈ o) : o[o.idxOf k]? = some k ∧ ∀ m, m < o.idxOf k → o[m]? ≠ some k := by
  have hl := List.idxOf_lt_length_of_mem h
  refine ⟨by rw [List.getElem?_eq_getElem hl, List.getElem_idxOf hl], fun m hm e => ?_⟩
  obtain ⟨h1, h2⟩ := List.getElem?_eq_some_iff.mp e
  have := List.idxOf_le_length (a := k) (l := o.take (m + 1))
  have hmem : k ∈ o.take (m + 1) := by rw [← h2]; exact List.mem_take_iff_getElem.mpr ⟨m, by omega, rfl⟩
  have hlt := List.idxOf_lt_length_of_mem hmem
  rw [List.length_take] at hlt
  have e2 : o.idxOf k = (o.take (m + 1)).idxOf k := by
    conv => lhs; rw [← List.take_append_drop (m + 1) o]
    rw [List.idxOf_append, if_pos hmem]
  omega
end L2


set_option Elab.async false
set_option linter.all false
set_option maxRecDepth 100000
namespace L2
open PySem PySem.Spec PyProof.Rows
section
variable {prog : Program} {w : World} {A : Around} {R : Result → Shared → Prop} {s : Shared}
/-- the loop of a dict comprehension of one clause, no exception leaving -/
theorem dcompLoop_any {kx vx target iter : Expr} {ifs : List Expr} {scope : Scope} {pos : Pos} {it : Value} {D : Addr} {env : Env} (I : Nat → Shared → Prop)
    (turn : ∀ n s, I n s → wpAny (model prog w) A (pyNext it) (fun r s₁ => match r with
      | none => R (.ok .next) s₁
      | some v => wpAny (model prog w) A (letOwnedTupleGo target it v) (fun _ s₁' => wpAny (model prog w) A (assign target env v) (fun _ s₂ =>
          wpAny (model prog w) A (forIn ifs true fun c r => if r = true then do let ok ← isTrue c env (eval c env); pure (ForInStep.yield ok) else pure (ForInStep.yield r)) (fun ok s₃ =>
            if ok = true then wpAny (model prog w) A (eval kx env) (fun kv s₄ => wpAny (model prog w) A (eval vx env) (fun vv s₅ =>
              wpAny (model prog w) A (dictSet D kv vv) (fun _ s₆ => ∃ m, m < n ∧ I m s₆) (fun _ _ => False) s₅) (fun _ _ => False) s₄) (fun _ _ => False) s₃
            else ∃ m, m < n ∧ I m s₃) (fun _ _ => False) s₂) (fun _ _ => False) s₁') (fun _ _ => False) s₁) (fun _ _ => False) s)
    (n : Nat) (h : I n s) : codeAny (model prog w) A (.compLoop (.DictComp kx vx [⟨target, iter, ifs, 0⟩] scope pos) 0 it (.ref D) env) R s := by
  refine codeAny_loop rfl I (fun n s hI => ?_) n h
  show wpAny _ A ((compTurn (.DictComp kx vx [⟨target, iter, ifs, 0⟩] scope pos) 0 it (.ref D) env).onRaise (fun x => do noteFrame x env; theTreesLotGoes x)) _ _ s
  refine wpAny_noted ?_
  rw [compTurn_dict]
  refine wpAny_mono (E := fun _ _ => False) ?_ (fun _ _ x => x) fun _ _ x => x.elim
  refine wpAny_bind (wpAny_standAt (wpAny_bind (wpAny_mono (turn n s hI) (fun r s₁ h₁ => ?_) fun _ _ h' => h')))
  cases r with
  | none => exact wpAny_pure h₁
  | some v =>
    refine wpAny_bind (wpAny_mono h₁ (fun _ s₁' h₁' => ?_) fun _ _ h' => h')
    refine wpAny_bind (wpAny_mono h₁' (fun _ s₂ h₂ => wpAny_bind (wpAny_mono h₂ (fun ok s₃ h₃ => ?_) fun _ _ h' => h')) fun _ _ h' => h')
    cases ok with
    | false => exact wpAny_pure ⟨rfl, h₃⟩
    | true =>
      exact wpAny_bind (wpAny_bind (wpAny_mono h₃ (fun kv s₄ h₄ => wpAny_bind (wpAny_holding (wpAny_mono h₄ (fun vv s₅ h₅ => wpAny_bind (wpAny_standAt (wpAny_holding (wpAny_mono h₅ (fun _ s₆ h₆ => wpAny_pure ⟨rfl, h₆⟩) fun _ _ h' => h')))) fun _ _ h' => h'))) fun _ _ h' => h'))
end
/-- what the turns of a dict comprehension want: the new dict stands at D -/
def DCompTurns (J : It) (g : TG) (tc : TT) (tk tv : TE) (D : Addr) (σ0 : St) (H0 : Hp) (Z : Hp → Prop) : Prop :=
  ∃ W : Nat → Nat → St → Hp → Prop, (∃ m, W 0 m σ0 (upd H0 D (.dK []))) ∧ ∀ i m σ H, W i m σ H →
    (J.stop i H ∧ Z H) ∨ (J.go i H ∧ ∃ N : St → Hp → Prop, (∀ σ' H', N σ' H' → ∃ m', m' < m ∧ W (i + 1) m' σ' H') ∧ ∀ x H', J.yld i H x H' → g x σ H' fun σ2 H2 => tc σ2 H2 fun b H3 =>
      if b = true then tk σ2 H3 fun y H4 => tv σ2 H4 fun v H5 => ∃ kvs k, H5 D = some (.dK kvs) ∧ kvs.length < sizeLine ∧ y = kV k ∧ N σ2 (upd H5 D (.dK (putK kvs k v))) else N σ2 H3)
section
variable {X : Cx} {pins : List (Addr × Obj)} {σ : St} {N' own : List Str} {cap : List (Str × Nat)} {scope : Scope} {tg iter kx vx : Expr} {ifs : List Expr} {pos : Pos} {g : TG} {tc : TT} {tk tv : TE} {wi : TI}
theorem dcomp_core {s2 : Shared} {H2 : Hp} {it : Addr} {fp : List Addr} {tn : Nat → Heap → Prop} {J : It} {cl : List (Str × Addr)} {Z : Addr → Hp → Prop} {RR : Value → Addr → Result → Shared → Prop} {E : Value → Shared → Prop}
    (hx : ∀ e s, X.xe e s → False) (hc : X.calm = true) (S : CompScope X N' own cap scope)
    (hg : ∀ cl C s₀ H₀ ex, PG (compCx X N' scope cl C s₀ H₀ ex) tg g) (ht : ∀ cl C s₀ H₀ ex, PIf (compCx X N' scope cl C s₀ H₀ ex) ifs tc) (hk0 : ∀ cl C s₀ H₀ ex, PE (compCx X N' scope cl C s₀ H₀ ex) kx tk) (hv0 : ∀ cl C s₀ H₀ ex, PE (compCx X N' scope cl C s₀ H₀ ex) vx tv)
    (I2 : Inv X pins σ H2 s2) (T : Turn X.prog X.w X.K tg J fp it tn) (st2 : tn 0 s2.heap) (f2 : ∀ b ∈ fp, FpOk X pins H2 b)
    (c1 : ∀ y c, cl.lookup y = some c → X.env.cells.lookup y = some c) (c2 : ∀ y, (y, NameKind.free) ∈ scope.names → ∃ c, cl.lookup y = some c)
    (h : ∀ D, H2 D = none → DCompTurns J g tc tk tv D (capSt own cap σ) H2 (Z D))
    (hRR : ∀ D C s' m' H', Inv X pins σ H' s' → s'.heap.Ns C m' → FpOk X pins H' C → Z D H' → RR (.ref D) C (.ok .next) s') :
    wpAny (model X.prog X.w) X.A (newDict) (fun acc s₃ => wpAny (model X.prog X.w) X.A (newFunctionEnv scope X.env.globals cl [] X.env.qual none .none (some X.env)) (fun cenv s₄ =>
      codeAny (model X.prog X.w) X.A (.compStart (.DictComp kx vx [⟨tg, iter, ifs, 0⟩] scope pos) 0 (.ref it) acc { cenv with scope := relabel scope X.env }) (RR acc cenv.locals) s₄) E s₃) E s2 := by
  have hlt : ∀ b ∈ fp, b < s2.heap.objs.size := fun b hb => by
    obtain ⟨o, e, _⟩ := T.obj _ _ st2 b hb
    exact Heap.lt_size e
  have hD : H2 s2.heap.objs.size = none := I2.hok.fresh (Nat.le_refl _)
  obtain ⟨W, ⟨m0, w0⟩, turn⟩ := h _ hD
  have hsys : (s2.heap.objs.size == sysModules) = false := by
    have := I2.big
    rw [beq_eq_false_iff_ne]
    exact Nat.ne_of_gt this
  refine wpAny_newObj_type (newEnv_around (fun h₁ hns₁ hk₁ hce₁ => ?_))
  dsimp only at hns₁ hk₁ hce₁ ⊢
  have I3 : Inv X pins σ (upd H2 s2.heap.objs.size (.dK [])) { s2 with heap := s2.heap.push { cls := .type "dict", dict := none, data := .dict #[] }, toks := s2.toks } :=
    I2.laid (fun b o e => Heap.get?_push_of_some _ e) (Nat.le_refl _) ⟨Nat.zero_le _, hsys, [], .nil, Heap.DictOf.new s2.heap⟩
  generalize hs3 : ({ s2 with heap := s2.heap.push { cls := .type "dict", dict := none, data := .dict #[] }, toks := s2.toks } : Shared) = s3 at I3
  have e3 : s2.heap.push { cls := .type "dict", dict := none, data := .dict #[] } = s3.heap := by rw [← hs3]
  have hsz : s3.heap.objs.size = s2.heap.objs.size + 1 := by rw [← e3, Heap.size_push]
  rw [e3] at hns₁ hk₁ hce₁ ⊢
  have hk := hk₁
  have hcl : ∀ y c, cl.lookup y = some c → ¬ s3.heap.objs.size < c := fun y c e z => by
    obtain ⟨v, o, ho, _⟩ := I3.cell y c (c1 y c e)
    exact Nat.lt_irrefl _ (Nat.lt_trans z (Heap.lt_size ho))
  have CA : CellsAre X scope s3.heap.objs.size cl (cellsFrom (s3.heap.objs.size + 1) scope.names cl) := cells_are (h := s3.heap.push { cls := .type "dict", data := .dict #[] }) (by rw [Heap.size_push]) S hcl
  have hcell : ∀ y c, (cellsFrom (s3.heap.objs.size + 1) scope.names cl).lookup y = some c → s3.heap.objs.size < c → h₁.IsCell c none := fun y c e z => by
    rw [cells_split, lookup_app] at e
    cases q : (cellsFrom (s3.heap.objs.size + 1) scope.names []).lookup y with
    | none => rw [q] at e; exact absurd z (hcl y c e)
    | some c' =>
      rw [q] at e
      have : c' = c := Option.some.inj e
      subst this
      exact hce₁ y c' (PySem.mem_of_lookup q)
  generalize hcs : cellsFrom (s3.heap.objs.size + 1) scope.names cl = cs at CA hcell ⊢
  have f3 : ∀ b ∈ fp, FpOk X pins (upd H2 s2.heap.objs.size (.dK [])) b := fun b hb => ⟨by rw [upd_ne (Nat.ne_of_lt (hlt b hb))]; exact (f2 b hb).1, (f2 b hb).2⟩
  have hlt3 : ∀ b ∈ fp, b < s3.heap.objs.size := fun b hb => by rw [hsz]; exact Nat.lt_succ_of_lt (hlt b hb)
  have st3 : tn 0 h₁ := T.keep _ _ _ st2 fun b hb o e => hk b o (by rw [← e3]; exact Heap.get?_push_of_some _ e)
  have J0 : Inv (compCx X N' scope cs s3.heap.objs.size s3 (upd H2 s2.heap.objs.size (.dK [])) fp) [] (capSt own cap σ) (upd H2 s2.heap.objs.size (.dK [])) { s3 with heap := h₁, toks := s2.toks } :=
    comp_inv I3 S CA hcell c1 c2 f3 hlt3 hk hns₁
  have stat : ∀ {pl : List (Addr × Obj)} {H' : Hp}, pl = [] → (∀ b ∈ fp, H' b = none) → ∀ b ∈ fp, FpOk (compCx X N' scope cs s3.heap.objs.size s3 (upd H2 s2.heap.objs.size (.dK [])) fp) pl H' b := fun {pl H'} hp hn b hb => by
    subst hp
    refine ⟨hn b hb, Nat.ne_of_lt (hlt3 b hb), J0.ok.exfs b hb, .inl hb, fun x c e => J0.ok.exf b hb |>.2 x c e, fun p hp => absurd hp (by show p ∉ ([] ++ [] : List (Addr × Obj)); simp)⟩
  have noX : ∀ {α : Type} {t : Sem α} {Q : α → Shared → Prop} {s : Shared}, wpAny (model X.prog X.w) X.A t Q X.xe s → wpAny (model X.prog X.w) X.A t Q (fun _ _ => False) s := fun q => wpAny_mono q (fun _ _ z => z) fun e s z => hx e s z
  have loop : codeAny (model X.prog X.w) X.A (.compLoop (.DictComp kx vx [⟨tg, iter, ifs, 0⟩] scope pos) 0 (.ref it) (.ref s2.heap.objs.size) (compEnvC scope cs s3.heap.objs.size X.env)) (RR (.ref s2.heap.objs.size) s3.heap.objs.size)
      { s3 with heap := h₁, toks := s2.toks } := by
    refine dcompLoop_any (fun n s' => ∃ i σ' H', Inv (compCx X N' scope cs s3.heap.objs.size s3 (upd H2 s2.heap.objs.size (.dK [])) fp) [] σ' H' s' ∧ tn i s'.heap ∧ (∀ b ∈ fp, H' b = none) ∧ W i n σ' H') ?_ m0
      ⟨0, _, _, J0, st3, fun b hb => (f3 b hb).1, w0⟩
    rintro n s4 ⟨i, σ4, H4, I4, st4, fr4, w4⟩
    rcases turn i n σ4 H4 w4 with ⟨stop, qz⟩ | ⟨go, N, hN, step⟩
    · refine wpAny_mono (T.done (compCx X N' scope cs s3.heap.objs.size s3 (upd H2 s2.heap.objs.size (.dK [])) fp) rfl rfl rfl hc i [] s4 σ4 H4 (fun _ _ => False) I4 (stat rfl fr4) st4 stop) (fun r s5 ⟨hr, I5⟩ => ?_) fun _ _ z => z
      subst hr
      have I6 : Inv X pins σ H4 s5 := I3.call' (ch := fp) I5.os I5.base I5.hok I5.bare fun b hb => ⟨(f3 b hb).2.2.2.1, (f3 b hb).2.1, (f3 b hb).2.2.2.2.1, (f3 b hb).2.2.2.2.2⟩
      obtain ⟨m', hn', _⟩ := I5.loc
      exact hRR _ _ s5 m' H4 I6 hn' (I3.fpOk (Nat.le_refl _) I5.free) qz
    · refine wpAny_mono (T.item (compCx X N' scope cs s3.heap.objs.size s3 (upd H2 s2.heap.objs.size (.dK [])) fp) rfl rfl rfl hc i [] s4 σ4 H4 (fun _ _ => False) I4 (stat rfl fr4) st4 go) (fun r s5 ⟨u, hr, h5⟩ => ?_) fun _ _ z => z
      subst hr
      refine wpAny_mono h5 (fun _ s6 ⟨x, H6, I6, r6, y6, st6, fr6⟩ => ?_) fun _ _ z => z
      have I6' := I6.pinned (stat rfl fr6) (T.obj _ _ st6)
      have again : ∀ {σ7 : St} {H7 : Hp} {s7 : Shared}, Inv (compCx X N' scope cs s3.heap.objs.size s3 (upd H2 s2.heap.objs.size (.dK [])) fp) ([] ++ pinsAt fp s6.heap) σ7 H7 s7 → N σ7 H7 →
          ∃ m, m < n ∧ ∃ i σ' H', Inv (compCx X N' scope cs s3.heap.objs.size s3 (upd H2 s2.heap.objs.size (.dK [])) fp) [] σ' H' s7 ∧ tn i s7.heap ∧ (∀ b ∈ fp, H' b = none) ∧ W i m σ' H' := fun {σ7 H7 s7} I7 n7 => by
        obtain ⟨m', hm, w7⟩ := hN σ7 H7 n7
        refine ⟨m', hm, i + 1, σ7, H7, I7.unpinned, T.keep _ _ _ st6 fun b hb o e => (I7.pin (b, o) (List.mem_append_right _ (List.mem_append_right _ (mem_pinsAt hb e)))).1, fun b hb => ?_, w7⟩
        obtain ⟨o, e, d⟩ := T.obj _ _ st6 b hb
        exact (I7.pin (b, o) (List.mem_append_right _ (List.mem_append_right _ (mem_pinsAt hb e)))).2.1
      refine noX (thn (hg _ _ _ _ _ _ s6 σ4 H6 x u _ I6' r6 (step x H6 y6)) fun _ s7 ⟨σ7, H7, I7, q7⟩ => ?_)
      refine noX (thn (ht _ _ _ _ _ _ s7 σ7 H7 _ I7 q7) fun b s8 ⟨H8, I8, q8⟩ => ?_)
      cases b with
      | false =>
        show ∃ m, _
        exact again I8 q8
      | true =>
        show wpAny _ _ _ _ _ _
        refine noX (thn (hk0 _ _ _ _ _ _ s8 σ7 H8 _ I8 q8) fun kv s9 ⟨vk, H9, I9, r9, q9⟩ => ?_)
        refine noX (thn (hv0 _ _ _ _ _ _ s9 σ7 H9 _ I9 q9) fun vv s10 ⟨v, H10, I10, r10, kvs, k, e10, hz, ek, q10⟩ => ?_)
        subst ek
        obtain ⟨z, hd, vs, rel, dd⟩ := dk_of I10.hok e10
        have hz' : vs.length ≤ sizeLine := by rw [← rel.length]; exact z
        have hl : (putK kvs k v).length ≤ sizeLine := by have := length_putK kvs k v; omega
        refine wpAny_dictSet_pairs (hsz := hz') (kV_is r9) dd fun h' dd' hs' => ?_
        have heo : ∃ q, h'.get? s2.heap.objs.size = some q := let ⟨q, _, _, hq, _⟩ := dd'; ⟨q, hq⟩
        exact again (d_write (t' := s10.toks + 1) I10 (by rw [e10]; exact True.intro) hs' heo (dk_new hl hd (rel.put k r10) dd')) q10
  have lp : codeAny (model X.prog X.w) X.A (.compStart (.DictComp kx vx [⟨tg, iter, ifs, 0⟩] scope pos) 0 (.ref it) (.ref s2.heap.objs.size) (compEnvC scope cs s3.heap.objs.size X.env)) (RR (.ref s2.heap.objs.size) s3.heap.objs.size)
      { s3 with heap := h₁, toks := s2.toks } := codeAny_compStart_dict loop (T.self _ 0 _ _ _ st3 loop)
  subst hs3
  exact lp
/-- a dict comprehension of one clause -/
theorem pe_dcomp (S : CompScope X N' own cap scope) (hi : PI X tg iter wi)
    (hg : ∀ cl C s₀ H₀ ex, PG (compCx X N' scope cl C s₀ H₀ ex) tg g) (ht : ∀ cl C s₀ H₀ ex, PIf (compCx X N' scope cl C s₀ H₀ ex) ifs tc) (hk : ∀ cl C s₀ H₀ ex, PE (compCx X N' scope cl C s₀ H₀ ex) kx tk) (hv : ∀ cl C s₀ H₀ ex, PE (compCx X N' scope cl C s₀ H₀ ex) vx tv)
    (hx : ∀ e s, X.xe e s → False := by exact fun _ _ z => z) (hc : X.calm = true := by rfl) (hs : ∀ x, foldedSetIterable iter X.env x = pure x := by intro _; rfl) :
    PE X (.DictComp kx vx [⟨tg, iter, ifs, 0⟩] scope pos) (fun σ H Q => wi σ H fun J H1 => ∀ D, H1 D = none → DCompTurns J g tc tk tv D (capSt own cap σ) H1 (Q (.ref D))) := by
  intro pins s σ H Q I h
  rw [arm_eval_DictComp]
  obtain ⟨cl, hcl, c1, c2⟩ := comp_closure (scope := scope) (env := X.env) fun y hy hk => I.ok.has y.1 (S.free y hy hk)
  refine wpAny_comprehension_free (use := none) rfl hs hcl S.kind S.names (thn (hi pins s σ H _ I h) fun v s1 h1 => thn h1 fun itv s2 h2 => ?_)
  obtain ⟨it, fp, tn, J, H2, e, I2, T, st2, f2, q⟩ := h2
  subst e
  refine dcomp_core (RR := fun acc C => compPost (model X.prog X.w) X.A X.xe none (EP X pins σ Q) acc C) (Z := fun D => Q (.ref D)) hx hc S hg ht hk hv I2 T st2 f2 c1 c2 q ?_
  intro D C s' m' H' I' hn' f' z
  exact ⟨m', hn', fun h'' hs'' => ⟨.ref D, H', I'.letgo f' hs'', rfl, z⟩⟩
end
/-! ### d.items() -/
def viO (v d : Addr) : HO := .ext fun h => h.IsItemsView v d
def rItems : V → List V → Hp → VK → Prop := fun x vs H Q => ∃ (a : Addr) (kvs : List (Key × V)), x = .ref a ∧ vs = [] ∧ H a = some (.dK kvs) ∧ ∀ v, H v = none → Q (.ref v) (upd H v (viO v a))
section
variable {X : Cx} {o : Expr} {to : TE} {pos : Pos}
theorem mt_items : MtM X "dict.items" rItems := by
  intro pins s σ H x vs v us Q I rx rv h
  obtain ⟨a, kvs, rfl, rfl, e, q⟩ := h
  cases rx
  have := rv.zero
  subst this
  obtain ⟨z, hd, ws, rel, dd⟩ := dk_of I.hok e
  refine call_meetsIn PySem.F.slot_dict_items dd.typeIs PySem.F.entry_dict_items (PySem.F.args_dict_items_1 _) (meets_dict_items (mixKind X.prog X.w) a hd) ⟨⟨ws, dd⟩, ?_⟩
  have hv : (s.heap.push { cls := .type "dict_items", data := .fields #[.ref a] }).IsItemsView s.heap.objs.size a := ⟨_, Heap.get?_push_size _ rfl, rfl, rfl⟩
  refine ⟨.ref s.heap.objs.size, _, I.laid (t' := s.toks) (o := viO s.heap.objs.size a) (fun b o q => Heap.get?_push_of_some _ q) (Nat.le_refl _) ?_, rfl, q _ (I.hok.fresh (Nat.le_refl _))⟩
  exact ⟨hv, ⟨_, Heap.get?_push_size _ rfl⟩, fun h1 h2 p k => let ⟨o, ho, r⟩ := p; ⟨o, k o ho, r⟩⟩
theorem e_items (K : PySem.W.Frag) {apos : Pos} (ho : PE X o to) (hbase : attributeBase o "items" X.env (eval o X.env) = eval o X.env := by rfl) (hline : (apos.endLine == pos.line) = true := by rfl) (hK : X.K = K := by rfl) :
    PE X (.Call (.Attribute o "items" apos) [] [] pos) (tBM0 K "dict" rItems to) := by
  subst hK
  exact pe_bm0 PySem.F.plainAttrs_dict PySem.F.slot_dict_items PySem.F.type_dict_items mt_items ho hbase hline
end
/-- the pairs of the dict at d, which stays as it is -/
def Itd (d : Addr) (o : Obj) (kvs : List (Key × V)) : It :=
  ⟨fun i H => H d = some (.frz o (.dK kvs)) ∧ i < kvs.length, fun i H x H' => ∃ p k v, x = .ref p ∧ H p = none ∧ H' = upd H p (.tup [kV k, v]) ∧ kvs[i]? = some (k, v), fun i H => H d = some (.frz o (.dK kvs)) ∧ kvs.length ≤ i⟩
theorem kV_rel {k : Key} {u : Value} (h : keyIs k u = true) : RelV (kV k) u := by
  rcases keyIs_shape h with ⟨i, t, rfl, rfl⟩ | ⟨x, t, rfl, rfl⟩
  · exact ⟨t, rfl⟩
  · exact ⟨t, rfl⟩
theorem KV.get {kvs : List (Key × V)} {ws : List (Key × Value)} (rel : KV kvs ws) : ∀ {i : Nat} {k : Key} {v : V}, kvs[i]? = some (k, v) → ∃ u, ws[i]? = some (k, u) ∧ RelV v u := by
  induction rel with
  | nil => intro i k v h; simp at h
  | @cons a b l r hd tl ih =>
    intro i k v h
    cases i with
    | zero =>
      have : a = (k, v) := by simpa using h
      subst this
      obtain ⟨b1, b2⟩ := b
      obtain ⟨h1, h2⟩ := hd
      have : k = b1 := h1
      subst this
      exact ⟨b2, rfl, h2⟩
    | succ i =>
      obtain ⟨u, h1, h2⟩ := ih (i := i) (k := k) (v := v) (by simpa using h)
      exact ⟨u, by simpa using h1, h2⟩
theorem turn_items {P : Program} {w : World} {K : PySem.W.Frag} {elts : List Expr} {k : Nat} {pos : Pos} {h0 : Heap} {kvs : List (Key × V)} {ws : List (Key × Value)} {ep : Nat} {o : Obj} (d it : Addr) (rel : KV kvs ws) (ho : h0.get? d = some o) (hat : h0.DictAt (mixKind P w) d ws ep) :
    Turn P w K (.Tuple elts k pos) (Itd d o kvs) [it] it (fun i h => ∃ ok ov, IsItemIter h it d i ws.length ep ok ov) where
  mem := by simp
  obj := fun i h st b hb => by
    obtain ⟨ok, ov, he⟩ := st
    rw [List.mem_singleton.mp hb]
    exact ⟨_, he, fun v z => by cases z⟩
  keep := fun i h h' st kk => let ⟨ok, ov, he⟩ := st; ⟨ok, ov, kk it (by simp) _ he⟩
  item := by
    intro X hP hw hK hc i pins s σ H E I hf st hg
    subst hP hw hK
    obtain ⟨hH, hi⟩ := hg
    obtain ⟨hgo, _⟩ : s.heap.get? d = some o ∧ _ := I.hok d _ hH
    have hm : s.heap.DictAt (mixKind X.prog X.w) d ws ep := hat.at' fun o' e => by rw [ho] at e; cases e; exact hgo
    obtain ⟨kk, v⟩ : Key × V := kvs[i]
    obtain ⟨⟨k1, v1⟩, hx⟩ : ∃ p, kvs[i]? = some p := ⟨kvs[i], by simp [hi]⟩
    obtain ⟨u, hu, ru⟩ := rel.get hx
    obtain ⟨ok, ov, he⟩ := st
    refine wpAny_pyNext_items_item he hm hu fun key h1 hkey hout hT hsz hk => ?_
    refine ⟨_, rfl, wpAny_letOwnedTupleGo_items hout fun h2 he2 hs2 => ?_⟩
    have hlt : it < s.heap.objs.size := Heap.lt_size he
    replace hs2 : Heap.SameBut it h1 h2 := hs2
    have hT2 : h2.get? s.heap.objs.size = some { cls := .type "tuple", data := .seq #[key, u] } := (hs2.2 _ (Nat.ne_of_gt hlt)).trans hT
    have hn : H s.heap.objs.size = none := I.hok.fresh (Nat.le_refl _)
    have I2 : Inv X pins σ (upd H s.heap.objs.size (.tup [kV k1, v1])) { s with heap := h2, toks := s.toks } :=
      I.turnLay (ch := [it]) hf (fun b o hb q => (hs2.2 b (fun z => hb (by simp [z]))).trans (hk b o (fun z => hb (by simp [z])) q)) (Nat.le_refl _)
        ⟨two_le, [key, u], .cons (kV_rel hkey) (.cons ru .nil), ⟨_, hT2, rfl, _, rfl⟩⟩
    have f1 : ∀ b ∈ [it], (upd H s.heap.objs.size (.tup [kV k1, v1])) b = none := fun b hb => by
      rw [List.mem_singleton.mp hb, upd_ne (Nat.ne_of_lt hlt)]
      exact (hf it (by simp)).1
    exact ⟨.ref s.heap.objs.size, _, I2, rfl, ⟨_, k1, v1, rfl, hn, rfl, hx⟩, ⟨key, u, he2⟩, f1⟩
  done := by
    intro X hP hw hK hc i pins s σ H E I hf st hg
    subst hP hw hK
    obtain ⟨hH, hi⟩ := hg
    obtain ⟨hgo, _⟩ : s.heap.get? d = some o ∧ _ := I.hok d _ hH
    have hm : s.heap.DictAt (mixKind X.prog X.w) d ws ep := hat.at' fun o' e => by rw [ho] at e; cases e; exact hgo
    obtain ⟨ok, ov, he⟩ := st
    have hl : kvs.length = ws.length := rel.length
    refine wpAny_pyNext_items_end (I.ok.hd hc) he hm (by simp; omega) fun h' eb => ⟨rfl, I.turns (t' := s.toks) (ch := [it]) hf fun b o hb q => eb b o (fun z => hb (by simp [z])) q⟩
  self := fun _ _ _ _ _ st h => by
    obtain ⟨ok, ov, he⟩ := st
    exact PySem.W.kcp_self he h
def iItems (te : TE) : TI := fun σ H R => te σ H fun x H1 => ∃ v d kvs, x = .ref v ∧ H1 v = some (viO v d) ∧ H1 d = some (.dK kvs) ∧ ∀ o, R (Itd d o kvs) (upd H1 d (.frz o (.dK kvs)))
theorem pi_items {X : Cx} {e : Expr} {te : TE} {elts : List Expr} {k : Nat} {tpos : Pos} (he : PE X e te) : PI X (.Tuple elts k tpos) e (iItems te) := by
  intro pins s σ H R I h
  refine thn (he pins s σ H _ I h) fun u s1 ⟨x, H1, I1, r1, v, d, kvs, ex, hv, hd, q⟩ => ?_
  subst ex
  cases r1
  obtain ⟨z, hsys, ws, rel, dd⟩ := dk_of I1.hok hd
  obtain ⟨hvv, _, _⟩ : s1.heap.IsItemsView v d ∧ _ ∧ _ := I1.hok v _ hv
  obtain ⟨ep, hat⟩ := dd.dictAt
  obtain ⟨o, ho⟩ : ∃ o, s1.heap.get? d = some o := let ⟨o, _, _, h, _⟩ := dd; ⟨o, h⟩
  refine wpAny_pyIter_items hvv hat ?_
  have nd : d ≠ s1.heap.objs.size := Nat.ne_of_lt (Heap.lt_size ho)
  have I2 : Inv X pins σ (upd H1 d (.frz o (.dK kvs))) { s1 with heap := s1.heap.push { cls := .type "dict_itemiterator", data := .fields #[.none, .bool false, .ref d, .int 0 0, .int ws.length 0, .int ep 0, .none, .none] }, toks := s1.toks } :=
    I1.write (x := d) (e := d) (by rw [hd]; exact True.intro) (.inl rfl) (fun b q _ z => Heap.get?_push_of_some _ z) ⟨o, Heap.get?_push_of_some _ ho⟩
      ⟨Heap.get?_push_of_some _ ho, z, hsys, ws, rel, dd.at fun o' e => Heap.get?_push_of_some _ e⟩
  refine ⟨_, [s1.heap.objs.size], _, _, _, rfl, I2, turn_items d _ rel ho hat, ⟨.none, .none, Heap.get?_push_size _ rfl⟩, fun b hb => ?_, q o⟩
  rw [List.mem_singleton.mp hb]
  exact I1.fpOk (Nat.le_refl _) (by rw [upd_ne (Ne.symm nd)]; exact I1.hok.fresh (Nat.le_refl _))
end L2


set_option Elab.async false
set_option linter.all false
set_option maxRecDepth 100000
namespace L2
open PySem PySem.Spec PyProof.Rows
/-! ### answers: who is alike with whom -/
/-- two things, and whether they are said to be alike -/
abbrev An := Nat × Nat × Bool
/-- who is said to be alike with x, in the order of the answers -/
def nb (as : List An) (x : Nat) : List Nat := as.flatMap fun a => if a.2.2 = true then (if x = a.1 then [a.2.1] else []) ++ (if x = a.2.1 then [a.1] else []) else []
theorem mem_nb {as : List An} {x y : Nat} : y ∈ nb as x ↔ (x, y, true) ∈ as ∨ (y, x, true) ∈ as := by
  unfold nb
  rw [List.mem_flatMap]
  constructor
  · rintro ⟨⟨i, j, b⟩, ha, h⟩
    cases b with
    | false => simp at h
    | true =>
      simp only [if_true, List.mem_append] at h
      rcases h with h | h
      · split at h
        · rename_i e
          have : y = j := by simpa using h
          subst this e
          exact .inl ha
        · simp at h
      · split at h
        · rename_i e
          have : y = i := by simpa using h
          subst this e
          exact .inr ha
        · simp at h
  · rintro (h | h)
    · exact ⟨_, h, by simp⟩
    · exact ⟨_, h, by simp⟩
theorem nb_symm {as : List An} {x y : Nat} (h : y ∈ nb as x) : x ∈ nb as y := mem_nb.mpr (mem_nb.mp h).symm
theorem nb_snoc (as : List An) (a : An) (x : Nat) : nb (as ++ [a]) x = nb as x ++ (if a.2.2 = true then (if x = a.1 then [a.2.1] else []) ++ (if x = a.2.1 then [a.1] else []) else []) := by simp [nb]
theorem nb_len (as : List An) (x : Nat) : (nb as x).length ≤ 2 * as.length := by
  induction as with
  | nil => simp [nb]
  | cons a r ih =>
    have e : nb (a :: r) x = (if a.2.2 = true then (if x = a.1 then [a.2.1] else []) ++ (if x = a.2.1 then [a.1] else []) else []) ++ nb r x := by simp [nb]
    rw [e, List.length_append, List.length_cons]
    have : (if a.2.2 = true then (if x = a.1 then [a.2.1] else []) ++ (if x = a.2.1 then [a.1] else []) else ([] : List Nat)).length ≤ 2 := by
      split
      · rw [List.length_append]
        split <;> split <;> simp
      · simp
    omega
/-- alike by answers, one behind the other -/
inductive Conn (as : List An) : Nat → Nat → Prop where
  | refl (x : Nat) : Conn as x x
  | step {x y z : Nat} : Conn as x y → z ∈ nb as y → Conn as x z
theorem Conn.trans {as : List An} {x y z : Nat} (h : Conn as x y) (g : Conn as y z) : Conn as x z := by
  induction g with
  | refl => exact h
  | step _ e ih => exact .step ih e
theorem Conn.one {as : List An} {x y : Nat} (h : y ∈ nb as x) : Conn as x y := .step (.refl x) h
theorem Conn.symm {as : List An} {x y : Nat} (h : Conn as x y) : Conn as y x := by
  induction h with
  | refl => exact .refl _
  | step _ e ih => exact (Conn.one (nb_symm e)).trans ih
theorem Conn.mono {as bs : List An} {x y : Nat} (h : Conn as x y) (hm : ∀ a ∈ as, a ∈ bs) : Conn bs x y := by
  induction h with
  | refl => exact .refl _
  | step _ e ih => exact .step ih (mem_nb.mpr ((mem_nb.mp e).imp (hm _) (hm _)))
/-! the program's homes -/
def hVal (hs : List (Nat × Nat)) (x : Nat) : Option Nat := (hs.find? fun p => decide (p.1 = x)).map (·.2)
def hDef (hs : List (Nat × Nat)) (x : Nat) : List (Nat × Nat) := if (hVal hs x).isSome = true then hs else hs ++ [(x, x)]
def hMov (hs : List (Nat × Nat)) (o n : Nat) : List (Nat × Nat) := hs.map fun p => (p.1, if p.2 = o then n else p.2)
def hStep (hs : List (Nat × Nat)) (a : An) : List (Nat × Nat) :=
  let h2 := hDef (hDef hs a.1) a.2.1
  if a.2.2 = true then hMov h2 ((hVal h2 a.2.1).getD 0) ((hVal h2 a.1).getD 0) else h2
def homes (as : List An) : List (Nat × Nat) := as.foldl hStep []
theorem hVal_def (hs : List (Nat × Nat)) (x y : Nat) : hVal (hDef hs x) y = if y = x then some ((hVal hs x).getD x) else hVal hs y := by
  unfold hDef
  by_cases h : (hVal hs x).isSome = true
  · rw [if_pos h]
    obtain ⟨v, e⟩ := Option.isSome_iff_exists.mp h
    by_cases z : y = x
    · subst z; rw [if_pos rfl, e]; rfl
    · rw [if_neg z]
  · rw [if_neg h]
    have e : hVal hs x = none := by simpa using h
    unfold hVal at e ⊢
    rw [List.find?_append]
    by_cases z : y = x
    · subst z
      rw [if_pos rfl]
      have e' : hs.find? (fun p => decide (p.1 = y)) = none := by simpa using e
      rw [e']
      simp
    · rw [if_neg z]
      have : List.find? (fun p : Nat × Nat => decide (p.1 = y)) [(x, x)] = none := by simp [Ne.symm z]
      rw [this]
      simp
theorem hVal_mov (hs : List (Nat × Nat)) (o n x : Nat) : hVal (hMov hs o n) x = (hVal hs x).map fun r => if r = o then n else r := by
  unfold hVal hMov
  induction hs with
  | nil => rfl
  | cons p r ih =>
    rw [List.map_cons, List.find?_cons, List.find?_cons]
    by_cases z : p.1 = x
    · simp [z]
    · simp only [z, decide_false]
      exact ih
/-- what is known of the homes -/
structure HOkN (as : List An) (V : Nat → Option Nat) : Prop where
  named : ∀ a ∈ as, (V a.1).isSome = true ∧ (V a.2.1).isSome = true
  con : ∀ x r, V x = some r → Conn as x r
  eq : ∀ x y, (x, y, true) ∈ as → V x = V y
theorem homes_snoc (as : List An) (a : An) : homes (as ++ [a]) = hStep (homes as) a := by unfold homes; rw [List.foldl_append]; rfl
theorem homes_ok (as : List An) : HOkN as (hVal (homes as)) := by
  have key : ∀ (n : Nat) (as : List An), as.length = n → HOkN as (hVal (homes as)) := by
    intro n
    induction n with
    | zero =>
      intro as e
      have : as = [] := List.length_eq_zero_iff.mp e
      subst this
      exact ⟨fun _ h => by simp at h, fun x r h => by simp [homes, hVal] at h, fun _ _ h => by simp at h⟩
    | succ n ih =>
      intro as e
      have hne : as ≠ [] := by intro z; subst z; simp at e
      obtain ⟨bs, a, rfl⟩ : ∃ bs a, as = bs ++ [a] := ⟨as.dropLast, as.getLast hne, (List.dropLast_concat_getLast hne).symm⟩
      have ih := ih bs (by simpa using e)
      obtain ⟨i, j, b⟩ := a
      rw [homes_snoc]
      generalize homes bs = hs at ih
      have v2 : ∀ y, hVal (hDef (hDef hs i) j) y = if y = j then some ((hVal (hDef hs i) j).getD j) else if y = i then some ((hVal hs i).getD i) else hVal hs y := fun y => by rw [hVal_def (hDef hs i) j y, hVal_def hs i y]
      have old : ∀ y, (hVal hs y).isSome = true → hVal (hDef (hDef hs i) j) y = hVal hs y := fun y hy => by
        obtain ⟨r, er⟩ := Option.isSome_iff_exists.mp hy
        rw [v2 y]
        split
        · rename_i z; subst z
          rw [hVal_def]
          split
          · rename_i z; subst z; rw [er]; rfl
          · rw [er]; rfl
        · split
          · rename_i z; subst z; rw [er]; rfl
          · rfl
      have mono : ∀ x y, Conn bs x y → Conn (bs ++ [(i, j, b)]) x y := fun x y h => h.mono fun a ha => List.mem_append_left _ ha
      have con2 : ∀ x r, hVal (hDef (hDef hs i) j) x = some r → Conn (bs ++ [(i, j, b)]) x r := fun x r h => by
        rw [v2 x] at h
        split at h
        · rename_i z; subst z
          have h := Option.some.inj h
          rw [hVal_def] at h
          split at h
          · rename_i z; subst z
            cases e : hVal hs x with
            | none => rw [e] at h; rw [← h]; exact .refl _
            | some r' => rw [e] at h; have : r' = r := h; subst this; exact mono _ _ (ih.con _ _ e)
          · cases e : hVal hs x with
            | none => rw [e] at h; have : x = r := h; subst this; exact .refl _
            | some r' => rw [e] at h; have : r' = r := h; subst this; exact mono _ _ (ih.con _ _ e)
        · split at h
          · rename_i z; subst z
            have h := Option.some.inj h
            cases e : hVal hs x with
            | none => rw [e] at h; have : x = r := h; subst this; exact .refl _
            | some r' => rw [e] at h; have : r' = r := h; subst this; exact mono _ _ (ih.con _ _ e)
          · exact mono _ _ (ih.con _ _ h)
      have n1 : ∃ r, hVal (hDef (hDef hs i) j) i = some r := by
        rw [v2 i]
        split
        · exact ⟨_, rfl⟩
        · exact ⟨_, if_pos rfl⟩
      have n2 : ∃ r, hVal (hDef (hDef hs i) j) j = some r := ⟨_, by rw [v2 j, if_pos rfl]⟩
      have named2 : ∀ a ∈ bs ++ [(i, j, b)], (hVal (hDef (hDef hs i) j) a.1).isSome = true ∧ (hVal (hDef (hDef hs i) j) a.2.1).isSome = true := fun a ha => by
        rcases List.mem_append.mp ha with z | z
        · obtain ⟨h1, h2⟩ := ih.named a z
          rw [old _ h1, old _ h2]
          exact ⟨h1, h2⟩
        · have : a = (i, j, b) := by simpa using z
          subst this
          obtain ⟨r1, e1⟩ := n1
          obtain ⟨r2, e2⟩ := n2
          exact ⟨by rw [e1]; rfl, by rw [e2]; rfl⟩
      have eq2 : ∀ x y, (x, y, true) ∈ bs → hVal (hDef (hDef hs i) j) x = hVal (hDef (hDef hs i) j) y := fun x y h => by
        obtain ⟨h1, h2⟩ := ih.named _ h
        rw [old x h1, old y h2]
        exact ih.eq x y h
      show HOkN _ (hVal (if b = true then hMov (hDef (hDef hs i) j) ((hVal (hDef (hDef hs i) j) j).getD 0) ((hVal (hDef (hDef hs i) j) i).getD 0) else hDef (hDef hs i) j))
      clear v2 old
      generalize hDef (hDef hs i) j = h2 at *
      cases b with
      | false =>
        refine ⟨named2, con2, fun x y h => ?_⟩
        rcases List.mem_append.mp h with z | z
        · exact eq2 x y z
        · simp at z
      | true =>
        obtain ⟨r1, e1⟩ := n1
        obtain ⟨r2, e2⟩ := n2
        simp only [if_true, e1, e2, Option.getD_some]
        have cij : Conn (bs ++ [(i, j, true)]) i j := Conn.one (mem_nb.mpr (.inl (by simp)))
        refine ⟨fun a ha => ?_, fun x r h => ?_, fun x y h => ?_⟩
        · rw [hVal_mov, hVal_mov, Option.isSome_map, Option.isSome_map]
          exact named2 a ha
        · rw [hVal_mov] at h
          obtain ⟨r0, e0, er⟩ := Option.map_eq_some_iff.mp h
          have c0 := con2 x r0 e0
          split at er
          · rename_i z; subst z er
            exact c0.trans ((con2 j _ e2).symm.trans (cij.symm.trans (con2 i _ e1)))
          · subst er; exact c0
        · rw [hVal_mov, hVal_mov]
          rcases List.mem_append.mp h with z | z
          · rw [eq2 x y z]
          · have : x = i ∧ y = j := by simpa using z
            obtain ⟨rfl, rfl⟩ := this
            rw [e1, e2]
            simp only [Option.map_some, if_true]
            split
            · rfl
            · rfl
  exact key _ as rfl
/-- alike by answers is the same home -/
theorem HOkN.conn {as : List An} {V : Nat → Option Nat} (h : HOkN as V) {x y : Nat} (c : Conn as x y) : V x = V y := by
  induction c with
  | refl => rfl
  | step _ e ih =>
    rw [ih]
    rcases mem_nb.mp e with z | z
    · exact h.eq _ _ z
    · exact (h.eq _ _ z).symm
theorem HOkN.iff {as : List An} {V : Nat → Option Nat} (h : HOkN as V) {x y : Nat} (hx : (V x).isSome = true) : V x = V y ↔ Conn as x y := by
  refine ⟨fun e => ?_, h.conn⟩
  obtain ⟨r, er⟩ := Option.isSome_iff_exists.mp hx
  exact (h.con x r er).trans (h.con y r (by rw [← e]; exact er)).symm
/-- what the program tells -/
def canB (as : List An) : Bool := as.all fun a => a.2.2 || !decide (hVal (homes as) a.1 = hVal (homes as) a.2.1)
/-! the law's own going along -/
structure Dfs (as : List An) (n t : Nat) (F : Nat → Option Nat) (pile : List Nat) : Prop where
  pin : ∀ x ∈ pile, x < n ∧ Conn as t x
  con : ∀ x r, F x = some r → Conn as x r ∧ r ≤ t
  fin : ∀ x r y, F x = some r → r < t → y ∈ nb as x → F y = some r
  cur : ∀ x y, F x = some t → y ∈ nb as x → F y = some t ∨ y ∈ pile
  all : ∀ x, x < t → (F x).isSome = true
  top : (F t).isSome = true ∨ t ∈ pile
structure Out (as : List An) (n t : Nat) (F : Nat → Option Nat) : Prop where
  con : ∀ x r, F x = some r → Conn as x r ∧ r < t
  fin : ∀ x r y, F x = some r → y ∈ nb as x → F y = some r
  all : ∀ x, x < t → (F x).isSome = true
theorem Out.zero {as : List An} {n : Nat} : Out as n 0 fun _ => none := ⟨fun _ _ h => (nomatch h), fun _ _ _ h => (nomatch h), fun _ h => absurd h (Nat.not_lt_zero _)⟩
theorem Out.start {as : List An} {n t : Nat} {F : Nat → Option Nat} (h : Out as n t F) (ht : t < n) : Dfs as n t F (if (F t).isSome = true then [] else [t]) := by
  refine ⟨fun x hx => ?_, fun x r e => ⟨(h.con x r e).1, Nat.le_of_lt (h.con x r e).2⟩, fun x r y e _ hy => h.fin x r y e hy, fun x y e _ => absurd (h.con x t e).2 (Nat.lt_irrefl _), h.all, ?_⟩
  · split at hx
    · simp at hx
    · have : x = t := by simpa using hx
      subst this; exact ⟨ht, .refl _⟩
  · split
    · rename_i z; exact .inl z
    · exact .inr (by simp)
theorem Dfs.stop {as : List An} {n t : Nat} {F : Nat → Option Nat} (h : Dfs as n t F []) : Out as n (t + 1) F := by
  refine ⟨fun x r e => ⟨(h.con x r e).1, Nat.lt_succ_of_le (h.con x r e).2⟩, fun x r y e hy => ?_, fun x hx => ?_⟩
  · rcases Nat.lt_or_eq_of_le (h.con x r e).2 with z | z
    · exact h.fin x r y e z hy
    · subst z
      rcases h.cur x y e hy with q | q
      · exact q
      · simp at q
  · rcases Nat.lt_or_eq_of_le (Nat.le_of_lt_succ hx) with z | z
    · exact h.all x z
    · subst z
      rcases h.top with q | q
      · exact q
      · simp at q
theorem Dfs.old {as : List An} {n t one : Nat} {F : Nat → Option Nat} {pile : List Nat} (h : Dfs as n t F (pile ++ [one])) (ho : (F one).isSome = true) : Dfs as n t F pile := by
  obtain ⟨r, er⟩ := Option.isSome_iff_exists.mp ho
  refine ⟨fun x hx => h.pin x (List.mem_append_left _ hx), h.con, h.fin, fun x y e hy => ?_, h.all, ?_⟩
  · rcases h.cur x y e hy with q | q
    · exact .inl q
    · rcases List.mem_append.mp q with z | z
      · exact .inr z
      · have : y = one := by simpa using z
        subst this
        rcases Nat.lt_or_eq_of_le (h.con y r er).2 with z | z
        · have := h.fin y r x er z (nb_symm hy)
          rw [e] at this
          exact absurd (Option.some.inj this).symm (Nat.ne_of_lt z)
        · subst z; exact .inl er
  · rcases h.top with q | q
    · exact .inl q
    · rcases List.mem_append.mp q with z | z
      · exact .inr z
      · have : t = one := by simpa using z
        subst this; exact .inl ho
def setF (F : Nat → Option Nat) (k t : Nat) : Nat → Option Nat := fun x => if x = k then some t else F x
theorem Dfs.new {as : List An} {n t one : Nat} {F : Nat → Option Nat} {pile : List Nat} (h : Dfs as n t F (pile ++ [one])) (ho : F one = none) (hv : ∀ x y, y ∈ nb as x → y < n) : Dfs as n t (setF F one t) (pile ++ nb as one) := by
  have p1 := h.pin one (by simp)
  have ne : ∀ x r, F x = some r → setF F one t x = some r := fun x r e => by
    unfold setF
    rw [if_neg (by rintro rfl; rw [ho] at e; cases e)]
    exact e
  refine ⟨fun x hx => ?_, fun x r e => ?_, fun x r y e hr hy => ?_, fun x y e hy => ?_, fun x hx => ?_, ?_⟩
  · rcases List.mem_append.mp hx with z | z
    · exact h.pin x (List.mem_append_left _ z)
    · exact ⟨hv one x z, .step p1.2 z⟩
  · unfold setF at e
    split at e
    · rename_i z; subst z
      have := Option.some.inj e; subst this
      exact ⟨p1.2.symm, Nat.le_refl _⟩
    · exact h.con x r e
  · unfold setF at e
    split at e
    · have := Option.some.inj e; subst this; exact absurd hr (Nat.lt_irrefl _)
    · exact ne y r (h.fin x r y e hr hy)
  · by_cases z : x = one
    · subst z; exact .inr (List.mem_append_right _ hy)
    · unfold setF at e
      rw [if_neg z] at e
      rcases h.cur x y e hy with q | q
      · exact .inl (ne y t q)
      · rcases List.mem_append.mp q with q | q
        · exact .inr (List.mem_append_left _ q)
        · have : y = one := by simpa using q
          subst this
          exact .inl (by unfold setF; rw [if_pos rfl])
  · obtain ⟨r, er⟩ := Option.isSome_iff_exists.mp (h.all x hx)
    rw [ne x r er]; rfl
  · rcases h.top with q | q
    · obtain ⟨r, er⟩ := Option.isSome_iff_exists.mp q
      exact .inl (by rw [ne t r er]; rfl)
    · rcases List.mem_append.mp q with z | z
      · exact .inr (List.mem_append_left _ z)
      · have : t = one := by simpa using z
        subst this
        exact .inl (by unfold setF; rw [if_pos rfl]; rfl)
/-- how much is left -/
def left (as : List An) (F : Nat → Option Nat) : Nat → Nat
  | 0 => 0
  | n + 1 => left as F n + (if (F n).isSome = true then 0 else (nb as n).length)
theorem left_le (as : List An) (F : Nat → Option Nat) (n : Nat) : left as F n ≤ n * (2 * as.length) := by
  induction n with
  | zero => simp [left]
  | succ n ih =>
    unfold left
    have := nb_len as n
    rw [Nat.succ_mul]
    split <;> omega
theorem left_set (as : List An) (F : Nat → Option Nat) (k t : Nat) (hk : F k = none) : ∀ n, left as (setF F k t) n + (if k < n then (nb as k).length else 0) = left as F n
  | 0 => by simp [left]
  | n + 1 => by
    have ih := left_set as F k t hk n
    unfold left
    by_cases e : n = k
    · subst e
      have h1 : (setF F n t n).isSome = true := by unfold setF; rw [if_pos rfl]; rfl
      have h2 : ¬ (F n).isSome = true := by rw [hk]; simp
      rw [if_pos h1, if_neg h2, if_pos (Nat.lt_succ_self _)]
      rw [if_neg (Nat.lt_irrefl _)] at ih
      omega
    · have h1 : setF F k t n = F n := by unfold setF; rw [if_neg e]
      rw [h1]
      by_cases h : k < n
      · rw [if_pos (show k < n + 1 by omega)]
        rw [if_pos h] at ih
        omega
      · rw [if_neg (show ¬ k < n + 1 by omega)]
        rw [if_neg h] at ih
        omega
/-- the law's own look is the program's -/
theorem Out.iff {as : List An} {n : Nat} {F : Nat → Option Nat} (h : Out as n n F) {x y : Nat} (hx : x < n) : F x = F y ↔ Conn as x y := by
  have hk : HOkN as (fun x => if (F x).isSome = true then F x else none) ∨ True := .inr trivial
  constructor
  · intro e
    obtain ⟨r, er⟩ := Option.isSome_iff_exists.mp (h.all x hx)
    exact (h.con x r er).1.trans (h.con y r (by rw [← e]; exact er)).1.symm
  · intro c
    obtain ⟨r, er⟩ := Option.isSome_iff_exists.mp (h.all x hx)
    have : F y = some r := by
      clear hk
      induction c with
      | refl => exact er
      | step _ e ih => exact h.fin _ r _ ih e
    rw [er, this]
theorem can_is {as : List An} {n : Nat} {F : Nat → Option Nat} (h : Out as n n F) (hv : ∀ a ∈ as, a.1 < n) : canB as = as.all fun a => a.2.2 || !decide (F a.1 = F a.2.1) := by
  unfold canB
  rw [Bool.eq_iff_iff, List.all_eq_true, List.all_eq_true]
  have ok := homes_ok as
  refine forall_congr' fun a => forall_congr' fun ha => ?_
  have e : (hVal (homes as) a.1 = hVal (homes as) a.2.1) ↔ (F a.1 = F a.2.1) := (ok.iff (ok.named a ha).1).trans (h.iff (hv a ha)).symm
  rw [show decide (hVal (homes as) a.1 = hVal (homes as) a.2.1) = decide (F a.1 = F a.2.1) from decide_eq_decide.mpr e]
end L2


set_option Elab.async false
set_option linter.all false
set_option maxRecDepth 100000
namespace L2
open PySem PySem.Spec PyProof.Rows
section
variable {X : Cx} {a b o : Expr} {ta tb to : TE} {p pos : Pos}
/-- xs.pop() -/
theorem ePop (K : PySem.W.Frag) {apos : Pos} (ho : PE X o to) (hbase : attributeBase o "pop" X.env (eval o X.env) = eval o X.env := by rfl) (hline : (apos.endLine == pos.line) = true := by rfl) (hK : X.K = K := by rfl) :
    PE X (.Call (.Attribute o "pop" apos) [] [] pos) (tBM0 K "list" rPop to) := by
  subst hK
  exact pe_bm0 PySem.F.plainAttrs_list PySem.F.slot_list_pop PySem.F.type_list_pop mt_pop ho hbase hline
/-- xs.extend(ys) -/
theorem e_extend (K : PySem.W.Frag) {apos : Pos} (ho : PE X o to) (ha : PE X a ta) (hs : starEach [a] X.env = [(false, eval a X.env)] := by rfl)
    (hbase : attributeBase o "extend" X.env (eval o X.env) = eval o X.env := by rfl) (hline : (apos.endLine == pos.line) = true := by rfl) (hK : X.K = K := by rfl)
    (hfew : ((backTo pos (starEach [a] X.env)).all (fun x => !x.1) && (backToKw pos (keywordEach [] X.env)).all (fun x => x.1.isSome)
      && decide ([a].length + ([] : List Keyword).length + (if ([] : List Keyword).isEmpty then 0 else 1) < 30)) = true := by rfl) :
    PE X (.Call (.Attribute o "extend" apos) [a] [] pos) (tBM K "list" rExtend to (tCons ta tNil)) := by
  subst hK
  exact pe_bm PySem.F.plainAttrs_list PySem.F.slot_list_extend PySem.F.type_list_extend mt_extend ho (pa_cons ha pa_nil hs) hbase hfew hline hs
/-- range(n) as a thing; list(range(n)) -/
theorem eRange (mr : X.mg "range" = none) (ha : PE X a ta) (hg : Gl X "range" := by rfl) (hs : starEach [a] X.env = [(false, eval a X.env)] := by rfl) :
    PE X (.Call (.Name "range" p) [a] [] pos) (fun σ H Q => ta σ H fun x H1 => ∃ j : Int, x = .int j ∧ ∀ r, H1 r = none → Q (.ref r) (upd H1 r (.rng 0 j))) := by
  intro pins s σ H Q I h
  refine Call_ (ld_blt I hg mr boot_range (PyProof.Rows.callWith_type1 (thn (pa_cons ha pa_nil hs pos pins s σ H (fun vs H1 => ∃ x, vs = [x] ∧ ∃ j : Int, x = .int j ∧ ∀ r, H1 r = none → Q (.ref r) (upd H1 r (.rng 0 j))) I ?_) fun us s1 ⟨vs, H1, I1, r1, q1⟩ => ?_) hs rfl))
  · have : ∀ x H1, (∃ j : Int, x = V.int j ∧ ∀ r, H1 r = none → Q (.ref r) (upd H1 r (.rng 0 j))) = (∃ x', [x] = [x'] ∧ ∃ j : Int, x' = V.int j ∧ ∀ r, H1 r = none → Q (.ref r) (upd H1 r (.rng 0 j))) := by
      intro x H1; exact propext ⟨fun q => ⟨x, rfl, q⟩, fun ⟨x', e, q⟩ => by cases e; exact q⟩
    unfold tCons tNil
    simp only [← this]
    exact h
  obtain ⟨x, e, j, ex, q⟩ := q1
  subst e ex
  cases r1 with
  | cons r rr =>
    cases rr
    obtain ⟨t, rfl⟩ := r
    refine call_range_1 ?_
    refine ⟨.ref s1.heap.objs.size, _, I1.laid (o := .rng 0 j) (fun b o e => Heap.get?_push_of_some _ e) (Nat.le_refl _) ?_, rfl, q _ (I1.hok.fresh (Nat.le_refl _))⟩
    exact ⟨_, _, _, Heap.get?_push_size _ rfl⟩
theorem call_list_rng (hc : X.calm = true) : CallR X (.type "list") (fun xs H Q => ∃ (r : Addr) (n : Nat), xs = [.ref r] ∧ H r = some (.rng 0 (n : Int)) ∧ n ≤ 1000000 ∧ ∀ l, H l = none → Q (.ref l) (upd H l (.lst ((List.range n).map fun k : Nat => V.int (k : Int))))) := by
  intro pins s σ H xs us Q I r h
  obtain ⟨r', n, rfl, e, hn, q⟩ := h
  obtain ⟨u, rfl, ru⟩ := vals1 r
  cases ru
  obtain ⟨t, u, v, ho⟩ := (show ∃ t u v, s.heap.get? r' = some { cls := .type "range", data := .fields #[.int 0 t, .int (n : Int) u, .int 1 v] } from I.hok r' _ e)
  refine call_list_range (a := 0) (b := n) (c := 1) (n := n) (I.ok.hd hc) ho (small_one (by omega) (by omega) (by omega) (by omega)) (by rw [rangeSize_one]; split <;> omega) (by omega) fun h' tk acc' c' hk hS' hacc => ?_
  refine ⟨.ref s.heap.objs.size, _, I.laid (t' := tk) (o := .lst ((List.range n).map fun k : Nat => V.int (k : Int))) hk (Nat.le_refl _) ?_, rfl, q _ (I.hok.fresh (Nat.le_refl _))⟩
  refine ⟨by rw [List.length_map, List.length_range]; exact le_line hn, acc'.toList, c', ?_, by simpa using hS'⟩
  have hl : acc'.toList.length = n := by rw [Array.length_toList]; exact hacc.1
  have key : ∀ (m : Nat) (l : List Value) (k0 : Nat), l.length = m → (∀ j v, l[j]? = some v → ∃ t, v = Value.int ((k0 + j : Nat) : Int) t) → Vals ((List.range' k0 m).map fun k : Nat => V.int (k : Int)) l := by
    intro m
    induction m with
    | zero => intro l k0 e _; have := List.length_eq_zero_iff.mp e; subst this; exact .nil
    | succ m ih =>
      intro l k0 e hj
      cases l with
      | nil => simp at e
      | cons x l =>
        rw [List.range'_succ, List.map_cons]
        obtain ⟨t, ex⟩ := hj 0 x rfl
        refine .cons ⟨t, ?_⟩ (ih l (k0 + 1) (by simpa using e) fun j v ev => ?_)
        · rw [ex]; simp
        · obtain ⟨t', e'⟩ := hj (j + 1) v (by simpa using ev)
          exact ⟨t', by rw [e']; congr 2; omega⟩
  rw [List.range_eq_range']
  refine key n acc'.toList 0 hl fun j v ev => ?_
  obtain ⟨t', e'⟩ := hacc.2 j v (by simpa using ev)
  exact ⟨t', by rw [e']; simp⟩
theorem eListR (ml : X.mg "list" = none) (ha : PE X a ta) (hg : Gl X "list" := by rfl) (hs : starEach [a] X.env = [(false, eval a X.env)] := by rfl) (hc : X.calm = true := by rfl) :
    PE X (.Call (.Name "list" p) [a] [] pos) (fun σ H Q => ta σ H fun x H1 => ∃ (r : Addr) (n : Nat), [x] = [.ref r] ∧ H1 r = some (.rng 0 (n : Int)) ∧ n ≤ 1000000 ∧ ∀ l, H1 l = none → Q (.ref l) (upd H1 l (.lst ((List.range n).map fun k : Nat => V.int (k : Int))))) :=
  pe_callTy (p := p) (pos := pos) (call_list_rng hc) hg ml rfl (pa_cons ha pa_nil hs) (he := hs)
end
end L2


set_option Elab.async false
set_option linter.all false
set_option maxRecDepth 100000
namespace L2
open PySem PySem.Spec PyProof.Rows
/-! ### answers in the heap -/
def Vald (n : Nat) (a : Ask) : Prop := a.1 < n ∧ a.2.1 < n ∧ a.1 ≠ a.2.1
structure AnsAt (K : PySem.W.Frag) (H : Hp) (n : Nat) (l : Addr) (cs : List ACel) : Prop where
  seq : SqL K H l (arefs cs)
  at_ : AAt H cs
  ok : ∀ c ∈ cs, Vald n c.1
  len : cs.length ≤ 2000
theorem AnsAt.same {K : PySem.W.Frag} {H H' : Hp} {n : Nat} {l : Addr} {cs : List ACel} (h : AnsAt K H n l cs) (g : Same H H') : AnsAt K H' n l cs := ⟨g.seq h.seq, h.at_.to g.tups, h.ok, h.len⟩
theorem AnsAt.get {K : PySem.W.Frag} {H : Hp} {n : Nat} {l : Addr} {cs : List ACel} (h : AnsAt K H n l cs) {i : Nat} {x : V} (e : (arefs cs)[i]? = some x) :
    ∃ (a b : Nat) (k : Bool) (q : Addr), cs[i]? = some ((a, b, k), q) ∧ x = .ref q ∧ H q = some (.tup [.int (a : Int), .int (b : Int), .bl k]) ∧ a < n ∧ b < n ∧ a ≠ b := by
  obtain ⟨⟨⟨a, b, k⟩, q⟩, hc, rfl⟩ := arefs_at e
  have m := List.mem_of_getElem? hc
  exact ⟨a, b, k, q, hc, rfl, h.at_ _ m, (h.ok _ m).1, (h.ok _ m).2.1, (h.ok _ m).2.2⟩
theorem arefs_len (cs : List ACel) : (arefs cs).length = cs.length := List.length_map _
theorem asks_take {cs : List ACel} {i : Nat} {a b : Nat} {k : Bool} {q : Addr} (h : cs[i]? = some ((a, b, k), q)) : (asksOf cs).take (i + 1) = (asksOf cs).take i ++ [(a, b, k)] := by
  have e : (asksOf cs)[i]? = some (a, b, k) := by unfold asksOf; rw [List.getElem?_map, h]; rfl
  obtain ⟨hlt, e'⟩ := List.getElem?_eq_some_iff.mp e
  rw [List.take_succ, e]
  rfl
/-! the homes as a dict -/
def kvN (hs : List (Nat × Nat)) : List (Key × V) := hs.map fun p => (Sum.inl (p.1 : Int), V.int (p.2 : Int))
theorem kvN_len (hs : List (Nat × Nat)) : (kvN hs).length = hs.length := List.length_map _
theorem kvN_val (hs : List (Nat × Nat)) (x : Nat) : valV (kvN hs) (Sum.inl (x : Int)) = (hVal hs x).map fun r : Nat => V.int (r : Int) := by
  induction hs with
  | nil => rfl
  | cons p r ih =>
    obtain ⟨k, v⟩ := p
    show valV ((Sum.inl (k : Int), V.int (v : Int)) :: kvN r) (Sum.inl (x : Int)) = _
    by_cases e : k = x
    · subst e
      rw [valV_pos rfl]
      simp [hVal]
    · rw [valV_neg (by intro z; have := Sum.inl.inj z; omega), ih]
      simp [hVal, e]
theorem kvN_def (hs : List (Nat × Nat)) (x : Nat) : kvN (hDef hs x) = if (hVal hs x).isSome = true then kvN hs else putK (kvN hs) (Sum.inl (x : Int)) (.int (x : Int)) := by
  unfold hDef
  split
  · rfl
  · rename_i h
    have e : hVal hs x = none := by simpa using h
    rw [putK_new _ (by rw [kvN_val, e]; rfl)]
    simp [kvN]
def hNd (hs : List (Nat × Nat)) : Prop := (hs.map (·.1)).Nodup
theorem hVal_none {hs : List (Nat × Nat)} {x : Nat} : hVal hs x = none ↔ x ∉ hs.map (·.1) := by
  unfold hVal
  rw [Option.map_eq_none_iff, List.find?_eq_none]
  simp only [decide_eq_true_eq, List.mem_map, not_exists, not_and]
theorem hNd_def {hs : List (Nat × Nat)} (h : hNd hs) (x : Nat) : hNd (hDef hs x) := by
  unfold hDef
  split
  · exact h
  · rename_i e
    have e : hVal hs x = none := by simpa using e
    unfold hNd
    rw [List.map_append, List.nodup_append]
    refine ⟨h, by simp, fun y hy z hz => ?_⟩
    have : z = x := by simpa using hz
    subst this
    exact fun q => hVal_none.mp e (q ▸ hy)
theorem hMov_keys (hs : List (Nat × Nat)) (o n : Nat) : (hMov hs o n).map (·.1) = hs.map (·.1) := by simp [hMov]
theorem hNd_step {hs : List (Nat × Nat)} (h : hNd hs) (a : An) : hNd (hStep hs a) := by
  have h2 := hNd_def (hNd_def h a.1) a.2.1
  unfold hStep
  dsimp only
  split
  · unfold hNd; rw [hMov_keys]; exact h2
  · exact h2
theorem hDef_len (hs : List (Nat × Nat)) (x : Nat) : (hDef hs x).length ≤ hs.length + 1 := by
  unfold hDef
  split <;> simp
theorem hStep_len (hs : List (Nat × Nat)) (a : An) : (hStep hs a).length ≤ hs.length + 2 := by
  have h1 := hDef_len hs a.1
  have h2 := hDef_len (hDef hs a.1) a.2.1
  unfold hStep
  dsimp only
  split
  · unfold hMov; rw [List.length_map]; omega
  · omega
theorem homes_take (as : List An) (n : Nat) (a : An) (h : as[n]? = some a) : homes (as.take (n + 1)) = hStep (homes (as.take n)) a := by
  rw [List.take_succ, h]
  exact homes_snoc _ _
theorem homes_nd (as : List An) : hNd (homes as) := by
  have : ∀ (as : List An) (hs : List (Nat × Nat)), hNd hs → hNd (as.foldl hStep hs) := by
    intro as
    induction as with
    | nil => exact fun _ h => h
    | cons a r ih => exact fun hs h => ih _ (hNd_step h a)
  exact this as [] (by simp [hNd])
theorem homes_len (as : List An) : (homes as).length ≤ 2 * as.length := by
  have : ∀ (as : List An) (hs : List (Nat × Nat)), (as.foldl hStep hs).length ≤ hs.length + 2 * as.length := by
    intro as
    induction as with
    | nil => exact fun _ => by simp
    | cons a r ih =>
      intro hs
      have h1 := ih (hStep hs a)
      have h2 := hStep_len hs a
      simp only [List.foldl_cons, List.length_cons]
      omega
  have := this as []
  simpa [homes] using this
theorem mov_put {hs : List (Nat × Nat)} (h : hNd hs) {i : Nat} {k v o n : Nat} (e : hs[i]? = some (k, v)) :
    putK (kvN (hMov (hs.take i) o n)) (Sum.inl (k : Int)) (.int ((if v = o then n else v : Nat) : Int)) = kvN (hMov (hs.take (i + 1)) o n) := by
  have nk : hVal (hMov (hs.take i) o n) k = none := by
    rw [hVal_none, hMov_keys]
    intro hm
    obtain ⟨⟨k', v'⟩, hm1, rfl⟩ := List.mem_map.mp hm
    obtain ⟨j, hj⟩ := List.getElem?_of_mem hm1
    have hji : j < i := by
      have := (List.getElem?_eq_some_iff.mp hj).1
      rw [List.length_take] at this; omega
    rw [List.getElem?_take_of_lt hji] at hj
    have e1 : (hs.map (·.1))[j]? = some k' := by rw [List.getElem?_map, hj]; rfl
    have e2 : (hs.map (·.1))[i]? = some k' := by rw [List.getElem?_map, e]; rfl
    have h1 := (List.getElem?_eq_some_iff.mp e1)
    have h2 := (List.getElem?_eq_some_iff.mp e2)
    obtain ⟨l1, g1⟩ := h1
    obtain ⟨l2, g2⟩ := h2
    exact (List.pairwise_iff_getElem.mp h) j i l1 l2 hji (g1.trans g2.symm)
  rw [putK_new _ (by rw [kvN_val, nk]; rfl), List.take_succ, e]
  simp [kvN, hMov]
/-! contracts -/
def spCheck (K : PySem.W.Frag) : Sp := fun vs H Q _ => ∃ (n : Nat) (l : Addr) (cs : List ACel), vs = [.int (n : Int), .ref l] ∧ AnsAt K H n l cs ∧ Q .non H
def spMoved : Sp := fun vs H Q _ => ∃ (d : Addr) (hs : List (Nat × Nat)) (o n : Nat), vs = [.ref d, .int (o : Int), .int (n : Int)] ∧ H d = some (.dK (kvN hs)) ∧ hNd hs ∧ hs.length ≤ 10000 ∧
  ∀ (D : Addr) (H' : Hp), H D = none → But d H H' → H' D = some (.dK (kvN (hMov hs o n))) → Q (.ref D) H'
def spHomes (K : PySem.W.Frag) : Sp := fun vs H Q _ => ∃ (n : Nat) (l : Addr) (cs : List ACel), vs = [.ref l] ∧ AnsAt K H n l cs ∧
  ∀ (D : Addr) (H' : Hp), H D = none → Same H H' → H' D = some (.dK (kvN (homes (asksOf cs)))) → Q (.ref D) H'
def spCan (K : PySem.W.Frag) : Sp := fun vs H Q _ => ∃ (n : Nat) (l : Addr) (cs : List ACel), vs = [.int (n : Int), .ref l] ∧ AnsAt K H n l cs ∧ ∀ (H' : Hp), Same H H' → Q (.bl (canB (asksOf cs))) H'
theorem dcomp_items {g : TG} {tk tv : TE} {D d : Addr} {o : Obj} {kvs : List (Key × V)} {σ0 : St} {H0 : Hp} {Z : Hp → Prop} (Pv : Nat → St → Hp → Prop) (h0 : Pv 0 σ0 (upd H0 D (.dK []))) (hl : ∀ i σ H, Pv i σ H → H d = some (.frz o (.dK kvs)))
    (hs : ∀ i k v σ H p, kvs[i]? = some (k, v) → Pv i σ H → H p = none → g (.ref p) σ (upd H p (.tup [kV k, v])) fun σ2 H2 => tk σ2 H2 fun y H4 => tv σ2 H4 fun v' H5 => ∃ kvs' k', H5 D = some (.dK kvs') ∧ kvs'.length < sizeLine ∧ y = kV k' ∧ Pv (i + 1) σ2 (upd H5 D (.dK (putK kvs' k' v'))))
    (hd : ∀ σ H, Pv kvs.length σ H → Z H) : DCompTurns (Itd d o kvs) g tYes tk tv D σ0 H0 Z := by
  refine ⟨fun i m σ H => m = kvs.length - i ∧ i ≤ kvs.length ∧ Pv i σ H, ⟨kvs.length, by simp, Nat.zero_le _, h0⟩, ?_⟩
  rintro i m σ H ⟨rfl, hi, pv⟩
  have q := hl i σ H pv
  by_cases hlt : i < kvs.length
  · refine .inr ⟨⟨q, hlt⟩, Pv (i + 1), fun σ' H' p' => ⟨kvs.length - (i + 1), by omega, rfl, hlt, p'⟩, fun x H' y => ?_⟩
    obtain ⟨p, k, v, e1, e2, e3, e4⟩ := y
    subst e1 e3
    have := hs i k v σ H p e4 pv e2
    simpa only [tYes, if_true] using this
  · have e : i = kvs.length := by omega
    subst e
    exact .inl ⟨⟨q, Nat.le_refl _⟩, hd σ H pv⟩
end L2


set_option Elab.async false
set_option linter.all false
set_option maxRecDepth 100000
namespace L2
open PySem PySem.Spec PyProof.Rows
/-! ### the law's own side of answers -/
def fV : Option Nat → V
  | none => .non
  | some r => .int (r : Int)
def fL (n : Nat) (F : Nat → Option Nat) : List V := (List.range n).map fun k => fV (F k)
theorem fL_len (n : Nat) (F : Nat → Option Nat) : (fL n F).length = n := by simp [fL]
theorem fL_get {n : Nat} {F : Nat → Option Nat} {k : Nat} (h : k < n) : (fL n F)[k]? = some (fV (F k)) := by simp [fL, h]
theorem fL_at {n : Nat} {F : Nat → Option Nat} {k : Nat} (h : k < n) : atI (fL n F) (k : Int) = some (fV (F k)) := atI_nat (fL_get h)
theorem fL_set {n : Nat} {F : Nat → Option Nat} {k t : Nat} : (fL n F).set k (.int (t : Int)) = fL n (setF F k t) := by
  apply List.ext_getElem?
  intro i
  rw [List.getElem?_set]
  by_cases h : i < n
  · rw [fL_get (F := setF F k t) h]
    by_cases e : k = i
    · subst e
      rw [if_pos rfl, fL_len, if_pos h]
      unfold setF; rw [if_pos rfl]; rfl
    · rw [if_neg e, fL_get h]
      unfold setF; rw [if_neg (Ne.symm e)]
  · have h1 : (fL n (setF F k t))[i]? = none := List.getElem?_eq_none (by rw [fL_len]; omega)
    have h2 : (fL n F)[i]? = none := List.getElem?_eq_none (by rw [fL_len]; omega)
    rw [h1]
    split
    · rename_i e; subst e; rw [fL_len, if_neg h]
    · exact h2
theorem fL_none (n : Nat) : (List.replicate n [V.non]).flatten = fL n fun _ => none := by
  induction n with
  | zero => rfl
  | succ n ih =>
    have e : fL (n + 1) (fun _ => none) = fL n (fun _ => none) ++ [V.non] := by simp [fL, List.range_succ, fV]
    rw [e, List.replicate_succ', List.flatten_append, ih]
    simp
theorem fV_non (o : Option Nat) : decide (fV o = V.non) = !o.isSome := by
  cases o with
  | none => rfl
  | some r => simp [fV]
theorem ixN_nat {n k : Nat} (h : k < n) : ixN n (k : Int) = some k := by
  unfold ixN
  rw [if_pos (by omega), if_pos (by omega)]
  simp
/-- the list of lists of who is said to be alike -/
structure NearAt (H : Hp) (nl : Addr) (ps : List Addr) (n : Nat) (N : Nat → List Nat) : Prop where
  lst : H nl = some (.lst (ps.map V.ref))
  len : ps.length = n
  nd : ps.Nodup
  at_ : ∀ i p, ps[i]? = some p → H p = some (.lst (natV (N i)))
theorem NearAt.to {H H' : Hp} {nl : Addr} {ps : List Addr} {n : Nat} {N : Nat → List Nat} (h : NearAt H nl ps n N) (k1 : H' nl = H nl) (k2 : ∀ p ∈ ps, H' p = H p) : NearAt H' nl ps n N :=
  ⟨by rw [k1]; exact h.lst, h.len, h.nd, fun i p e => by rw [k2 p (List.mem_of_getElem? e)]; exact h.at_ i p e⟩
theorem NearAt.laid {H H' : Hp} {q : Addr} {o : HO} {nl : Addr} {ps : List Addr} {n : Nat} {N : Nat → List Nat} (h : NearAt H nl ps n N) (l : Laid q o H H') : NearAt H' nl ps n N :=
  h.to (l.eq nl (l.ne h.lst)) fun p hp => by
    obtain ⟨i, hi⟩ := List.getElem?_of_mem hp
    exact l.eq p (l.ne (h.at_ i p hi))
theorem nodup_at {ps : List Addr} (h : ps.Nodup) {i j : Nat} {p : Addr} (a : ps[i]? = some p) (b : ps[j]? = some p) : i = j := by
  obtain ⟨l1, g1⟩ := List.getElem?_eq_some_iff.mp a
  obtain ⟨l2, g2⟩ := List.getElem?_eq_some_iff.mp b
  rcases Nat.lt_trichotomy i j with z | z | z
  · exact absurd (g1.trans g2.symm) ((List.pairwise_iff_getElem.mp h) i j l1 l2 z)
  · exact z
  · exact absurd (g2.trans g1.symm) ((List.pairwise_iff_getElem.mp h) j i l2 l1 z)
/-- one more at place k -/
theorem NearAt.put {H : Hp} {nl : Addr} {ps : List Addr} {n : Nat} {N : Nat → List Nat} {k y : Nat} {p : Addr} (h : NearAt H nl ps n N) (hk : ps[k]? = some p) : NearAt (upd H p (.lst (natV (N k) ++ [.int (y : Int)]))) nl ps n (fun x => if x = k then N k ++ [y] else N x) := by
  have hp := h.at_ k p hk
  by_cases hn : nl = p
  · subst hn
    have := h.lst
    rw [hp] at this
    exfalso
    have := HO.lst.inj (Option.some.inj this)
    have hm : V.ref nl ∈ ps.map V.ref := List.mem_map_of_mem (List.mem_of_getElem? hk)
    rw [← this] at hm
    obtain ⟨z, _, e⟩ := List.mem_map.mp hm
    cases e
  · refine ⟨by rw [upd_ne hn]; exact h.lst, h.len, h.nd, fun i q e => ?_⟩
    by_cases z : i = k
    · subst z
      have : q = p := by rw [hk] at e; exact (Option.some.inj e).symm
      subst this
      simp only [if_true]
      rw [upd_same, natV_snoc]
    · have : q ≠ p := fun w => z (nodup_at h.nd (w ▸ e) hk)
      rw [upd_ne this]
      simp only [z, if_false]
      exact h.at_ i q e
theorem NearAt.get {H : Hp} {nl : Addr} {ps : List Addr} {n : Nat} {N : Nat → List Nat} (h : NearAt H nl ps n N) {k : Nat} (hk : k < n) : ∃ p, ps[k]? = some p ∧ atI (ps.map V.ref) (k : Int) = some (.ref p) ∧ H p = some (.lst (natV (N k))) := by
  have hl : k < ps.length := by rw [h.len]; exact hk
  refine ⟨ps[k], by simp [hl], atI_nat (by simp [hl]), h.at_ k _ (by simp [hl])⟩
theorem NearAt.fn {H : Hp} {nl : Addr} {ps : List Addr} {n : Nat} {N M : Nat → List Nat} (h : NearAt H nl ps n N) (e : ∀ i, i < n → N i = M i) : NearAt H nl ps n M :=
  ⟨h.lst, h.len, h.nd, fun i p hp => by
    have : i < n := by rw [← h.len]; exact (List.getElem?_eq_some_iff.mp hp).1
    rw [← e i this]; exact h.at_ i p hp⟩
theorem erase_perm {α : Type} : ∀ {l : List α} {i : Nat} (h : i < l.length), (l[i] :: l.eraseIdx i).Perm l
  | x :: r, 0, _ => List.Perm.refl _
  | x :: r, i + 1, h => by
    have h' : i < r.length := by simpa using h
    have e : (x :: r)[i + 1] = r[i] := rfl
    rw [e, List.eraseIdx_cons_succ]
    exact (List.Perm.swap x r[i] _).trans ((erase_perm h').cons x)
/-! contracts -/
def spMixedP (K : PySem.W.Frag) : Sp := fun vs H Q _ => ∃ (p l : Addr) (xs : List V), vs = [.ref p, .ref l] ∧ Pot H p ∧ SqL K H l xs ∧ xs.length ≤ 100000 ∧
  ∀ (r : Addr) (ys : List V) (H' : Hp), Drawn p H H' → H r = none → H' r = some (.lst ys) → ys.Perm xs → Q (.ref r) H'
theorem perm_ints : ∀ {ys : List V} {ns : List Int}, ys.Perm (ns.map V.int) → ∃ ms : List Int, ys = ms.map V.int ∧ ms.length = ns.length := by
  intro ys ns h
  have hA : AllI ys := fun x hx => allI_map ns x (h.mem_iff.mp hx)
  obtain ⟨ms, rfl⟩ := hA.ints
  have := h.length_eq
  simp only [List.length_map] at this
  exact ⟨ms, rfl, this⟩
theorem mixed_ints {K : PySem.W.Frag} : ∀ vs H Q E, spMixed K vs H Q E → spMixedP K vs H Q E := by
  rintro vs H Q E ⟨p, l, ns, rfl, hP, hS, hz, q⟩
  refine ⟨p, l, _, rfl, hP, hS, by rw [List.length_map]; exact hz, fun r ys H' d h0 h1 pm => ?_⟩
  obtain ⟨ms, rfl, hl⟩ := perm_ints pm
  exact q r ms H' d h0 h1 hl
def spAnswers (K : PySem.W.Frag) : Sp := fun vs H Q _ => ∃ (p l : Addr) (ks : List Int) (m : Int), vs = [.ref p, .ref l, .int m] ∧ Pot H p ∧ H l = some (.lst (ks.map V.int)) ∧ l ≠ p ∧ ks.length ≤ 1000 ∧ 0 ≤ m ∧ m ≤ 1000 ∧
  ∀ (r : Addr) (cs : List ACel) (H' : Hp), Drawn p H H' → H r = none → H' r = some (.lst (arefs cs)) → AnsAt K H' ks.length r cs → Q (.ref r) H'
def spClosed (K : PySem.W.Frag) : Sp := fun vs H Q _ => ∃ (n : Nat) (l : Addr) (cs : List ACel), vs = [.int (n : Int), .ref l] ∧ AnsAt K H n l cs ∧ n ≤ 1000 ∧
  ∀ (D : Addr) (F : Nat → Option Nat) (H' : Hp), H D = none → Same H H' → H' D = some (.lst (fL n F)) → Out (asksOf cs) n n F → Q (.ref D) H'
def spBent (K : PySem.W.Frag) : Sp := fun vs H Q _ => ∃ (p l : Addr) (n : Nat) (cs : List ACel), vs = [.ref p, .ref l] ∧ Pot H p ∧ H l = some (.lst (arefs cs)) ∧ l ≠ p ∧ AnsAt K H n l cs ∧
  ∀ (r : Addr) (cs' : List ACel) (H' : Hp), Drawn p H H' → H r = none → H' r = some (.lst (arefs cs')) → AnsAt K H' n r cs' → Q (.ref r) H'
def spRight (K : PySem.W.Frag) : Sp := fun vs H Q _ => ∃ (n : Nat) (l : Addr) (cs : List ACel), vs = [.int (n : Int), .ref l] ∧ AnsAt K H n l cs ∧ n ≤ 1000 ∧ ∀ (H' : Hp), Same H H' → Q (.bl true) H'
theorem Drawn.tups {p : Addr} {H H' : Hp} (h : Drawn p H H') (hP : Pot H p) : TupS H H' := fun q xs e => by
  obtain ⟨a, b, c, ep⟩ := hP
  exact h.keep e (ne_of e ep (by intro z; cases z))
theorem Took.tups {p : Addr} {H H' : Hp} (h : Took p H H') (hP : Pot H p) : TupS H H' := fun q xs e => by
  obtain ⟨a, b, c, ep⟩ := hP
  exact h.keep (ne_of e ep (by intro z; cases z)) e
end L2
namespace L2
open PySem PySem.Spec PyProof.Rows
theorem Drawn.same {p : Addr} {H H' H'' : Hp} (h : Drawn p H H') (s : Same H' H'') : Drawn p H H'' := by
  obtain ⟨a, b, c, e⟩ := h.pot
  exact ⟨fun b u n z => s _ _ (h.but b u n z), a, b, c, s _ _ e⟩
theorem nats_of {n : Nat} : ∀ {ys : List V}, (∀ y ∈ ys, ∃ k : Nat, y = V.int (k : Int) ∧ k < n) → ∃ os : List Nat, ys = natV os ∧ ∀ k ∈ os, k < n
  | [], _ => ⟨[], rfl, fun _ h => by simp at h⟩
  | y :: r, h => by
    obtain ⟨k, rfl, hk⟩ := h y List.mem_cons_self
    obtain ⟨os, rfl, ho⟩ := nats_of (ys := r) fun z hz => h z (List.mem_cons_of_mem _ hz)
    exact ⟨k :: os, rfl, fun x hx => (List.mem_cons.mp hx).elim (fun e => e ▸ hk) (ho x)⟩
theorem order_of {n : Nat} {ys : List V} (h : ys.Perm ((List.range n).map fun k : Nat => V.int (k : Int))) : ∃ os : List Nat, ys = natV os ∧ os.length = n ∧ os.Nodup ∧ ∀ k ∈ os, k < n := by
  obtain ⟨os, rfl, ho⟩ := nats_of (n := n) (ys := ys) fun y hy => by
    obtain ⟨k, hk, rfl⟩ := List.mem_map.mp (h.mem_iff.mp hy)
    exact ⟨k, rfl, List.mem_range.mp hk⟩
  have hl := h.length_eq
  rw [natV_len, List.length_map, List.length_range] at hl
  refine ⟨os, rfl, hl, ?_, ho⟩
  have nd : ((List.range n).map fun k : Nat => V.int (k : Int)).Nodup := by
    have := List.nodup_range (n := n)
    unfold List.Nodup
    rw [List.pairwise_map]
    exact this.imp fun {a b} hab e => hab (by have := V.int.inj e; omega)
  have nd2 : (natV os).Nodup := (h.nodup_iff).mpr nd
  unfold natV List.Nodup at nd2
  rw [List.pairwise_map] at nd2
  exact nd2.imp fun {a b} hab e => hab (by rw [e])
theorem cells_of {cs : List ACel} : ∀ {ys : List V}, (∀ y ∈ ys, y ∈ arefs cs) → ∃ cs' : List ACel, ys = arefs cs' ∧ ∀ c ∈ cs', c ∈ cs
  | [], _ => ⟨[], rfl, fun _ h => by simp at h⟩
  | y :: r, h => by
    obtain ⟨c, hc, e⟩ := List.mem_map.mp (h y List.mem_cons_self)
    obtain ⟨cs', rfl, h'⟩ := cells_of (ys := r) fun z hz => h z (List.mem_cons_of_mem _ hz)
    exact ⟨c :: cs', by simp [arefs, e], fun x hx => (List.mem_cons.mp hx).elim (fun e => e ▸ hc) (h' x)⟩
theorem nat_at {os : List Nat} {k : Nat} (h : k < os.length) : atI (natV os) (k : Int) = some (.int ((os[k] : Nat) : Int)) := atI_nat (by simp [natV, h])
theorem nat_last {os : List Nat} (h : 0 < os.length) : atI (natV os) (-1) = some (.int ((os[os.length - 1] : Nat) : Int)) := by
  unfold atI ixN
  rw [natV_len, if_neg (by omega), if_pos (by omega)]
  have e : ((-1 : Int) + (os.length : Int)).toNat = os.length - 1 := by omega
  have e2 : ((os.length : Int) + (-1 : Int)).toNat = os.length - 1 := by omega
  simp only [Option.bind_some]
  have hk : os.length - 1 < os.length := by omega
  first
    | (rw [e]; simp [natV, hk])
    | (rw [e2]; simp [natV, hk])
theorem nodup_ne {os : List Nat} (h : os.Nodup) {i j : Nat} (hi : i < os.length) (hj : j < os.length) (n : i ≠ j) : os[i] ≠ os[j] := fun e => by
  rcases Nat.lt_trichotomy i j with z | z | z
  · exact (List.pairwise_iff_getElem.mp h) i j hi hj z e
  · exact n z
  · exact (List.pairwise_iff_getElem.mp h) j i hj hi z e.symm
end L2


set_option Elab.async false
set_option linter.all false
set_option maxRecDepth 100000
set_option maxHeartbeats 0
namespace Law
open PySem L2
def top (i : Nat) : Stmt := PySem.Challenge.pw_morethanhalf_k06_answers_that_can_be.main.body.getD i (.Pass ⟨0, 0, 0, 0⟩)
section
variable {P : Program} {w : World} {K : PySem.W.Frag} {mg : Str → Option Value} {base : Heap} {f : Addr} {fd : FuncData}
theorem sc_check_things : FnScope ["many", "answers", "i", "j", "alike"] ["many", "answers"] (defScope (top 4)) := ⟨rfl, rfl, rfl, by decide +kernel, rfl, by decide +kernel, by decide +kernel⟩
theorem ok_check (F : Fun K "check_things" "check_things" (top 4) f fd) : FnOk P w K mg base CX0 1 f fd ["many", "answers"] (spCheck K) := by
  refine F.ok sc_check_things (fun vs H Q E h => ?_) (fun cdv A outer s H vs Q E hr h => ?_)
  · obtain ⟨n, l, cs, rfl, _⟩ := h
    rfl
  obtain ⟨n, l, cs, rfl, hA, q⟩ := h
  refine ⟨_, pss_cons (ps_if (pt_cmpR op_lt (pv 0) pe_int (nomark _))
      (pss_one ps_never)
      pss_nil)
    (pss_one (ps_for PassesOwn.never rfl (iL K (pv 1)) (gT K (n := 3) (pgs_cons (pg_name (i := 2) sc_check_things.nd rfl (Or.inl rfl)) (pgs_cons (pg_name (i := 3) sc_check_things.nd rfl (Or.inl rfl)) (pgs_cons (pg_name (i := 4) sc_check_things.nd rfl (Or.inl rfl)) pgs_nil))))
      (pss_cons (ps_if (pt_not (PW.pt (pw_and (pt_chain op_le op_lt pe_int (pv 2) (pv 0)) (pw_and1 (pt_chain op_le op_lt pe_int (pv 3) (pv 0))))))
        (pss_one ps_never)
        pss_nil)
      (pss_one (ps_if (pt_cmpR op_eq (pv 2) (pv 3) (nomark _))
        (pss_one ps_never)
        pss_nil))))), ?_⟩
  refine ⟨_, rfl, _, _, rfl, rfl, _, rfl, ?_⟩
  refine ite2 (fun hd => absurd (of_decide_eq_true hd) (by omega)) (fun _ => ?_)
  refine ⟨_, rfl, l, rfl, ⟨_, hA.seq⟩, for_list (K := K) (a := l) (xs := arefs cs) (fun i σ H2 => ∃ o1 o2 o3, σ = [some (.int (n : Int)), some (.ref l), o1, o2, o3] ∧ H2 = H) ?_ ?_ ?_ ?_⟩
  · exact ⟨_, _, _, rfl, rfl⟩
  · rintro i σ H2 _ ⟨o1, o2, o3, rfl, rfl⟩
    exact hA.seq
  · rintro i x σ H2 hx ⟨o1, o2, o3, rfl, rfl⟩
    obtain ⟨a, b, k, p, hc, rfl, hp, ha, hb, hne⟩ := hA.get hx
    refine ⟨p, _, rfl, SqT.of hp, rfl, _, _, rfl, _, _, rfl, _, _, rfl, rfl, ?_⟩
    refine ⟨_, rfl, _, _, rfl, rfl, _, rfl, ?_⟩
    refine ite2 (fun _ => ?_) (fun hd => absurd (decide_eq_true (by omega)) hd)
    refine ⟨_, rfl, _, _, rfl, rfl, _, rfl, ?_⟩
    refine ite2 (fun _ => ?_) (fun hd => absurd (decide_eq_true (by omega)) hd)
    refine ⟨_, rfl, _, _, rfl, rfl, _, rfl, ?_⟩
    refine ite2 (fun _ => ?_) (fun hd => absurd (decide_eq_true (by omega)) hd)
    refine ⟨_, rfl, _, _, rfl, rfl, _, rfl, ?_⟩
    refine ite2 (fun hd => absurd hd (by simp; omega)) (fun _ => ?_)
    refine ⟨_, rfl, _, rfl, rfl, _, rfl, ?_⟩
    refine ite2 (fun hd => absurd (of_decide_eq_true hd) (by intro z; have := V.int.inj z; omega)) (fun _ => ?_)
    exact ⟨_, _, _, rfl, rfl⟩
  · rintro σ H2 ⟨o1, o2, o3, rfl, rfl⟩
    exact q
theorem sc_moved : FnScope ["homes", "old", "new"] ["homes", "old", "new"] (defScope (top 5)) := ⟨rfl, rfl, rfl, by decide +kernel, rfl, by decide +kernel, by decide +kernel⟩
theorem nd_moved_0 : ((["thing", "home"] : List Str) ++ ([("old", 1), ("new", 2)] : List (Str × Nat)).map (·.1)).Nodup := by decide +kernel
theorem ok_moved (F : Fun K "moved" "moved" (top 5) f fd) : FnOk P w K mg base CX0 1 f fd ["homes", "old", "new"] spMoved := by
  refine F.ok sc_moved (fun vs H Q E h => ?_) (fun cdv A outer s H vs Q E hr h => ?_)
  · obtain ⟨d, hs, o, n, rfl, _⟩ := h
    rfl
  obtain ⟨d, hs, o, n, rfl, hd, nd, hz, q⟩ := h
  refine ⟨_, pss_one (ps_ret (pe_dcomp (own := ["thing", "home"]) (cap := [("old", 1), ("new", 2)]) (cscope rfl) (pi_items (e_items K (pv 0)))
      (fun _ _ _ _ _ => (gT K (n := 2) (pgs_cons (pg_name (i := 0) nd_moved_0 rfl (Or.inl rfl)) (pgs_cons (pg_name (i := 1) nd_moved_0 rfl (Or.inl rfl)) pgs_nil)))) (fun _ _ _ _ _ => pif_nil)
      (fun _ _ _ _ _ => (pv 0)) (fun _ _ _ _ _ => (pe_ifExp (pt_cmpR op_eq (pv 1) (pv 2) (nomark _)) (pv 3) (pv 1))))), ?_⟩
  refine ⟨_, rfl, .inr (.inr (.inl ⟨rfl, .inl ⟨_, hd⟩⟩)), d, _, rfl, rfl, hd, fun v hv => ?_⟩
  generalize e1 : upd H v _ = H1
  have l1 := Laid.of hv e1
  refine ⟨v, d, _, rfl, l1.new, l1.keep hd, fun ob D hD => ?_⟩
  have hdH : H1 d = some (.dK (kvN hs)) := l1.keep hd
  generalize e2 : upd H1 d _ = H2 at hD
  have h2d : H2 d = some (.frz ob (.dK (kvN hs))) := by rw [← e2, upd_same]
  have b2 : But d H H2 := fun b u nb e => by rw [← e2, upd_ne nb]; exact l1.keep e
  have hDd : D ≠ d := fun z => by rw [z, h2d] at hD; cases hD
  have hD0 : H D = none := by
    cases e : H D with
    | none => rfl
    | some u => rw [b2 D u hDd e] at hD; cases hD
  refine dcomp_items (fun i σ H3 => ∃ o1 o2, σ = [o1, o2, some (.int (o : Int)), some (.int (n : Int))] ∧ But d H H3 ∧ H3 d = some (.frz ob (.dK (kvN hs))) ∧ H3 D = some (.dK (kvN (hMov (hs.take i) o n)))) ?_ ?_ ?_ ?_
  · exact ⟨_, _, rfl, b2.lay hD0, by rw [upd_ne hDd.symm]; exact h2d, upd_same⟩
  · rintro i σ H3 ⟨o1, o2, rfl, _, h, _⟩
    exact h
  · rintro i k v' σ H3 p hi ⟨o1, o2, rfl, b3, h3, h3D⟩ hp
    unfold kvN at hi
    rw [List.getElem?_map] at hi
    cases eh : hs[i]? with
    | none => rw [eh] at hi; cases hi
    | some kv =>
      rw [eh] at hi
      obtain ⟨a, b⟩ := kv
      cases (Option.some.inj hi)
      generalize e4 : upd H3 p _ = H4
      have l4 := Laid.of hp e4
      refine ⟨p, _, rfl, SqT.of l4.new, rfl, _, _, rfl, _, _, rfl, rfl, ?_⟩
      refine ⟨_, rfl, _, rfl, _, rfl, rfl, _, rfl, ?_⟩
      have hp0 : H p = none := by
        cases e : H p with
        | none => rfl
        | some u =>
          by_cases z : p = d
          · subst z; rw [h3] at hp; cases hp
          · rw [b3 p u z e] at hp; cases hp
      have b4 : But d H H4 := fun b u nb e => l4.keep (b3 b u nb e)
      have il : i < hs.length := (List.getElem?_eq_some_iff.mp eh).1
      have fin : ∀ v', v' = V.int ((if b = o then n else b : Nat) : Int) → ∃ kvs' k', H4 D = some (.dK kvs') ∧ kvs'.length < sizeLine ∧ V.int (a : Int) = kV k' ∧
          ∃ o1 o2, [some (V.int (a : Int)), some (V.int (b : Int)), some (.int (o : Int)), some (.int (n : Int))] = [o1, o2, some (.int (o : Int)), some (.int (n : Int))] ∧ But d H (upd H4 D (.dK (putK kvs' k' v'))) ∧ (upd H4 D (.dK (putK kvs' k' v'))) d = some (.frz ob (.dK (kvN hs))) ∧ (upd H4 D (.dK (putK kvs' k' v'))) D = some (.dK (kvN (hMov (hs.take (i + 1)) o n))) := by
        rintro _ rfl
        refine ⟨_, Sum.inl (a : Int), l4.keep h3D, ?_, rfl, _, _, rfl, b4.lay hD0, by rw [upd_ne hDd.symm]; exact l4.keep h3, ?_⟩
        · rw [kvN_len]; unfold hMov; rw [List.length_map, List.length_take]; exact lt_line (by omega)
        · rw [upd_same, mov_put nd eh]
      by_cases z : b = o
      · subst z
        refine ite2 (fun _ => ?_) (fun hd => absurd (by simp) hd)
        exact ⟨_, rfl, fin _ (by rw [if_pos rfl])⟩
      · refine ite2 (fun hd => absurd (of_decide_eq_true hd) (by intro q; have := V.int.inj q; omega)) (fun _ => ?_)
        exact ⟨_, rfl, fin _ (by rw [if_neg z])⟩
  · rintro σ H3 ⟨o1, o2, rfl, b3, h3, h3D⟩
    rw [kvN_len, List.take_length] at h3D
    exact q D H3 hD0 b3 h3D
end
end Law


set_option Elab.async false
set_option linter.all false
set_option maxRecDepth 100000
set_option maxHeartbeats 0
namespace Law
open PySem L2
section
variable {P : Program} {w : World} {K : PySem.W.Frag} {mg : Str → Option Value} {base : Heap} {f : Addr} {fd : FuncData}
theorem sc_homes_of : FnScope ["answers", "homes", "i", "j", "alike"] ["answers"] (defScope (top 6)) := ⟨rfl, rfl, rfl, by decide +kernel, rfl, by decide +kernel, by decide +kernel⟩
theorem ok_homes (F : Fun K "homes_of" "homes_of" (top 6) f fd) (D_moved : Df P w K mg base 1 "moved" ["homes", "old", "new"] spMoved) : FnOk P w K mg base CX0 2 f fd ["answers"] (spHomes K) := by
  refine F.ok sc_homes_of (fun vs H Q E h => ?_) (fun cdv A outer s H vs Q E hr h => ?_)
  · obtain ⟨n, l, cs, rfl, _⟩ := h
    rfl
  obtain ⟨n, l, cs, rfl, hA, q⟩ := h
  refine ⟨_, pss_cons (ps_set (i := 1) sc_homes_of.nd rfl (Or.inl rfl) pe_dnewK)
    (pss_cons (ps_for PassesOwn.never rfl (iL K (pv 0)) (gT K (n := 3) (pgs_cons (pg_name (i := 2) sc_homes_of.nd rfl (Or.inl rfl)) (pgs_cons (pg_name (i := 3) sc_homes_of.nd rfl (Or.inl rfl)) (pgs_cons (pg_name (i := 4) sc_homes_of.nd rfl (Or.inl rfl)) pgs_nil))))
      (pss_cons (cutS (ps_expr (eSetdef K (pv 1) (pv 2) (pv 2))))
      (pss_cons (cutS (ps_expr (eSetdef K (pv 1) (pv 3) (pv 3))))
      (pss_one (ps_if (pt_val (pv 4))
        (pss_one (ps_set (i := 1) sc_homes_of.nd rfl (Or.inl rfl) (pe_df D_moved (hr.mono (by decide)) (pa_cons (pv 1) (pa_cons (eDGet hr (pv 1) (pv 3)) (pa_cons (eDGet hr (pv 1) (pv 2)) pa_nil))))))
        pss_nil)))))
    (pss_one (ps_ret (pv 1)))), ?_⟩
  intro d hd
  have s0 := same_new hd (.dK [])
  refine ⟨_, rfl, l, rfl, ⟨_, s0.seq hA.seq⟩, for_list (K := K) (a := l) (xs := arefs cs) (fun i σ H2 => ∃ (D : Addr) (o1 o2 o3 : Option V), σ = [some (.ref l), some (.ref D), o1, o2, o3] ∧ Same H H2 ∧ H D = none ∧ H2 D = some (.dK (kvN (homes ((asksOf cs).take i))))) ?_ ?_ ?_ ?_⟩
  · exact ⟨d, none, none, none, rfl, s0, hd, upd_same⟩
  · rintro i σ H2 _ ⟨D, o1, o2, o3, rfl, s2, _⟩
    exact s2.seq hA.seq
  · rintro i x σ H2 hx ⟨D, o1, o2, o3, rfl, s2, hD0, hD⟩
    obtain ⟨a, b, k, p, hc, rfl, hp, ha, hb, hne⟩ := (hA.same s2).get hx
    have hi : i < cs.length := (List.getElem?_eq_some_iff.mp hc).1
    have ea : (asksOf cs)[i]? = some (a, b, k) := by unfold asksOf; rw [List.getElem?_map, hc]; rfl
    have est := homes_take (asksOf cs) i (a, b, k) ea
    have nd := homes_nd ((asksOf cs).take i)
    have hl := homes_len ((asksOf cs).take i)
    have hlen := hA.len
    rw [List.length_take] at hl
    generalize homes ((asksOf cs).take i) = hs at *
    refine ⟨p, _, rfl, SqT.of hp, rfl, _, _, rfl, _, _, rfl, _, _, rfl, rfl, ?_⟩
    have step : ∀ (x : Nat) (H3 : Hp) (g : List (Nat × Nat)) (J : V → Hp → Prop), H3 D = some (.dK (kvN g)) → (∀ v, J v H3) ∨ True → True := fun _ _ _ _ _ _ => trivial
    clear step
    refine ⟨fun σ' H' => σ' = [some (.ref l), some (.ref D), some (.int (a : Int)), some (.int (b : Int)), some (.bl k)] ∧ Same H H' ∧ H' D = some (.dK (kvN (hDef hs a))), ?_, ?_⟩
    · refine ⟨_, rfl, .inr (.inr (.inl ⟨rfl, .inl ⟨_, hD⟩⟩)), _, rfl, _, rfl, D, kvN hs, Sum.inl (a : Int), _, rfl, rfl, hD, by rw [kvN_len]; exact lt_line (by omega), fun v hv => ?_, fun hv => ?_⟩
      · refine ⟨rfl, s2, ?_⟩
        rw [kvN_val] at hv
        rw [kvN_def hs a, if_pos (by cases e : hVal hs a with | none => rw [e] at hv; cases hv | some _ => rfl)]
        exact hD
      · refine ⟨rfl, fun b u z => by rw [upd_ne (ne_of_none z hD0)]; exact s2 b u z, ?_⟩
        rw [upd_same, kvN_def hs a, if_neg (by rw [kvN_val] at hv; cases e : hVal hs a with | none => simp | some _ => rw [e] at hv; cases hv)]
    rintro σ3 H3 ⟨rfl, s3, h3⟩
    have hl1 := hDef_len hs a
    have nd1 := hNd_def nd a
    refine ⟨fun σ' H' => σ' = [some (.ref l), some (.ref D), some (.int (a : Int)), some (.int (b : Int)), some (.bl k)] ∧ Same H H' ∧ H' D = some (.dK (kvN (hDef (hDef hs a) b))), ?_, ?_⟩
    · refine ⟨_, rfl, .inr (.inr (.inl ⟨rfl, .inl ⟨_, h3⟩⟩)), _, rfl, _, rfl, D, kvN (hDef hs a), Sum.inl (b : Int), _, rfl, rfl, h3, by rw [kvN_len]; exact lt_line (by omega), fun v hv => ?_, fun hv => ?_⟩
      · refine ⟨rfl, s3, ?_⟩
        rw [kvN_val] at hv
        rw [kvN_def (hDef hs a) b, if_pos (by cases e : hVal (hDef hs a) b with | none => rw [e] at hv; cases hv | some _ => rfl)]
        exact h3
      · refine ⟨rfl, fun b u z => by rw [upd_ne (ne_of_none z hD0)]; exact s3 b u z, ?_⟩
        rw [upd_same, kvN_def (hDef hs a) b, if_neg (by rw [kvN_val] at hv; cases e : hVal (hDef hs a) b with | none => simp | some _ => rw [e] at hv; cases hv)]
    rintro σ4 H4 ⟨rfl, s4, h4⟩
    have hl2 := hDef_len (hDef hs a) b
    have nd2 := hNd_def nd1 b
    obtain ⟨ra, era⟩ : ∃ r, hVal (hDef (hDef hs a) b) a = some r := by
      rw [hVal_def, if_neg hne, hVal_def, if_pos rfl]; exact ⟨_, rfl⟩
    obtain ⟨rb, erb⟩ : ∃ r, hVal (hDef (hDef hs a) b) b = some r := by rw [hVal_def, if_pos rfl]; exact ⟨_, rfl⟩
    refine ⟨_, rfl, _, rfl, ?_⟩
    cases k with
    | false =>
      refine ite2 (fun hd => absurd hd (by decide)) (fun _ => ?_)
      exact ⟨D, _, _, _, rfl, s4, hD0, by rw [est]; exact h4⟩
    | true =>
      refine ite2 (fun _ => ?_) (fun hd => absurd rfl hd)
      have dg : ∀ (x r : Nat), hVal (hDef (hDef hs a) b) x = some r → DGet H4 D (.int (x : Int)) (some (.int (r : Int))) := fun x r e => by
        have := DGet.k (k := Sum.inl (x : Int)) h4
        rw [kvN_val, e] at this
        exact this
      refine ⟨_, rfl, _, rfl, _, rfl, D, _, rfl, dg b rb erb, _, rfl, _, rfl, D, _, rfl, dg a ra era, D, _, rb, ra, rfl, h4, nd2, by omega, fun D2 H5 hD2 b5 h5 => ?_⟩
      have hD20 : H D2 = none := by
        cases e : H D2 with
        | none => rfl
        | some u => rw [s4 D2 u e] at hD2; cases hD2
      refine ⟨D2, _, _, _, rfl, fun c u z => b5 c u (ne_of_none z hD0) (s4 c u z), hD20, ?_⟩
      rw [est, h5]
      show _ = some (HO.dK (kvN (if true = true then hMov (hDef (hDef hs a) b) ((hVal (hDef (hDef hs a) b) b).getD 0) ((hVal (hDef (hDef hs a) b) a).getD 0) else hDef (hDef hs a) b)))
      rw [if_pos rfl, era, erb]
      rfl
  · rintro σ H2 ⟨D, o1, o2, o3, rfl, s2, hD0, hD⟩
    refine ⟨_, rfl, ?_⟩
    rw [arefs_len, List.take_of_length_le (by unfold asksOf; rw [List.length_map]; exact Nat.le_refl _)] at hD
    exact q D H2 hD0 s2 hD
theorem sc_can_be : FnScope ["many", "answers", "homes"] ["many", "answers"] (defScope (top 7)) := ⟨rfl, rfl, rfl, by decide +kernel, rfl, by decide +kernel, by decide +kernel⟩
theorem nd_can_be_0 : ((["i", "j", "alike"] : List Str) ++ ([("homes", 2)] : List (Str × Nat)).map (·.1)).Nodup := by decide +kernel
theorem ok_can (F : Fun K "can_be" "can_be" (top 7) f fd) (D_check_things : Df P w K mg base 1 "check_things" ["many", "answers"] (spCheck K)) (D_homes_of : Df P w K mg base 2 "homes_of" ["answers"] (spHomes K)) (mall : mg "all" = none) : FnOk P w K mg base CX0 3 f fd ["many", "answers"] (spCan K) := by
  refine F.ok sc_can_be (fun vs H Q E h => ?_) (fun cdv A outer s H vs Q E hr h => ?_)
  · obtain ⟨n, l, cs, rfl, _⟩ := h
    rfl
  obtain ⟨n, l, cs, rfl, hA, q⟩ := h
  refine ⟨_, pss_cons (ps_expr (pe_df D_check_things (hr.mono (by decide)) (pa_cons (pv 0) (pa_cons (pv 1) pa_nil))))
    (pss_cons (ps_set (i := 2) sc_can_be.nd rfl (Or.inr rfl) (pe_df D_homes_of (hr.mono (by decide)) (pa_cons (pv 1) pa_nil)))
    (pss_one (ps_ret (eAll K mall (pe_comp (own := ["i", "j", "alike"]) (cap := [("homes", 2)]) (cscope rfl) (iL K (pv 1))
      (fun _ _ _ _ _ => (gT K (n := 3) (pgs_cons (pg_name (i := 0) nd_can_be_0 rfl (Or.inl rfl)) (pgs_cons (pg_name (i := 1) nd_can_be_0 rfl (Or.inl rfl)) (pgs_cons (pg_name (i := 2) nd_can_be_0 rfl (Or.inl rfl)) pgs_nil))))) (fun _ _ _ _ _ => pif_nil)
      (fun _ _ _ _ _ => (pe_or (pv 2) (pe_one (pe_cmpR op_ne (eDGet hr (pv 3) (pv 0)) (eDGet hr (pv 3) (pv 1)) (nomark _)))))))))), ?_⟩
  refine ⟨_, rfl, _, rfl, n, l, cs, rfl, hA, ?_⟩
  refine ⟨_, rfl, n, l, cs, rfl, hA, fun D H1 hD0 s1 hD => ?_⟩
  refine ⟨_, rfl, l, rfl, ⟨_, s1.seq hA.seq⟩, fun E hE => ?_⟩
  have hED : D ≠ E := fun z => by rw [z] at hD; rw [hD] at hE; cases hE
  have ok := homes_ok (asksOf cs)
  let tst : Ask → Bool := fun a => a.2.2 || !decide (hVal (homes (asksOf cs)) a.1 = hVal (homes (asksOf cs)) a.2.1)
  refine comp_listT (K := K) (a := l) (xs := arefs cs) (fun i σ H2 => ∃ o1 o2 o3, σ = [o1, o2, o3, some (.ref D)] ∧ Same H1 H2 ∧ H2 E = some (.lst ((((asksOf cs).take i).map tst).map V.bl))) ?_ ?_ ?_ ?_
  · exact ⟨_, _, _, rfl, same_new hE _, upd_same⟩
  · rintro i σ H2 _ ⟨o1, o2, o3, rfl, s2, _⟩
    exact s2.seq (s1.seq hA.seq)
  · rintro i x σ H2 hx ⟨o1, o2, o3, rfl, s2, h2⟩
    obtain ⟨a, b, k, p, hc, rfl, hp, ha, hb, hne⟩ := ((hA.same s1).same s2).get hx
    have hi : i < cs.length := (List.getElem?_eq_some_iff.mp hc).1
    have ea : (asksOf cs)[i]? = some (a, b, k) := by unfold asksOf; rw [List.getElem?_map, hc]; rfl
    have hD2 := s2 _ _ hD
    obtain ⟨n1, n2⟩ := ok.named _ (List.mem_of_getElem? ea)
    obtain ⟨ra, era⟩ := Option.isSome_iff_exists.mp n1
    obtain ⟨rb, erb⟩ := Option.isSome_iff_exists.mp n2
    have dg : ∀ (x r : Nat), hVal (homes (asksOf cs)) x = some r → DGet H2 D (.int (x : Int)) (some (.int (r : Int))) := fun x r e => by
      have := DGet.k (k := Sum.inl (x : Int)) hD2
      rw [kvN_val, e] at this
      exact this
    have fin : ∀ v, v = V.bl (tst (a, b, k)) → ∃ ys, H2 E = some (.lst ys) ∧ ys.length < sizeLine ∧ ∃ o1 o2 o3, [some (V.int (a : Int)), some (.int (b : Int)), some (.bl k), some (.ref D)] = [o1, o2, o3, some (.ref D)] ∧ Same H1 (upd H2 E (.lst (ys ++ [v]))) ∧ (upd H2 E (.lst (ys ++ [v]))) E = some (.lst ((((asksOf cs).take (i + 1)).map tst).map V.bl)) := by
      rintro _ rfl
      refine ⟨_, h2, ?_, _, _, _, rfl, fun c u z => by rw [upd_ne (ne_of_none z hE)]; exact s2 c u z, ?_⟩
      · rw [List.length_map, List.length_map, List.length_take]
        have := hA.len
        exact lt_line (by omega)
      · rw [upd_same, asks_take hc]
        simp
    refine ⟨p, _, rfl, SqT.of hp, rfl, _, _, rfl, _, _, rfl, _, _, rfl, rfl, ?_⟩
    refine ⟨_, rfl, _, rfl, ?_⟩
    cases k with
    | true =>
      refine ite2 (fun _ => ?_) (fun hd => absurd rfl hd)
      exact fin _ rfl
    | false =>
      refine ite2 (fun hd => absurd hd (by decide)) (fun _ => ?_)
      refine ⟨_, rfl, _, rfl, D, _, rfl, dg a ra era, _, rfl, _, rfl, D, _, rfl, dg b rb erb, rfl, ?_⟩
      refine fin _ ?_
      show V.bl (!decide (V.int (ra : Int) = V.int (rb : Int))) = V.bl (false || !decide (hVal (homes (asksOf cs)) a = hVal (homes (asksOf cs)) b))
      rw [show hVal (homes (asksOf cs)) a = some ra from era, show hVal (homes (asksOf cs)) b = some rb from erb, Bool.false_or]
      congr 2
      exact decide_eq_decide.mpr ⟨fun z => by have := V.int.inj z; congr 1; omega, fun z => by rw [Option.some.inj z]⟩
  · rintro σ H2 ⟨o1, o2, o3, rfl, s2, h2⟩
    rw [arefs_len, List.take_of_length_le (by unfold asksOf; rw [List.length_map]; exact Nat.le_refl _)] at h2
    refine ⟨E, _, rfl, SqL.of h2, ?_⟩
    have e : ((asksOf cs).map tst).all id = canB (asksOf cs) := by unfold canB; rw [List.all_map]; rfl
    rw [e]
    exact q H2 (s1.trans s2)
end
end Law


set_option Elab.async false
set_option linter.all false
set_option maxRecDepth 100000
set_option maxHeartbeats 0
namespace Law
open PySem L2
section
variable {P : Program} {w : World} {K : PySem.W.Frag} {mg : Str → Option Value} {base : Heap} {f : Addr} {fd : FuncData}
theorem sc_law_pot : FnScope ["cell"] ["cell"] (defScope (top 9)) := ⟨rfl, rfl, rfl, by decide +kernel, rfl, by decide +kernel, by decide +kernel⟩
theorem ok_pot (F : Fun K "_law_pot" "_law_pot" (top 9) f fd) (mmax : mg "max" = none) : FnOk P w K mg base CX0 1 f fd ["cell"] spPot := by
  refine F.ok sc_law_pot (fun vs H Q E h => ?_) (fun cdv A outer s H vs Q E hr h => ?_)
  · obtain ⟨c, rfl, _⟩ := h
    rfl
  obtain ⟨c, rfl, q⟩ := h
  refine ⟨_, pss_one (ps_ret (pe_lst (pa_cons (eMax mmax pe_int (pe_op op_sub (pv 0) (pe_op op_pow pe_int pe_int))) (pa_cons (pe_op op_mod (pv 0) pe_int) (pa_cons pe_int pa_nil))))), ?_⟩
  refine ⟨_, rfl, _, _, rfl, rfl, ⟨by decide, by decide, by decide⟩, _, _, rfl, rfl, _, _, rfl, _, rfl, _, _, rfl, rfl, (by show (0 : Int) < 99999999977; decide), (by show 3 ≤ sizeLine; decide), fun p hp => ?_⟩
  exact q p _ _ hp
theorem sc_law_take : FnScope ["pot", "many", "found", "number"] ["pot", "many"] (defScope (top 10)) := ⟨rfl, rfl, rfl, by decide +kernel, rfl, by decide +kernel, by decide +kernel⟩
theorem ok_take (F : Fun K "_law_take" "_law_take" (top 10) f fd) : FnOk P w K mg base CX0 1 f fd ["pot", "many"] spTake := by
  refine F.ok sc_law_take (fun vs H Q E h => ?_) (fun cdv A outer s H vs Q E hr h => ?_)
  · obtain ⟨p, m, rfl, _⟩ := h
    rfl
  obtain ⟨p, m, rfl, ⟨a, b, c, hp⟩, h0, h1, q⟩ := h
  refine ⟨_, pss_cons (ps_if (pt_cmpR op_gt (eIx K (pv 0) pe_int) pe_int (nomark _))
      (pss_cons (ps_set (i := 2) sc_law_take.nd rfl (Or.inl rfl) (pe_op op_mod (eIx K (pv 0) pe_int) (pv 1)))
      (pss_cons (ps_asg (pe_op op_fdiv (eIx K (pv 0) pe_int) (pv 1)) (pg_sub (pv 0) pe_int set_list))
      (pss_one (ps_ret (pv 2)))))
      pss_nil)
    (pss_cons (ps_asg (pe_op op_add (eIx K (pv 0) pe_int) pe_int) (pg_sub (pv 0) pe_int set_list))
    (pss_cons (ps_set (i := 3) sc_law_take.nd rfl (Or.inl rfl) (pe_op op_mod (pe_op op_add (eIx K (pv 0) pe_int) (pe_op op_mul pe_int (eIx K (pv 0) pe_int))) pe_int))
    (pss_cons (ps_set (i := 3) sc_law_take.nd rfl (Or.inl rfl) (pe_op op_mod (pe_op op_mul (pv 3) (pv 3)) pe_int))
    (pss_cons (ps_set (i := 3) sc_law_take.nd rfl (Or.inl rfl) (pe_op op_mod (pe_op op_mul (pv 3) (pe_op op_add (pv 3) pe_int)) pe_int))
    (pss_one (ps_ret (pe_op op_mod (pe_op op_fdiv (pv 3) pe_int) (pv 1)))))))), ?_⟩
  refine ⟨_, rfl, _, _, _, _, rfl, rfl, SqL.of hp, rfl, _, _, rfl, rfl, _, rfl, ?_⟩
  refine ite2 (fun _ => ?_) (fun _ => ?_)
  · refine ⟨_, rfl, _, _, _, _, rfl, rfl, SqL.of hp, rfl, _, rfl, _, _, rfl, rfl, h0, ?_⟩
    refine ⟨_, rfl, _, _, _, _, rfl, rfl, SqL.of hp, rfl, _, rfl, _, _, rfl, rfl, ⟨h0, h1⟩, _, rfl, p, _, _, 0, rfl, rfl, hp, rfl, _, rfl, ?_⟩
    exact q _ _ (Int.emod_nonneg _ (by omega)) (Int.emod_lt_of_pos _ h0) Took.mk'
  · refine ⟨_, rfl, _, _, _, _, rfl, rfl, SqL.of hp, rfl, _, _, rfl, rfl, _, rfl, p, _, _, 2, rfl, rfl, hp, rfl, ?_⟩
    have hp2 : ∀ o, (upd H p o) p = some o := fun o => upd_same
    refine ⟨_, rfl, p, _, _, _, rfl, rfl, SqL.of (hp2 _), rfl, _, rfl, p, _, _, _, rfl, rfl, SqL.of (hp2 _), rfl, _, _, rfl, rfl, .inl ⟨by decide, by decide⟩, _, _, rfl, rfl, _, _, rfl, rfl, (by show (0 : Int) < 99999999947; decide), ?_⟩
    refine ⟨_, rfl, _, rfl, _, _, rfl, rfl, .inl (mod_small (by decide) (by decide)), _, _, rfl, rfl, (by show (0 : Int) < 99999999821; decide), ?_⟩
    refine ⟨_, rfl, _, rfl, _, _, rfl, rfl, _, _, rfl, rfl, .inl (mod_small (by decide) (by decide)), _, _, rfl, rfl, (by show (0 : Int) < 9999999967; decide), ?_⟩
    refine ⟨_, rfl, _, _, rfl, rfl, ⟨by decide, by decide⟩, _, rfl, _, _, rfl, rfl, h0, ?_⟩
    exact q _ _ (Int.emod_nonneg _ (by omega)) (Int.emod_lt_of_pos _ h0) Took.mk'
theorem sc_law_mixed : FnScope ["pot", "row", "left"] ["pot", "row"] (defScope (top 11)) := ⟨rfl, rfl, rfl, by decide +kernel, rfl, by decide +kernel, by decide +kernel⟩
theorem nd_law_mixed_0 : ((["k"] : List Str) ++ ([("left", 2), ("pot", 0)] : List (Str × Nat)).map (·.1)).Nodup := by decide +kernel
theorem ok_mixedP (F : Fun K "_law_mixed" "_law_mixed" (top 11) f fd) (D_law_take : Df P w K mg base 1 "_law_take" ["pot", "many"] spTake) (mli : mg "list" = none) (ml : mg "len" = none) (mrange : mg "range" = none) : FnOk P w K mg base CX0 2 f fd ["pot", "row"] (spMixedP K) := by
  refine F.ok sc_law_mixed (fun vs H Q E h => ?_) (fun cdv A outer s H vs Q E hr h => ?_)
  · obtain ⟨p, l, ns, rfl, _⟩ := h
    rfl
  obtain ⟨p, row, xs, rfl, hP, hS, hlen, q⟩ := h
  refine ⟨_, pss_cons (ps_set (i := 2) sc_law_mixed.nd rfl (Or.inr rfl) (eList K mli (pv 1)))
    (pss_one (ps_ret (pe_comp (own := ["k"]) (cap := [("left", 2), ("pot", 0)]) (cscope rfl) (iR mrange (eLen K ml (pv 1)))
      (fun _ _ _ _ _ => (pg_name (i := 0) nd_law_mixed_0 rfl (Or.inl rfl))) (fun _ _ _ _ _ => pif_nil)
      (fun _ _ _ _ _ => (ePopAt K (pv 1) (pe_df D_law_take (hr.mono (by decide)) (pa_cons (pv 2) (pa_cons (eLen K ml (pv 1)) pa_nil)))))))), ?_⟩
  refine ⟨_, rfl, _, _, rfl, .inl hS, fun l hl => ?_⟩
  refine ⟨_, rfl, _, _, rfl, .inl ((same_new hl _).seq hS), _, rfl, by omega, by omega, fun D hD => ?_⟩
  have hDl : D ≠ l := fun e => by subst e; rw [upd_same] at hD; cases hD
  have hD0 : H D = none := by rw [upd_ne hDl] at hD; exact hD
  rw [show (((xs.length : Nat) : Int)).toNat = xs.length by simp]
  refine comp_rangeT (n := xs.length) (fun i σ H2 => ∃ (k : Option V) (ls ys : List V), σ = [k, some (.ref l), some (.ref p)] ∧ H2 l = some (.lst ls) ∧ ls.length + i = xs.length ∧ H2 D = some (.lst ys) ∧ (ys ++ ls).Perm xs ∧ Drawn p H H2) ?_ ?_ ?_
  · exact ⟨none, xs, [], rfl, by rw [upd_ne hDl.symm, upd_same], rfl, upd_same, List.Perm.refl _, ((Drawn.refl hP).lay hl hP).lay hD0 hP⟩
  · rintro i σ H2 hi ⟨k, ls, ys, rfl, h1, h2, h3, h4, hd⟩
    have lp : l ≠ p := hd.ne hP hl
    have dp : D ≠ p := hd.ne hP hD0
    refine ⟨_, rfl, .inl ⟨rfl, _, SqL.of h1⟩, _, rfl, _, rfl, _, _, rfl, .inl (SqL.of h1), p, _, rfl, hd.pot, by omega, by omega, fun r H3 r0 r1 tk => ?_⟩
    have hk : r.toNat < ls.length := by omega
    refine ⟨l, _, r, r.toNat, ls[r.toNat], rfl, rfl, tk.keep lp h1, by omega, by omega, seq_ix r0 r1, by simp [hk], ?_⟩
    have hyl : ys.length = i := by
      have := h4.length_eq
      rw [List.length_append] at this
      omega
    refine ⟨_, by rw [upd_ne hDl]; exact tk.keep dp h3, lt_line (by omega), ?_⟩
    refine ⟨_, ls.eraseIdx r.toNat, ys ++ [ls[r.toNat]], rfl, by rw [upd_ne hDl.symm, upd_same], by rw [List.length_eraseIdx_of_lt hk]; omega, upd_same, ?_, ((hd.took tk).lay hl hP).lay hD0 hP⟩
    rw [List.append_assoc]
    exact (List.Perm.append_left ys (erase_perm hk)).trans h4
  · rintro σ H2 ⟨k, ls, ys, rfl, h1, h2, h3, h4, hd⟩
    have : ls = [] := List.length_eq_zero_iff.mp (by omega)
    subst this
    rw [List.append_nil] at h4
    exact q D ys H2 hd hD0 h3 h4
theorem sc_law_kinds : FnScope ["pot", "most", "many", "step", "base", "values", "kinds", "way", "heavy", "beside"] ["pot", "most"] (defScope (top 12)) := ⟨rfl, rfl, rfl, by decide +kernel, rfl, by decide +kernel, by decide +kernel⟩
theorem nd_law_kinds_0 : ((["k"] : List Str) ++ ([("base", 4), ("step", 3)] : List (Str × Nat)).map (·.1)).Nodup := by decide +kernel
theorem nd_law_kinds_1 : ((["k"] : List Str) ++ ([("values", 5), ("pot", 0)] : List (Str × Nat)).map (·.1)).Nodup := by decide +kernel
theorem nd_law_kinds_2 : ((["k"] : List Str) ++ ([("values", 5)] : List (Str × Nat)).map (·.1)).Nodup := by decide +kernel
theorem nd_law_kinds_3 : ((["k"] : List Str) ++ ([("beside", 9), ("pot", 0)] : List (Str × Nat)).map (·.1)).Nodup := by decide +kernel
/-- the state of the drawing once way is drawn -/
def KSt (p : Addr) (m n s b : Int) (vl : Addr) (vs : List V) (H : Hp) (σ : St) (H' : Hp) : Prop :=
  ∃ (kd : Addr) (ks : List V) (wy : Int) (hv bs : Option V), σ = [some (.ref p), some (.int m), some (.int n), some (.int s), some (.int b), some (.ref vl), some (.ref kd), some (.int wy), hv, bs] ∧ Drawn p H H' ∧ H' vl = some (.lst vs) ∧ H kd = none ∧ H' kd = some (.lst ks) ∧ AllI ks ∧ ks.length ≤ 1000
theorem ok_kinds (F : Fun K "_law_kinds" "_law_kinds" (top 12) f fd) (D_law_take : Df P w K mg base 1 "_law_take" ["pot", "many"] spTake) (D_law_mixed : Df P w K mg base 2 "_law_mixed" ["pot", "row"] (spMixed K)) (mmin : mg "min" = none) (mso : mg "sorted" = none) (ml : mg "len" = none) (mrange : mg "range" = none) : FnOk P w K mg base CX0 3 f fd ["pot", "most"] spKinds := by
  refine F.ok sc_law_kinds (fun vs H Q E h => ?_) (fun cdv A outer s H vs Q E hr h => ?_)
  · obtain ⟨p, m, rfl, _⟩ := h
    rfl
  obtain ⟨p, m, rfl, hP, m0, m1, q⟩ := h
  refine ⟨_, pss_cons (cutS (ps_set (i := 2) sc_law_kinds.nd rfl (Or.inl rfl) (pe_df D_law_take (hr.mono (by decide)) (pa_cons (pv 0) (pa_cons (eIx K (pe_lst (pa_cons (eMin mmin pe_int (pe_op op_add (pv 1) pe_int)) (pa_cons (eMin mmin pe_int (pe_op op_add (pv 1) pe_int)) (pa_cons (pe_op op_add (pv 1) pe_int) pa_nil)))) (pe_df D_law_take (hr.mono (by decide)) (pa_cons (pv 0) (pa_cons pe_int pa_nil)))) pa_nil)))))
    (pss_cons (cutS (ps_set (i := 3) sc_law_kinds.nd rfl (Or.inr rfl) (eIx K (pe_lst (pa_cons pe_int (pa_cons pe_int (pa_cons (pe_op op_add pe_int (pe_df D_law_take (hr.mono (by decide)) (pa_cons (pv 0) (pa_cons pe_int pa_nil)))) pa_nil)))) (pe_df D_law_take (hr.mono (by decide)) (pa_cons (pv 0) (pa_cons pe_int pa_nil))))))
    (pss_cons (cutS (ps_set (i := 4) sc_law_kinds.nd rfl (Or.inr rfl) (eIx K (pe_lst (pa_cons pe_int (pa_cons (pe_un un_neg pe_int) (pa_cons (pe_op op_pow pe_int pe_int) (pa_cons (pe_op op_sub pe_int (pe_op op_pow pe_int pe_int)) pa_nil))))) (pe_df D_law_take (hr.mono (by decide)) (pa_cons (pv 0) (pa_cons pe_int pa_nil))))))
    (pss_cons (cutS (ps_set (i := 5) sc_law_kinds.nd rfl (Or.inr rfl) (pe_comp (own := ["k"]) (cap := [("base", 4), ("step", 3)]) (cscope rfl) (iR mrange (pe_op op_add pe_int (pe_df D_law_take (hr.mono (by decide)) (pa_cons (pv 0) (pa_cons (eIx K (pe_lst (pa_cons pe_int (pa_cons pe_int (pa_cons pe_int (pa_cons pe_int pa_nil))))) (pe_df D_law_take (hr.mono (by decide)) (pa_cons (pv 0) (pa_cons pe_int pa_nil)))) pa_nil)))))
      (fun _ _ _ _ _ => (pg_name (i := 0) nd_law_kinds_0 rfl (Or.inl rfl))) (fun _ _ _ _ _ => pif_nil)
      (fun _ _ _ _ _ => (pe_op op_add (pv 1) (pe_op op_mul (pv 2) (pv 0)))))))
    (pss_cons (cutS (ps_setComp (i := 6) sc_law_kinds.nd rfl rfl (own := ["k"]) (cap := [("values", 5), ("pot", 0)]) (cscope rfl) (iR mrange (pv 2))
      (fun _ _ _ _ _ => (pg_name (i := 0) nd_law_kinds_1 rfl (Or.inl rfl))) (fun _ _ _ _ _ => pif_nil)
      (fun _ _ _ _ _ => (eIx K (pv 1) (pe_df D_law_take (hr.mono (by decide)) (pa_cons (pv 2) (pa_cons (eLen K ml (pv 1)) pa_nil)))))))
    (pss_cons (ps_set (i := 7) sc_law_kinds.nd rfl (Or.inl rfl) (pe_df D_law_take (hr.mono (by decide)) (pa_cons (pv 0) (pa_cons pe_int pa_nil))))
    (pss_cons (cutS (ps_if (pt_cmpR op_eq (pv 7) pe_int (nomark _))
      (pss_one (ps_set (i := 6) sc_law_kinds.nd rfl (Or.inl rfl) (eSorted K mso (pv 6))))
      pss_nil))
    (pss_cons (cutS (ps_if (pt_cmpR op_eq (pv 7) pe_int (nomark _))
      (pss_one (ps_setComp (i := 6) sc_law_kinds.nd rfl rfl (own := ["k"]) (cap := [("values", 5)]) (cscope rfl) (iR mrange (pv 2))
      (fun _ _ _ _ _ => (pg_name (i := 0) nd_law_kinds_2 rfl (Or.inl rfl))) (fun _ _ _ _ _ => pif_nil)
      (fun _ _ _ _ _ => (eIx K (pv 1) (pe_op op_mod (pv 0) (eLen K ml (pv 1)))))))
      pss_nil))
    (pss_cons (cutS (ps_if (pt_cmpR op_gt (pv 7) pe_int (nomark _))
      (pss_cons (ps_set (i := 8) sc_law_kinds.nd rfl (Or.inl rfl) (eMin mmin (pv 2) (pe_op op_add (pe_op op_fdiv (pv 2) pe_int) (pe_df D_law_take (hr.mono (by decide)) (pa_cons (pv 0) (pa_cons pe_int pa_nil))))))
      (pss_cons (ps_set (i := 9) sc_law_kinds.nd rfl (Or.inr rfl) (pe_op op_cat (eSl K (pv 5) (po_some pe_int) po_none) (pe_lst (pa_cons (pe_op op_sub (pv 4) (pv 3)) pa_nil))))
      (pss_one (ps_set (i := 6) sc_law_kinds.nd rfl (Or.inl rfl) (pe_op op_cat (pe_op op_rep (pe_lst (pa_cons (eIx K (pv 5) pe_int) pa_nil)) (pv 8)) (pe_comp (own := ["k"]) (cap := [("beside", 9), ("pot", 0)]) (cscope rfl) (iR mrange (pe_op op_sub (pv 2) (pv 8)))
      (fun _ _ _ _ _ => (pg_name (i := 0) nd_law_kinds_3 rfl (Or.inl rfl))) (fun _ _ _ _ _ => pif_nil)
      (fun _ _ _ _ _ => (eIx K (pv 1) (pe_df D_law_take (hr.mono (by decide)) (pa_cons (pv 2) (pa_cons (eLen K ml (pv 1)) pa_nil)))))))))))
      pss_nil))
    (pss_cons (cutS (ps_if (pt_cmpR op_eq (pv 7) pe_int (nomark _))
      (pss_one (ps_set (i := 6) sc_law_kinds.nd rfl (Or.inl rfl) (eRev K (pv 6))))
      pss_nil))
    (pss_cons (cutS (ps_if (pt_cmpR op_eq (pv 7) pe_int (nomark _))
      (pss_one (ps_set (i := 6) sc_law_kinds.nd rfl (Or.inl rfl) (pe_df D_law_mixed (hr.mono (by decide)) (pa_cons (pv 0) (pa_cons (pv 6) pa_nil)))))
      pss_nil))
    (pss_one (ps_ret (pv 6))))))))))))), ?_⟩
  refine ⟨fun σ' H' => ∃ n : Int, σ' = [some (.ref p), some (.int m), some (.int n), none, none, none, none, none, none, none] ∧ 0 ≤ n ∧ n ≤ 1000 ∧ Drawn p H H', ?_, ?_⟩
  · refine ⟨_, rfl, _, rfl, _, _, rfl, rfl, _, _, rfl, _, rfl, _, _, rfl, rfl, _, _, rfl, _, rfl, _, _, rfl, rfl, (by show 3 ≤ sizeLine; decide), fun q1 hq => ?_⟩
    have hd := (Drawn.refl hP).lay (o := HO.lst [V.int (if m + 1 < 8 then m + 1 else 8), V.int (if m + 1 < 40 then m + 1 else 40), V.int (m + 1)]) hq hP
    refine ⟨_, rfl, p, _, rfl, hd.pot, by decide, by decide, fun r H2 r0 r1 tk => ?_⟩
    obtain ⟨v, hv, m', rfl, h0, h1⟩ := pick (Pd := fun v => ∃ m' : Int, v = .int m' ∧ 0 < m' ∧ m' ≤ 1001) (r := r) (xs := [V.int (if m + 1 < 8 then m + 1 else 8), V.int (if m + 1 < 40 then m + 1 else 40), V.int (m + 1)])
      (by
        intro x hx
        simp only [List.mem_cons, List.not_mem_nil, or_false] at hx
        rcases hx with rfl | rfl | rfl
        · exact ⟨_, rfl, by split <;> omega, by split <;> omega⟩
        · exact ⟨_, rfl, by split <;> omega, by split <;> omega⟩
        · exact ⟨_, rfl, by omega, by omega⟩) r0 r1
    refine ⟨q1, _, r, _, rfl, rfl, SqL.of (tk.keep (hd.ne hP hq) upd_same), hv, p, _, rfl, tk.pot, h0, by omega, fun r2 H3 r20 r21 tk2 => ?_⟩
    exact ⟨r2, rfl, r20, by omega, (hd.took tk).took tk2⟩
  rintro σ1 H1 ⟨n, rfl, n0, n1, hd1⟩
  refine ⟨fun σ' H' => ∃ s : Int, σ' = [some (.ref p), some (.int m), some (.int n), some (.int s), none, none, none, none, none, none] ∧ 0 < s ∧ s ≤ 1000 ∧ Drawn p H H', ?_, ?_⟩
  · refine ⟨_, rfl, p, _, rfl, hd1.pot, by decide, by decide, fun r H2 r0 r1 tk => ?_⟩
    refine ⟨_, _, rfl, rfl, (by show 3 ≤ sizeLine; decide), fun q1 hq => ?_⟩
    have hq0 := (hd1.took tk).free hq
    have hd := (hd1.took tk).lay (o := HO.lst [V.int 1, V.int 1, V.int (1 + r)]) hq0 hP
    refine ⟨_, rfl, p, _, rfl, hd.pot, by decide, by decide, fun r2 H3 r20 r21 tk2 => ?_⟩
    obtain ⟨v, hv, m', rfl, h0, h1⟩ := pick (Pd := fun v => ∃ m' : Int, v = .int m' ∧ 0 < m' ∧ m' ≤ 1000) (r := r2) (xs := [V.int 1, V.int 1, V.int (1 + r)])
      (by
        intro x hx
        simp only [List.mem_cons, List.not_mem_nil, or_false] at hx
        rcases hx with rfl | rfl | rfl <;> exact ⟨_, rfl, by omega, by omega⟩) r20 r21
    refine ⟨q1, _, r2, _, rfl, rfl, SqL.of (tk2.keep (hd.ne hP hq0) upd_same), hv, ?_⟩
    exact ⟨m', rfl, h0, h1, hd.took tk2⟩
  rintro σ2 H2 ⟨s, rfl, s0, s1, hd2⟩
  refine ⟨fun σ' H' => ∃ b : Int, σ' = [some (.ref p), some (.int m), some (.int n), some (.int s), some (.int b), none, none, none, none, none] ∧ Drawn p H H', ?_, ?_⟩
  · refine ⟨_, rfl, _, _, rfl, rfl, ⟨by decide, by decide, by decide⟩, _, _, rfl, rfl, ⟨by decide, by decide, by decide⟩, _, _, rfl, rfl, (by show 4 ≤ sizeLine; decide), fun q1 hq => ?_⟩
    have hq0 := hd2.free hq
    have hd := hd2.lay (o := HO.lst [V.int 0, V.int (-3), V.int (10 ^ (29 : Int).toNat), V.int (0 - 10 ^ (29 : Int).toNat)]) hq0 hP
    refine ⟨_, rfl, p, _, rfl, hd.pot, by decide, by decide, fun r2 H3 r20 r21 tk2 => ?_⟩
    obtain ⟨v, hv, b, rfl⟩ := pick (Pd := fun v => ∃ b : Int, v = .int b) (r := r2) (xs := [V.int 0, V.int (-3), V.int (10 ^ (29 : Int).toNat), V.int (0 - 10 ^ (29 : Int).toNat)])
      (by
        intro x hx
        simp only [List.mem_cons, List.not_mem_nil, or_false] at hx
        rcases hx with rfl | rfl | rfl | rfl <;> exact ⟨_, rfl⟩) r20 r21
    refine ⟨q1, _, r2, _, rfl, rfl, SqL.of (tk2.keep (hd.ne hP hq0) upd_same), hv, ?_⟩
    exact ⟨b, rfl, hd.took tk2⟩
  rintro σ3 H3 ⟨b, rfl, hd3⟩
  refine ⟨fun σ' H' => ∃ (vl : Addr) (vs : List V), σ' = [some (.ref p), some (.int m), some (.int n), some (.int s), some (.int b), some (.ref vl), none, none, none, none] ∧ Drawn p H H' ∧ H vl = none ∧ H' vl = some (.lst vs) ∧ AllI vs ∧ 0 < vs.length ∧ vs.length ≤ 1000, ?_, ?_⟩
  · refine ⟨_, rfl, (by show 4 ≤ sizeLine; decide), fun q1 hq => ?_⟩
    have hq0 := hd3.free hq
    have hd := hd3.lay (o := HO.lst [V.int 2, V.int 3, V.int 9, V.int 200]) hq0 hP
    refine ⟨_, rfl, p, _, rfl, hd.pot, by decide, by decide, fun r2 H4 r20 r21 tk2 => ?_⟩
    obtain ⟨v, hv, z, rfl, z0, z1⟩ := pick (Pd := fun v => ∃ z : Int, v = .int z ∧ 0 < z ∧ z ≤ 200) (r := r2) (xs := [V.int 2, V.int 3, V.int 9, V.int 200])
      (by
        intro x hx
        simp only [List.mem_cons, List.not_mem_nil, or_false] at hx
        rcases hx with rfl | rfl | rfl | rfl <;> exact ⟨_, rfl, by decide, by decide⟩) r20 r21
    refine ⟨q1, _, r2, _, rfl, rfl, SqL.of (tk2.keep (hd.ne hP hq0) upd_same), hv, p, _, rfl, tk2.pot, z0, by omega, fun r3 H5 r30 r31 tk3 => ?_⟩
    have hd5 := (hd.took tk2).took tk3
    refine ⟨_, _, rfl, rfl, _, rfl, by omega, by omega, fun D hD => ?_⟩
    have hD0 := hd5.free hD
    obtain ⟨c, hc⟩ : ∃ c : Nat, (1 + r3).toNat = c := ⟨_, rfl⟩
    rw [hc]
    refine comp_rangeT (n := c) (fun i σ H2 => ∃ (k : Option V) (ys : List V), σ = [k, some (.int b), some (.int s)] ∧ H2 D = some (.lst ys) ∧ AllI ys ∧ ys.length = i ∧ Drawn p H H2) ?_ ?_ ?_
    · exact ⟨none, [], rfl, upd_same, AllI.nil, rfl, hd5.lay hD0 hP⟩
    · rintro i σ H6 hi ⟨k, ys, rfl, h1, h2, h3, h4⟩
      refine ⟨_, rfl, _, rfl, _, rfl, _, _, rfl, rfl, .inl ⟨by omega, by omega⟩, _, _, rfl, rfl, ?_⟩
      exact ⟨_, h1, lt_line (by omega), _, _, rfl, upd_same, h2.snoc, by simp [h3], h4.lay hD0 hP⟩
    · rintro σ H6 ⟨k, ys, rfl, h1, h2, h3, h4⟩
      exact ⟨D, ys, rfl, h4, hD0, h1, h2, by omega, by omega⟩
  rintro σ4 H4 ⟨vl, vs, rfl, hd4, hvl0, hvl, hvI, hvz, hvz2⟩
  have vp : vl ≠ p := hd4.ne hP hvl0
  refine ⟨fun σ' H' => ∃ (kd : Addr) (ks : List V), σ' = [some (.ref p), some (.int m), some (.int n), some (.int s), some (.int b), some (.ref vl), some (.ref kd), none, none, none] ∧ Drawn p H H' ∧ H' vl = some (.lst vs) ∧ H kd = none ∧ H' kd = some (.lst ks) ∧ AllI ks ∧ ks.length ≤ 1000, ?_, ?_⟩
  · refine ⟨_, rfl, _, rfl, by omega, by omega, fun D hD => ?_⟩
    have hD0 := hd4.free hD
    have vD : vl ≠ D := ne_of_none hvl hD
    obtain ⟨c, hc⟩ : ∃ c : Nat, n.toNat = c := ⟨_, rfl⟩
    rw [hc]
    refine comp_rangeT (n := c) (fun i σ H2 => ∃ (k : Option V) (ys : List V), σ = [k, some (.ref vl), some (.ref p)] ∧ H2 D = some (.lst ys) ∧ AllI ys ∧ ys.length = i ∧ H2 vl = some (.lst vs) ∧ Drawn p H H2) ?_ ?_ ?_
    · exact ⟨none, [], rfl, upd_same, AllI.nil, rfl, by rw [upd_ne vD]; exact hvl, hd4.lay hD0 hP⟩
    · rintro i σ H6 hi ⟨k, ys, rfl, h1, h2, h3, h4, h5⟩
      refine ⟨_, rfl, _, rfl, _, rfl, _, _, rfl, .inl (SqL.of h4), p, _, rfl, h5.pot, by omega, by omega, fun r H7 r0 r1 tk => ?_⟩
      obtain ⟨v, hv, i', rfl⟩ := pick (Pd := fun v => ∃ i, v = V.int i) hvI r0 r1
      refine ⟨vl, _, r, _, rfl, rfl, SqL.of (tk.keep vp h4), hv, ?_⟩
      exact ⟨_, tk.keep (h5.ne hP hD0) h1, lt_line (by omega), _, _, rfl, upd_same, h2.snoc, by simp [h3], by rw [upd_ne vD]; exact tk.keep vp h4, (h5.took tk).lay hD0 hP⟩
    · rintro σ H6 ⟨k, ys, rfl, h1, h2, h3, h4, h5⟩
      exact ⟨D, ys, rfl, h5, h4, hD0, h1, h2, by omega⟩
  rintro σ5 H5 ⟨kd, ks, rfl, hd5, hvl5, hkd0, hkd, hkI, hkz⟩
  refine ⟨_, rfl, p, _, rfl, hd5.pot, by decide, by decide, fun wy H6 _ _ tk6 => ?_⟩
  have K6 : KSt p m n s b vl vs H [some (.ref p), some (.int m), some (.int n), some (.int s), some (.int b), some (.ref vl), some (.ref kd), some (.int wy), none, none] H6 := ⟨kd, ks, wy, none, none, rfl, hd5.took tk6, tk6.keep vp hvl5, hkd0, tk6.keep (hd5.ne hP hkd0) hkd, hkI, hkz⟩
  clear hkI hkz hkd hkd0 hvl5
  refine ⟨KSt p m n s b vl vs H, ?_, ?_⟩
  · refine ⟨_, rfl, rfl, _, rfl, ?_⟩
    refine ite2 (fun _ => ?_) (fun _ => K6)
    obtain ⟨kd', ks', wy', hv, bs, e, hd6, hvl6, hk0, hk1, hkI, hkz⟩ := K6
    cases e
    obtain ⟨ns, rfl⟩ := hkI.ints
    refine ⟨_, rfl, _, ns, rfl, SqL.of hk1, fun l ms hl hm => ?_⟩
    have hl0 := hd6.free hl
    rw [List.length_map] at hkz
    exact ⟨l, _, _, _, _, rfl, hd6.lay hl0 hP, by rw [upd_ne (ne_of_none hvl6 hl)]; exact hvl6, hl0, upd_same, allI_map _, by rw [List.length_map]; omega⟩
  clear K6
  rintro σ7 H7 K7
  refine ⟨KSt p m n s b vl vs H, ?_, ?_⟩
  · obtain ⟨kd', ks', wy', hv, bs, e, hd6, hvl6, hk0, hk1, hkI, hkz⟩ := id K7
    subst e
    refine ⟨_, rfl, rfl, _, rfl, ?_⟩
    refine ite2 (fun _ => ?_) (fun _ => K7)
    refine ⟨_, rfl, _, rfl, by omega, by omega, fun D hD => ?_⟩
    have hD0 := hd6.free hD
    have vD : vl ≠ D := ne_of_none hvl6 hD
    obtain ⟨c, hc⟩ : ∃ c : Nat, n.toNat = c := ⟨_, rfl⟩
    rw [hc]
    refine comp_rangeT (n := c) (fun i σ H2 => ∃ (k : Option V) (ys : List V), σ = [k, some (.ref vl)] ∧ H2 D = some (.lst ys) ∧ AllI ys ∧ ys.length = i ∧ H2 vl = some (.lst vs) ∧ Drawn p H H2) ?_ ?_ ?_
    · exact ⟨none, [], rfl, upd_same, AllI.nil, rfl, by rw [upd_ne vD]; exact hvl6, hd6.lay hD0 hP⟩
    · rintro i σ H8 hi ⟨k, ys, rfl, h1, h2, h3, h4, h5⟩
      have hz : (0 : Int) < ((vs.length : Nat) : Int) := by omega
      obtain ⟨v, hv, i', rfl⟩ := pick (Pd := fun v => ∃ i, v = V.int i) hvI (Int.emod_nonneg ((0 : Int) + i) (by omega)) (Int.emod_lt_of_pos ((0 : Int) + i) hz)
      refine ⟨_, rfl, _, rfl, _, rfl, _, _, rfl, .inl (SqL.of h4), _, _, rfl, rfl, hz, vl, _, _, _, rfl, rfl, SqL.of h4, hv, ?_⟩
      exact ⟨_, h1, lt_line (by omega), _, _, rfl, upd_same, h2.snoc, by simp [h3], by rw [upd_ne vD]; exact h4, h5.lay hD0 hP⟩
    · rintro σ H8 ⟨k, ys, rfl, h1, h2, h3, h4, h5⟩
      exact ⟨D, ys, wy', hv, bs, rfl, h5, h4, hD0, h1, h2, by omega⟩
  clear K7 σ7 H7
  rintro σ7 H7 K7
  refine ⟨KSt p m n s b vl vs H, ?_, ?_⟩
  · obtain ⟨kd', ks', wy', hv, bs, e, hd6, hvl6, hk0, hk1, hkI, hkz⟩ := id K7
    subst e
    refine ⟨_, rfl, _, _, rfl, rfl, _, rfl, ?_⟩
    refine ite2 (fun _ => ?_) (fun _ => K7)
    refine ⟨_, rfl, _, rfl, _, _, rfl, rfl, ⟨by decide, by decide⟩, _, rfl, p, _, rfl, hd6.pot, by decide, by decide, fun r1 H8 r10 r11 tk1 => ⟨_, _, rfl, rfl, _, _, rfl, ?_⟩⟩
    have hd8 := hd6.took tk1
    have hvl8 := tk1.keep vp hvl6
    have hy0 : 0 ≤ (if n / 2 + r1 < n then n / 2 + r1 else n) := by split <;> omega
    have hy1 : (if n / 2 + r1 < n then n / 2 + r1 else n) ≤ n := by split <;> omega
    generalize (if n / 2 + r1 < n then n / 2 + r1 else n) = hy at hy0 hy1 ⊢
    clear hk1 hkI hkz hvl6 hd6
    refine ⟨_, rfl, _, rfl, _, _, rfl, SqL.of hvl8, fun p1 hp1 => ?_⟩
    generalize e9 : upd H8 p1 _ = H9
    have l9 := Laid.of hp1 e9
    refine ⟨_, rfl, _, rfl, _, _, rfl, rfl, (by show 1 ≤ sizeLine; decide), fun p2 hp2 => ?_⟩
    generalize e10 : upd H9 p2 _ = H10
    have l10 := Laid.of hp2 e10
    have c1 := cutV_length vs (some 1) none
    refine ⟨p1, p2, _, _, rfl, rfl, l10.keep l9.new, l10.new, le_line (by show _ + 1 ≤ _; omega), fun p3 hp3 => ?_⟩
    generalize e11 : upd H10 p3 _ = H11
    have l11 := Laid.of hp3 e11
    have hd11 := l11.drawn (l10.drawn (l9.drawn hd8))
    have hbI : AllI (cutV vs (some 1) none ++ [.int (b - s)]) := hvI.cut.snoc
    have hb11 : H11 p3 = some (.lst (cutV vs (some 1) none ++ [.int (b - s)])) := l11.new
    have hvl11 := l11.keep (l10.keep (l9.keep hvl8))
    have hbz : 0 < (cutV vs (some 1) none ++ [V.int (b - s)]).length := by simp
    have hbz2 : (cutV vs (some 1) none ++ [V.int (b - s)]).length ≤ 1001 := by rw [List.length_append]; show _ + 1 ≤ _; omega
    have hp30 : H p3 = none := (l10.drawn (l9.drawn hd8)).free hp3
    generalize cutV vs (some 1) none ++ [V.int (b - s)] = bsd at hbI hb11 hbz hbz2
    clear l11 l10 l9 e9 e10 e11 hp1 hp2 hp3
    obtain ⟨v0, hv0, i0, rfl⟩ := pick (Pd := fun v => ∃ i, v = V.int i) (r := 0) hvI (by decide) (by omega)
    refine ⟨_, rfl, vl, _, 0, _, rfl, rfl, SqL.of hvl11, hv0, (by show 1 ≤ sizeLine; decide), fun p4 hp4 => ?_⟩
    generalize e12 : upd H11 p4 _ = H12
    have l12 := Laid.of hp4 e12
    refine ⟨_, rfl, p4, _, _, rfl, rfl, l12.new, by omega, by omega, le_line (by show 1 * _ ≤ _; omega), fun p5 hp5 => ?_⟩
    generalize e13 : upd H12 p5 _ = H13
    have l13 := Laid.of hp5 e13
    have hd13 := l13.drawn (l12.drawn hd11)
    have hb13 := l13.keep (l12.keep hb11)
    have hvl13 := l13.keep (l12.keep hvl11)
    have h513 : H13 p5 = some (.lst (List.replicate hy.toNat [V.int i0]).flatten) := l13.new
    have hz5 : (List.replicate hy.toNat [V.int i0]).flatten.length = hy.toNat * 1 := len_rep _ _
    have hI5 : AllI (List.replicate hy.toNat [V.int i0]).flatten := AllI.rep (AllI.nil.snoc (xs := []))
    generalize (List.replicate hy.toNat [V.int i0]).flatten = hvs at h513 hz5 hI5
    have hp50 : H p5 = none := (l12.drawn hd11).free hp5
    clear l13 l12 e12 e13 hp4 hp5
    refine ⟨_, rfl, _, rfl, _, _, rfl, rfl, _, rfl, by omega, by omega, fun D hD => ?_⟩
    have hD0 := hd13.free hD
    have bD : p3 ≠ D := ne_of_none hb13 hD
    have vD : vl ≠ D := ne_of_none hvl13 hD
    have d5 : p5 ≠ D := ne_of_none h513 hD
    have bp : p3 ≠ p := hd13.ne hP hp30
    have p5p : p5 ≠ p := hd13.ne hP hp50
    obtain ⟨c, hc⟩ : ∃ c : Nat, (n - hy).toNat = c := ⟨_, rfl⟩
    rw [hc]
    refine comp_rangeT (n := c) (fun i σ H2 => ∃ (k : Option V) (ys : List V), σ = [k, some (.ref p3), some (.ref p)] ∧ H2 D = some (.lst ys) ∧ AllI ys ∧ ys.length = i ∧ H2 p3 = some (.lst bsd) ∧ H2 vl = some (.lst vs) ∧ H2 p5 = some (.lst hvs) ∧ Drawn p H H2) ?_ ?_ ?_
    · exact ⟨none, [], rfl, upd_same, AllI.nil, rfl, by rw [upd_ne bD]; exact hb13, by rw [upd_ne vD]; exact hvl13, by rw [upd_ne d5]; exact h513, hd13.lay hD0 hP⟩
    · rintro i σ H14 hi ⟨k, ys, rfl, h1, h2, h3, h4, h5, h6, h7⟩
      refine ⟨_, rfl, _, rfl, _, rfl, _, _, rfl, .inl (SqL.of h4), p, _, rfl, h7.pot, by omega, by omega, fun r H15 r0 r1 tk => ?_⟩
      obtain ⟨v, hv, i', rfl⟩ := pick (Pd := fun v => ∃ i, v = V.int i) hbI r0 r1
      refine ⟨p3, _, r, _, rfl, rfl, SqL.of (tk.keep bp h4), hv, ?_⟩
      exact ⟨_, tk.keep (h7.ne hP hD0) h1, lt_line (by omega), _, _, rfl, upd_same, h2.snoc, by simp [h3], by rw [upd_ne bD]; exact tk.keep bp h4, by rw [upd_ne vD]; exact tk.keep vp h5, by rw [upd_ne d5]; exact tk.keep p5p h6, (h7.took tk).lay hD0 hP⟩
    · rintro σ H14 ⟨k, ys, rfl, h1, h2, h3, h4, h5, h6, h7⟩
      refine ⟨p5, D, _, _, rfl, rfl, h6, h1, le_line (by omega), fun p6 hp6 => ?_⟩
      have h60 := h7.free hp6
      exact ⟨p6, _, wy', _, _, rfl, h7.lay h60 hP, by rw [upd_ne (ne_of_none h5 hp6)]; exact h5, h60, upd_same, hI5.app h2, by rw [List.length_append]; omega⟩
  clear K7 σ7 H7
  rintro σ7 H7 K7
  refine ⟨KSt p m n s b vl vs H, ?_, ?_⟩
  · obtain ⟨kd', ks', wy', hv, bs, e, hd6, hvl6, hk0, hk1, hkI, hkz⟩ := id K7
    subst e
    refine ⟨_, rfl, rfl, _, rfl, ?_⟩
    refine ite2 (fun _ => ?_) (fun _ => K7)
    refine ⟨_, rfl, _, _, rfl, SqL.of hk1, fun l hl => ?_⟩
    have hl0 := hd6.free hl
    exact ⟨l, _, _, _, _, rfl, hd6.lay hl0 hP, by rw [upd_ne (ne_of_none hvl6 hl)]; exact hvl6, hl0, upd_same, hkI.rev, by rw [List.length_reverse]; exact hkz⟩
  clear K7 σ7 H7
  rintro σ7 H7 K7
  refine ⟨KSt p m n s b vl vs H, ?_, ?_⟩
  · obtain ⟨kd', ks', wy', hv, bs, e, hd6, hvl6, hk0, hk1, hkI, hkz⟩ := id K7
    subst e
    refine ⟨_, rfl, rfl, _, rfl, ?_⟩
    refine ite2 (fun _ => ?_) (fun _ => K7)
    obtain ⟨ns, rfl⟩ := hkI.ints
    rw [List.length_map] at hkz
    refine ⟨_, rfl, _, rfl, p, _, ns, rfl, hd6.pot, SqL.of hk1, by omega, fun r ms H8 hd8 hr0 hr1 hr2 => ?_⟩
    exact ⟨r, _, _, _, _, rfl, hd6.trans hd8, hd8.keep hvl6 vp, hd6.free hr0, hr1, allI_map _, by rw [List.length_map]; omega⟩
  rintro σ8 H8 ⟨kd', ks', wy', hv, bs, e, hd6, hvl6, hk0, hk1, hkI, hkz⟩
  subst e
  obtain ⟨ns, rfl⟩ := hkI.ints
  rw [List.length_map] at hkz
  exact ⟨_, rfl, q _ ns _ hd6 hk0 hk1 hkz⟩
theorem sc_law_answers : FnScope ["pot", "kinds", "most", "found", "k", "i", "j"] ["pot", "kinds", "most"] (defScope (top 13)) := ⟨rfl, rfl, rfl, by decide +kernel, rfl, by decide +kernel, by decide +kernel⟩
theorem ok_answers (F : Fun K "_law_answers" "_law_answers" (top 13) f fd) (D_law_take : Df P w K mg base 1 "_law_take" ["pot", "many"] spTake) (mint : mg "int" = none) (ml : mg "len" = none) (mrange : mg "range" = none) : FnOk P w K mg base CX0 2 f fd ["pot", "kinds", "most"] (spAnswers K) := by
  refine F.ok sc_law_answers (fun vs H Q E h => ?_) (fun cdv A outer s H vs Q E hr h => ?_)
  · obtain ⟨p, l, ks, m, rfl, _⟩ := h
    rfl
  obtain ⟨p, l, ks, m, rfl, hP, hl, lp, hz, m0, m1, q⟩ := h
  refine ⟨_, pss_cons (ps_set (i := 3) sc_law_answers.nd rfl (Or.inl rfl) (pe_lst pa_nil))
    (pss_cons (ps_for PassesOwn.never rfl (iR mrange (pe_op op_mul (pe_df D_law_take (hr.mono (by decide)) (pa_cons (pv 0) (pa_cons (pe_op op_add (pv 2) pe_int) pa_nil))) (eInt mint (pe_cmpR op_gt (eLen K ml (pv 1)) pe_int (nomark _))))) (pg_name (i := 4) sc_law_answers.nd rfl (Or.inl rfl))
      (pss_cons (ps_set (i := 5) sc_law_answers.nd rfl (Or.inl rfl) (pe_df D_law_take (hr.mono (by decide)) (pa_cons (pv 0) (pa_cons (eLen K ml (pv 1)) pa_nil))))
      (pss_cons (ps_set (i := 6) sc_law_answers.nd rfl (Or.inl rfl) (pe_op op_mod (pe_op op_add (pe_op op_add (pv 5) pe_int) (pe_df D_law_take (hr.mono (by decide)) (pa_cons (pv 0) (pa_cons (pe_op op_sub (eLen K ml (pv 1)) pe_int) pa_nil)))) (eLen K ml (pv 1))))
      (pss_one (ps_expr (eApp K (pv 3) (pe_tup (pa_cons (pv 5) (pa_cons (pv 6) (pa_cons (eEqD K hr (eIx K (pv 1) (pv 5)) (eIx K (pv 1) (pv 6))) pa_nil))))))))))
    (pss_one (ps_ret (pv 3)))), ?_⟩
  have kz : (ks.map V.int).length = ks.length := List.length_map _
  refine ⟨Nat.zero_le _, fun r hr0 => ?_⟩
  generalize e1 : upd H r _ = H1
  have l1 := Laid.of hr0 e1
  have P1 : Pot H1 p := (l1.drawn (Drawn.refl hP)).pot
  have rp : r ≠ p := fun z => hP.ne hr0 z.symm
  refine ⟨_, rfl, _, rfl, _, _, rfl, rfl, p, m + 1, rfl, P1, by omega, by omega, fun x H2 x0 x1 tk => ?_⟩
  have d2 : Drawn p H H2 := (l1.drawn (Drawn.refl hP)).took tk
  have hl2 : H2 l = some (.lst (ks.map V.int)) := d2.keep hl lp
  have hr2 : H2 r = some (.lst []) := tk.keep rp l1.new
  refine ⟨_, rfl, _, _, rfl, .inl (SqL.of hl2), _, _, rfl, rfl, _, rfl, _, _, rfl, rfl, ?_⟩
  rw [kz]
  have hc : (if decide ((1 : Int) < (ks.length : Int)) = true then (1 : Int) else 0) = if 1 < ks.length then 1 else 0 := by
    by_cases z : 1 < ks.length
    · rw [if_pos z, if_pos (decide_eq_true (by omega))]
    · rw [if_neg z, if_neg (by simp; omega)]
  rw [hc]
  refine ⟨.inl (by omega), _, rfl, by split <;> omega, by split <;> omega, ?_⟩
  have hbig : ∀ i : Nat, i < (x * (if 1 < ks.length then 1 else 0)).toNat → 1 < ks.length ∧ i < 1001 := fun i hi => by
    by_cases z : 1 < ks.length
    · rw [if_pos z, Int.mul_one] at hi; exact ⟨z, by omega⟩
    · rw [if_neg z, Int.mul_zero] at hi; exact absurd hi (Nat.not_lt_zero _)
  have hlim : (x * (if 1 < ks.length then 1 else 0)).toNat ≤ 1001 := by split <;> omega
  generalize (x * (if 1 < ks.length then 1 else 0)).toNat = T at hbig hlim ⊢
  refine for_range (fun i σ H3 => ∃ (o1 o2 o3 : Option V) (cs : List ACel), σ = [some (.ref p), some (.ref l), some (.int m), some (.ref r), o1, o2, o3] ∧ Drawn p H H3 ∧ H3 r = some (.lst (arefs cs)) ∧ AAt H3 cs ∧ (∀ c ∈ cs, Vald ks.length c.1) ∧ cs.length = i) ?_ ?_ ?_
  · exact ⟨_, _, _, [], rfl, d2, hr2, AAt.nil, fun _ h => by simp at h, rfl⟩
  · rintro i σ H3 hi ⟨o1, o2, o3, cs, rfl, d3, h3, hA, hv, hc⟩
    obtain ⟨hk, hiT⟩ := hbig i hi
    have hl3 := d3.keep hl lp
    refine ⟨_, rfl, _, rfl, _, _, rfl, .inl (SqL.of hl3), p, _, rfl, d3.pot, by rw [kz]; omega, by rw [kz]; omega, fun a H4 a0 a1 t4 => ?_⟩
    have d4 := d3.took t4
    have hl4 := d4.keep hl lp
    rw [kz] at a1
    refine ⟨_, rfl, _, _, rfl, rfl, _, rfl, _, rfl, _, _, rfl, .inl (SqL.of hl4), _, _, rfl, rfl, p, _, rfl, d4.pot, by rw [kz]; omega, by rw [kz]; omega, fun b H5 b0 b1 t5 => ?_⟩
    have d5 := d4.took t5
    have hl5 := d5.keep hl lp
    have hr5 : H5 r = some (.lst (arefs cs)) := t5.keep rp (t4.keep rp h3)
    have hA5 : AAt H5 cs := (hA.to (t4.tups d3.pot)).to (t5.tups d4.pot)
    rw [kz] at b1
    refine ⟨_, _, rfl, rfl, _, rfl, _, _, rfl, .inl (SqL.of hl5), _, _, rfl, rfl, by rw [kz]; omega, ?_⟩
    rw [kz]
    have j0 : 0 ≤ (a + 1 + b) % (ks.length : Int) := Int.emod_nonneg _ (by omega)
    have j1 : (a + 1 + b) % (ks.length : Int) < (ks.length : Int) := Int.emod_lt_of_pos _ (by omega)
    have jne : (a + 1 + b) % (ks.length : Int) ≠ a := by
      by_cases z : a + 1 + b < (ks.length : Int)
      · rw [Int.emod_eq_of_lt (by omega) z]; omega
      · have e : (a + 1 + b) % (ks.length : Int) = a + 1 + b - ks.length := by
          rw [← Int.sub_emod_right (a + 1 + b), Int.emod_eq_of_lt (by omega) (by omega)]
        rw [e]; omega
    obtain ⟨an, rfl⟩ := Int.eq_ofNat_of_zero_le a0
    obtain ⟨jn, ej⟩ := Int.eq_ofNat_of_zero_le j0
    have ha := at_kind (ks := ks) (i := an) (by omega)
    have hj := at_kind (ks := ks) (i := jn) (by omega)
    rw [← ej] at hj
    refine ⟨_, rfl, .inl ⟨rfl, _, SqL.of hr5⟩, _, rfl, _, rfl, _, rfl, _, rfl, _, _, _, _, rfl, rfl, SqL.of hl5, ha, _, rfl, _, rfl, _, _, _, _, rfl, rfl, SqL.of hl5, hj, _, _, .int _, .int _, (by simp [PyData.canLay0, PyData.depth]), ?_⟩
    refine ⟨(by show 3 ≤ sizeLine; rw [sizeLine_eq]; decide), fun u hu => ?_⟩
    generalize e6 : upd H5 u _ = H6
    have l6 := Laid.of hu e6
    have hcl := arefs_len cs
    refine ⟨r, _, _, rfl, rfl, l6.keep hr5, lt_line (by omega), ?_⟩
    have ru : r ≠ u := l6.ne hr5
    refine ⟨_, _, _, cs ++ [((an, jn, PyData.eqv (.int (ks.getD an 0)) (.int (ks.getD jn 0))), u)], rfl, ?_, ?_, ?_, ?_, ?_⟩
    · have d6 := l6.drawn d5
      exact ⟨d6.but.lay hr0, let ⟨x, y, z, e⟩ := d6.pot; ⟨x, y, z, by rw [upd_ne rp.symm]; exact e⟩⟩
    · rw [upd_same]; simp [arefs]
    · have t7 : TupS H6 (upd H6 r (.lst (arefs cs ++ [.ref u]))) := TupS.upd (l6.keep hr5)
      refine ((hA5.to l6.tups).to t7).snoc (t7 _ _ ?_)
      rw [l6.new]
      show some (HO.tup [V.int (an : Int), V.int _, V.bl _]) = some (HO.tup [V.int (an : Int), V.int (jn : Int), V.bl _])
      rw [ej]
    · intro c hc
      rcases List.mem_append.mp hc with z | z
      · exact hv c z
      · have : c = ((an, jn, PyData.eqv (.int (ks.getD an 0)) (.int (ks.getD jn 0))), u) := by simpa using z
        subst this
        exact ⟨by show an < _; omega, by show jn < _; omega, fun e => jne (by have : an = jn := e; omega)⟩
    · simp [hc]
  · rintro σ H3 ⟨o1, o2, o3, cs, rfl, d3, h3, hA, hv, hc⟩
    refine ⟨_, rfl, ?_⟩
    exact q r cs H3 d3 hr0 h3 ⟨SqL.of h3, hA, hv, by omega⟩
end
end Law


set_option Elab.async false
set_option linter.all false
set_option maxRecDepth 100000
set_option maxHeartbeats 0
namespace Law
open PySem L2
section
variable {P : Program} {w : World} {K : PySem.W.Frag} {mg : Str → Option Value} {base : Heap} {f : Addr} {fd : FuncData}
theorem sc_law_closed : FnScope ["many", "answers", "near", "i", "j", "alike", "found", "thing", "pile", "one"] ["many", "answers"] (defScope (top 14)) := ⟨rfl, rfl, rfl, by decide +kernel, rfl, by decide +kernel, by decide +kernel⟩
theorem nd_law_closed_0 : ((["thing"] : List Str) ++ ([] : List (Str × Nat)).map (·.1)).Nodup := by decide +kernel
theorem ok_closed (F : Fun K "_law_closed" "_law_closed" (top 14) f fd) (mint : mg "int" = none) (mrange : mg "range" = none) : FnOk P w K mg base CX0 1 f fd ["many", "answers"] (spClosed K) := by
  refine F.ok sc_law_closed (fun vs H Q E h => ?_) (fun cdv A outer s H vs Q E hr h => ?_)
  · obtain ⟨n, l, cs, rfl, _⟩ := h
    rfl
  obtain ⟨n, l, cs, rfl, hA, hn, q⟩ := h
  refine ⟨_, pss_cons (cutS (ps_setComp (i := 2) sc_law_closed.nd rfl rfl (own := ["thing"]) (cap := []) (cscope rfl) (iR mrange (pv 0))
      (fun _ _ _ _ _ => (pg_name (i := 0) nd_law_closed_0 rfl (Or.inl rfl))) (fun _ _ _ _ _ => pif_nil)
      (fun _ _ _ _ _ => (pe_lst pa_nil))))
    (pss_cons (cutS (ps_for PassesOwn.never rfl (iL K (pv 1)) (gT K (n := 3) (pgs_cons (pg_name (i := 3) sc_law_closed.nd rfl (Or.inl rfl)) (pgs_cons (pg_name (i := 4) sc_law_closed.nd rfl (Or.inl rfl)) (pgs_cons (pg_name (i := 5) sc_law_closed.nd rfl (Or.inl rfl)) pgs_nil))))
      (pss_one (ps_if (pt_val (pv 5))
        (pss_cons (ps_expr (eApp K (eIx K (pv 2) (pv 3)) (pv 4)))
        (pss_one (ps_expr (eApp K (eIx K (pv 2) (pv 4)) (pv 3)))))
        pss_nil))))
    (pss_cons (ps_set (i := 6) sc_law_closed.nd rfl (Or.inl rfl) (pe_op op_rep (pe_lst (pa_cons pe_non pa_nil)) (pv 0)))
    (pss_cons (ps_for PassesOwn.never rfl (iR mrange (pv 0)) (pg_name (i := 7) sc_law_closed.nd rfl (Or.inl rfl))
      (pss_cons (cutS (ps_set (i := 8) sc_law_closed.nd rfl (Or.inl rfl) (pe_op op_rep (pe_lst (pa_cons (pv 7) pa_nil)) (eInt mint (pe_cmpR op_isN (eIx K (pv 6) (pv 7)) pe_non (nomark _))))))
      (pss_one (ps_while PassesOwn.never (tNeD K hr (pv 8) (pe_lst pa_nil))
        (pss_cons (ps_set (i := 9) sc_law_closed.nd rfl (Or.inl rfl) (ePop K (pv 8) ))
        (pss_one (ps_if (pt_cmpR op_isN (eIx K (pv 6) (pv 9)) pe_non (nomark _))
          (pss_cons (ps_asg (pv 7) (pg_sub (pv 6) (pv 9) set_list))
          (pss_one (ps_expr (e_extend K (pv 8) (eIx K (pv 2) (pv 9))))))
          pss_nil)))))))
    (pss_one (ps_ret (pv 6)))))), ?_⟩
  have hvn : ∀ a ∈ asksOf cs, Vald n a := fun a ha => by
    obtain ⟨c, hc, rfl⟩ := List.mem_map.mp ha
    exact hA.ok c hc
  have asl : (asksOf cs).length = cs.length := List.length_map _
  have hcl := hA.len
  refine ⟨fun σ1 H1 => ∃ (nl : Addr) (ps : List Addr), σ1 = [some (.int (n : Int)), some (.ref l), some (.ref nl), none, none, none, none, none, none, none] ∧ Same H H1 ∧ NearAt H1 nl ps n (nb []) ∧ H nl = none ∧ ∀ p ∈ ps, H p = none, ?_, ?_⟩
  · refine ⟨_, rfl, _, rfl, by omega, by omega, fun nl hnl => ?_⟩
    rw [show ((n : Int)).toNat = n by simp]
    refine comp_rangeT (n := n) (fun i σ H2 => ∃ (k : Option V) (ps : List Addr), σ = [k] ∧ Same H H2 ∧ H2 nl = some (.lst (ps.map V.ref)) ∧ ps.length = i ∧ ps.Nodup ∧ (∀ p ∈ ps, H2 p = some (.lst []) ∧ H p = none ∧ p ≠ nl)) ?_ ?_ ?_
    · exact ⟨none, [], rfl, same_new hnl _, upd_same, rfl, List.nodup_nil, fun _ h => by simp at h⟩
    · rintro i σ H2 hi ⟨k, ps, rfl, s2, h2, hl2, nd2, at2⟩
      refine ⟨Nat.zero_le _, fun p hp => ?_⟩
      generalize e3 : upd H2 p _ = H3
      have l3 := Laid.of hp e3
      have np : nl ≠ p := l3.ne h2
      have hp0 : H p = none := s2.free hp
      refine ⟨_, l3.keep h2, by rw [List.length_map]; exact lt_line (by omega), _, ps ++ [p], rfl, fun b u z => by rw [upd_ne (ne_of_none z hnl)]; exact l3.keep (s2 b u z), by rw [upd_same]; simp, by simp [hl2], ?_, ?_⟩
      · rw [List.nodup_append]
        refine ⟨nd2, by simp, fun x hx y hy => ?_⟩
        have : y = p := by simpa using hy
        subst this
        exact l3.ne (at2 x hx).1
      · intro x hx
        rcases List.mem_append.mp hx with z | z
        · exact ⟨by rw [upd_ne (at2 x z).2.2]; exact l3.keep (at2 x z).1, (at2 x z).2⟩
        · have : x = p := by simpa using z
          subst this
          exact ⟨by rw [upd_ne np.symm]; exact l3.new, hp0, np.symm⟩
    · rintro σ H2 ⟨k, ps, rfl, s2, h2, hl2, nd2, at2⟩
      refine ⟨nl, ps, rfl, s2, ⟨h2, hl2, nd2, fun i p hp => (at2 p (List.mem_of_getElem? hp)).1⟩, hnl, fun p hp => (at2 p hp).2.1⟩
  rintro σ1 H1 ⟨nl, ps, rfl, s1, hN1, hnl, hps⟩
  refine ⟨fun σ2 H2 => ∃ o1 o2 o3, σ2 = [some (.int (n : Int)), some (.ref l), some (.ref nl), o1, o2, o3, none, none, none, none] ∧ Same H H2 ∧ NearAt H2 nl ps n (nb (asksOf cs)), ?_, ?_⟩
  · refine ⟨_, rfl, l, rfl, ⟨_, s1.seq hA.seq⟩, for_list (K := K) (a := l) (xs := arefs cs) (fun i σ H2 => ∃ o1 o2 o3, σ = [some (.int (n : Int)), some (.ref l), some (.ref nl), o1, o2, o3, none, none, none, none] ∧ Same H H2 ∧ NearAt H2 nl ps n (nb ((asksOf cs).take i))) ?_ ?_ ?_ ?_⟩
    · exact ⟨_, _, _, rfl, s1, hN1⟩
    · rintro i σ H2 _ ⟨o1, o2, o3, rfl, s2, _⟩
      exact s2.seq hA.seq
    · rintro i x σ H2 hx ⟨o1, o2, o3, rfl, s2, hN2⟩
      obtain ⟨a, b, k, p, hc, rfl, hp, ha, hb, hne⟩ := (hA.same s2).get hx
      have est := asks_take hc
      have nbl := fun x => nb_len ((asksOf cs).take i) x
      have htl : ((asksOf cs).take i).length ≤ 2000 := by rw [List.length_take]; omega
      refine ⟨p, _, rfl, SqT.of hp, rfl, _, _, rfl, _, _, rfl, _, _, rfl, rfl, ?_⟩
      refine ⟨_, rfl, _, rfl, ?_⟩
      cases k with
      | false =>
        refine ite2 (fun hd => absurd hd (by decide)) (fun _ => ?_)
        refine ⟨_, _, _, rfl, s2, hN2.fn fun x _ => ?_⟩
        rw [est, nb_snoc]; simp
      | true =>
        refine ite2 (fun _ => ?_) (fun hd => absurd rfl hd)
        obtain ⟨pa, ea, aa, ha2⟩ := hN2.get ha
        refine ⟨_, rfl, _, rfl, nl, _, _, _, rfl, rfl, SqL.of hN2.lst, aa, .inl ⟨rfl, _, SqL.of ha2⟩, _, rfl, pa, _, _, rfl, rfl, ha2, by rw [natV_len]; have := nbl a; exact lt_line (by omega), ?_⟩
        have hN3 := hN2.put (y := b) ea
        have s3 : Same H (upd H2 pa (.lst (natV (nb ((asksOf cs).take i) a) ++ [.int (b : Int)]))) := fun c u z => by rw [upd_ne (ne_of_none z (hps pa (List.mem_of_getElem? ea)))]; exact s2 c u z
        obtain ⟨pb, eb, ab, hb2⟩ := hN3.get hb
        simp only [Ne.symm hne, if_false] at hb2
        refine ⟨_, rfl, _, rfl, nl, _, _, _, rfl, rfl, SqL.of hN3.lst, ab, .inl ⟨rfl, _, SqL.of hb2⟩, _, rfl, pb, _, _, rfl, rfl, hb2, by rw [natV_len]; have := nbl b; exact lt_line (by omega), ?_⟩
        have hN4 := hN3.put (y := a) eb
        simp only [Ne.symm hne, if_false] at hN4
        refine ⟨_, _, _, rfl, fun c u z => by rw [upd_ne (ne_of_none z (hps pb (List.mem_of_getElem? eb)))]; exact s3 c u z, hN4.fn fun x _ => ?_⟩
        rw [est, nb_snoc]
        by_cases xb : x = b
        · subst xb
          simp [Ne.symm hne]
        · by_cases xa : x = a
          · subst xa
            simp [xb]
          · simp [xa, xb]
    · rintro σ H2 ⟨o1, o2, o3, rfl, s2, hN2⟩
      rw [arefs_len, List.take_of_length_le (by omega)] at hN2
      exact ⟨_, _, _, rfl, s2, hN2⟩
  rintro σ2 H2 ⟨o1, o2, o3, rfl, s2, hN2⟩
  have hval : ∀ x y, y ∈ nb (asksOf cs) x → y < n := fun x y hy => by
    rcases mem_nb.mp hy with z | z
    · exact (hvn _ z).2.1
    · exact (hvn _ z).1
  refine ⟨(by show 1 ≤ sizeLine; decide), fun q1 hq1 => ?_⟩
  generalize e3 : upd H2 q1 _ = H3
  have l3 := Laid.of hq1 e3
  refine ⟨_, rfl, q1, _, _, rfl, rfl, l3.new, by omega, by omega, le_line (by simp; omega), fun fl hfl => ?_⟩
  rw [show ((n : Int)).toNat = n by simp, fL_none]
  generalize e4 : upd H3 fl _ = H4
  have l4 := Laid.of hfl e4
  have hfl0 : H fl = none := s2.free (l3.same.free hfl)
  have s4 : Same H H4 := s2.trans (l3.same.trans l4.same)
  have hN4 : NearAt H4 nl ps n (nb (asksOf cs)) := (hN2.laid l3).laid l4
  have fln : fl ≠ nl := (l4.ne (hN2.laid l3).lst).symm
  have flp : ∀ p ∈ ps, fl ≠ p := fun p hp => by
    obtain ⟨i, hi⟩ := List.getElem?_of_mem hp
    exact (l4.ne ((hN2.laid l3).at_ i p hi)).symm
  refine ⟨_, rfl, _, rfl, by omega, by omega, ?_⟩
  rw [show ((n : Int)).toNat = n by simp]
  refine for_range (fun t σ H5 => ∃ (o1 o2 o3 o4 o5 o6 : Option V) (F : Nat → Option Nat), σ = [some (.int (n : Int)), some (.ref l), some (.ref nl), o1, o2, o3, some (.ref fl), o4, o5, o6] ∧ Same H H5 ∧ NearAt H5 nl ps n (nb (asksOf cs)) ∧ H5 fl = some (.lst (fL n F)) ∧ Out (asksOf cs) n t F) ?_ ?_ ?_
  · exact ⟨_, _, _, _, _, _, _, rfl, s4, hN4, l4.new, Out.zero⟩
  · rintro t σ H5 ht ⟨o1, o2, o3, o4, o5, o6, F, rfl, s5, hN5, h5, out⟩
    show _
    rw [show (0 : Int) + (t : Int) = (t : Int) by omega]
    refine ⟨fun σ6 H6 => ∃ (pl : Addr), σ6 = [some (.int (n : Int)), some (.ref l), some (.ref nl), o1, o2, o3, some (.ref fl), some (.int (t : Int)), some (.ref pl), o6] ∧ Same H H6 ∧ H pl = none ∧ pl ≠ nl ∧ pl ≠ fl ∧ (∀ p ∈ ps, pl ≠ p) ∧ NearAt H6 nl ps n (nb (asksOf cs)) ∧ H6 fl = some (.lst (fL n F)) ∧ H6 pl = some (.lst (natV (if (F t).isSome = true then [] else [t]))), ?_, ?_⟩
    · refine ⟨_, rfl, (by show 1 ≤ sizeLine; decide), fun q2 hq2 => ?_⟩
      generalize e6 : upd H5 q2 _ = H6
      have l6 := Laid.of hq2 e6
      refine ⟨_, rfl, _, rfl, fl, _, _, _, rfl, rfl, SqL.of (l6.keep h5), fL_at ht, rfl, _, rfl, ?_⟩
      rw [fV_non]
      refine ⟨q2, _, _, rfl, rfl, l6.new, by split <;> decide, by split <;> decide, by split <;> (show 1 * _ ≤ sizeLine; decide), fun pl hpl => ?_⟩
      generalize e7 : upd H6 pl _ = H7
      have l7 := Laid.of hpl e7
      refine ⟨pl, rfl, s5.trans (l6.same.trans l7.same), s5.free (l6.same.free hpl), (l7.ne (hN5.laid l6).lst).symm, (l7.ne (l6.keep h5)).symm, fun p hp => ?_, (hN5.laid l6).laid l7, l7.keep (l6.keep h5), ?_⟩
      · obtain ⟨i, hi⟩ := List.getElem?_of_mem hp
        exact (l7.ne ((hN5.laid l6).at_ i p hi)).symm
      · rw [l7.new]
        cases F t with
        | none => rfl
        | some r => rfl
    rintro σ6 H6 ⟨pl, rfl, s6, hpl0, pln, plf, plp, hN6, h6, hp6⟩
    refine ⟨fun m σ H7 => ∃ (o6 : Option V) (F : Nat → Option Nat) (pile : List Nat), σ = [some (.int (n : Int)), some (.ref l), some (.ref nl), o1, o2, o3, some (.ref fl), some (.int (t : Int)), some (.ref pl), o6] ∧ Same H H7 ∧ NearAt H7 nl ps n (nb (asksOf cs)) ∧ H7 fl = some (.lst (fL n F)) ∧ H7 pl = some (.lst (natV pile)) ∧ Dfs (asksOf cs) n t F pile ∧ m = pile.length + left (asksOf cs) F n ∧ m ≤ 4000001, ⟨_, o6, F, _, rfl, s6, hN6, h6, hp6, out.start ht, rfl, ?_⟩, ?_⟩
    · have h1 := left_le (asksOf cs) F n
      have h2 : n * (2 * (asksOf cs).length) ≤ 1000 * (2 * 2000) := Nat.mul_le_mul hn (by omega)
      have h3 : (if (F t).isSome = true then ([] : List Nat) else [t]).length ≤ 1 := by split <;> simp
      omega
    rintro m σ H7 ⟨o6', F7, pile, rfl, s7, hN7, h7, hp7, dfs, hm, hmb⟩
    refine ⟨_, rfl, Nat.zero_le _, fun q3 hq3 => ?_⟩
    generalize e8 : upd H7 q3 _ = H8
    have l8 := Laid.of hq3 e8
    refine ⟨dNat pile, .list [], .lst (SqL.of (l8.keep hp7)) (dps_nat _), .lst (SqL.of l8.new) .nil, lay_nat _, ?_⟩
    rw [eqv_nat]
    have s8 : Same H H8 := s7.trans l8.same
    have hN8 := hN7.laid l8
    have h8 := l8.keep h7
    have hp8 := l8.keep hp7
    by_cases hpe : pile = []
    · subst hpe
      refine ite2 (fun hd => absurd hd (by decide)) (fun _ => ?_)
      exact ⟨_, _, _, _, _, _, F7, rfl, s8, hN8, h8, dfs.stop⟩
    · refine ite2 (fun _ => ?_) (fun hd => absurd (by simp [hpe]) hd)
      obtain ⟨pp, one, rfl⟩ : ∃ pp one, pile = pp ++ [one] := ⟨pile.dropLast, pile.getLast hpe, (List.dropLast_concat_getLast hpe).symm⟩
      obtain ⟨ho, _⟩ := dfs.pin one (by simp)
      refine ⟨_, fun σ' H' z => z, ?_⟩
      refine ⟨_, rfl, .inl ⟨rfl, _, SqL.of hp8⟩, pl, _, .int (one : Int), rfl, rfl, hp8, by simp [natV], ?_⟩
      have edl : (natV (pp ++ [one])).dropLast = natV pp := by rw [natV_snoc, List.dropLast_concat]
      rw [edl]
      have hN9 : NearAt (upd H8 pl (.lst (natV pp))) nl ps n (nb (asksOf cs)) := hN8.to (upd_ne pln.symm) fun p hp => upd_ne (plp p hp).symm
      have s9 : Same H (upd H8 pl (.lst (natV pp))) := fun c u z => by rw [upd_ne (ne_of_none z hpl0)]; exact s8 c u z
      have h9 : (upd H8 pl (.lst (natV pp))) fl = some (.lst (fL n F7)) := by rw [upd_ne plf.symm]; exact h8
      have hp9 : (upd H8 pl (.lst (natV pp))) pl = some (.lst (natV pp)) := upd_same
      refine ⟨_, rfl, _, rfl, fl, _, _, _, rfl, rfl, SqL.of h9, fL_at ho, rfl, _, rfl, ?_⟩
      rw [fV_non]
      have hpl : (pp ++ [one]).length = pp.length + 1 := by simp
      cases eo : F7 one with
      | some r =>
        refine ite2 (fun hd => absurd hd (by simp)) (fun _ => ?_)
        refine ⟨_, ?_, _, F7, pp, rfl, s9, hN9, h9, hp9, dfs.old (by rw [eo]; rfl), rfl, ?_⟩
        · rw [hm]; omega
        · omega
      | none =>
        refine ite2 (fun _ => ?_) (fun hd => absurd (by decide) hd)
        have ls := left_set (asksOf cs) F7 one t eo n
        rw [if_pos ho] at ls
        refine ⟨_, rfl, _, rfl, _, rfl, fl, _, _, one, rfl, rfl, h9, by rw [fL_len]; exact ixN_nat ho, ?_⟩
        rw [fL_set]
        have hN10 : NearAt (upd (upd H8 pl (.lst (natV pp))) fl (.lst (fL n (setF F7 one t)))) nl ps n (nb (asksOf cs)) := hN9.to (upd_ne fln.symm) fun p hp => upd_ne (flp p hp).symm
        have hp10 : (upd (upd H8 pl (.lst (natV pp))) fl (.lst (fL n (setF F7 one t)))) pl = some (.lst (natV pp)) := by rw [upd_ne plf]; exact hp9
        have s10 : Same H (upd (upd H8 pl (.lst (natV pp))) fl (.lst (fL n (setF F7 one t)))) := fun c u z => by rw [upd_ne (ne_of_none z hfl0)]; exact s9 c u z
        obtain ⟨po, epo, apo, hpo⟩ := hN10.get ho
        refine ⟨_, rfl, .inl ⟨rfl, _, SqL.of hp10⟩, _, rfl, _, rfl, nl, _, _, _, rfl, rfl, SqL.of hN10.lst, apo, pl, po, _, _, rfl, rfl, hp10, hpo, by rw [natV_len, natV_len, sizeLine_eq]; omega, ?_⟩
        refine ⟨pp.length + (nb (asksOf cs) one).length + left (asksOf cs) (setF F7 one t) n, by omega, _, setF F7 one t, pp ++ nb (asksOf cs) one, rfl, fun c u z => by rw [upd_ne (ne_of_none z hpl0)]; exact s10 c u z, hN10.to (upd_ne pln.symm) (fun p hp => upd_ne (plp p hp).symm), by rw [upd_ne plf.symm, upd_same], by rw [upd_same, natV_app], dfs.new eo hval, by rw [List.length_append], by omega⟩
  · rintro σ H5 ⟨o1, o2, o3, o4, o5, o6, F, rfl, s5, hN5, h5, out⟩
    refine ⟨_, rfl, ?_⟩
    exact q fl F H5 hfl0 s5 h5 out
end
end Law


set_option Elab.async false
set_option linter.all false
set_option maxRecDepth 100000
set_option maxHeartbeats 0
namespace Law
open PySem L2
section
variable {P : Program} {w : World} {K : PySem.W.Frag} {mg : Str → Option Value} {base : Heap} {f : Addr} {fd : FuncData}
theorem sc_law_bent : FnScope ["pot", "answers", "found", "k", "at", "i", "j", "alike"] ["pot", "answers"] (defScope (top 15)) := ⟨rfl, rfl, rfl, by decide +kernel, rfl, by decide +kernel, by decide +kernel⟩
theorem ok_bent (F : Fun K "_law_bent" "_law_bent" (top 15) f fd) (D_law_take : Df P w K mg base 1 "_law_take" ["pot", "many"] spTake) (mli : mg "list" = none) (mint : mg "int" = none) (ml : mg "len" = none) (mrange : mg "range" = none) : FnOk P w K mg base CX0 2 f fd ["pot", "answers"] (spBent K) := by
  refine F.ok sc_law_bent (fun vs H Q E h => ?_) (fun cdv A outer s H vs Q E hr h => ?_)
  · obtain ⟨p, l, n, cs, rfl, _⟩ := h
    rfl
  obtain ⟨p, l, n, cs, rfl, hP, hl, lp, hA, q⟩ := h
  refine ⟨_, pss_cons (ps_set (i := 2) sc_law_bent.nd rfl (Or.inl rfl) (eList K mli (pv 1)))
    (pss_cons (ps_for PassesOwn.never rfl (iR mrange (pe_op op_mul (pe_df D_law_take (hr.mono (by decide)) (pa_cons (pv 0) (pa_cons pe_int pa_nil))) (eInt mint (eNeD K hr (pv 1) (pe_lst pa_nil))))) (pg_name (i := 3) sc_law_bent.nd rfl (Or.inl rfl))
      (pss_cons (ps_set (i := 4) sc_law_bent.nd rfl (Or.inl rfl) (pe_df D_law_take (hr.mono (by decide)) (pa_cons (pv 0) (pa_cons (eLen K ml (pv 2)) pa_nil))))
      (pss_cons (ps_asg (eIx K (pv 2) (pv 4)) (gT K (n := 3) (pgs_cons (pg_name (i := 5) sc_law_bent.nd rfl (Or.inl rfl)) (pgs_cons (pg_name (i := 6) sc_law_bent.nd rfl (Or.inl rfl)) (pgs_cons (pg_name (i := 7) sc_law_bent.nd rfl (Or.inl rfl)) pgs_nil)))))
      (pss_one (ps_asg (pe_tup (pa_cons (pv 5) (pa_cons (pv 6) (pa_cons (pe_not (pv 7)) pa_nil)))) (pg_sub (pv 2) (pv 4) set_list))))))
    (pss_one (ps_ret (pv 2)))), ?_⟩
  refine ⟨_, rfl, _, _, rfl, .inl hA.seq, fun r hr0 => ?_⟩
  generalize e1 : upd H r _ = H1
  have l1 := Laid.of hr0 e1
  have P1 : Pot H1 p := (l1.drawn (Drawn.refl hP)).pot
  have rp : r ≠ p := fun z => hP.ne hr0 z.symm
  refine ⟨_, rfl, p, 3, rfl, P1, by decide, by decide, fun x H2 x0 x1 tk => ?_⟩
  have d2 : Drawn p H H2 := (l1.drawn (Drawn.refl hP)).took tk
  have hl2 : H2 l = some (.lst (arefs cs)) := d2.keep hl lp
  have hr2 : H2 r = some (.lst (arefs cs)) := tk.keep rp l1.new
  have hA2 : AAt H2 cs := hA.at_.to (d2.tups hP)
  refine ⟨_, rfl, Nat.zero_le _, fun q3 hq3 => ?_⟩
  generalize e3 : upd H2 q3 _ = H3
  have l3 := Laid.of hq3 e3
  have d3 := l3.drawn d2
  refine ⟨.list ((asksOf cs).map dAsk), .list [], .lst (SqL.of (l3.keep hl2)) (dps_asks (hA2.to l3.tups)), .lst (SqL.of l3.new) .nil, ?_, _, rfl, _, _, rfl, rfl, ?_⟩
  · have := depth_asks (asksOf cs)
    simp only [PyData.canLay0, PyData.canLayAll0, lay_asks, Bool.true_and, PyData.depth]
    exact decide_eq_true (by omega)
  have ee : PyData.eqv (.list ((asksOf cs).map dAsk)) (.list []) = decide (cs = []) := by
    cases cs <;> simp [PyData.eqv, PyData.eqvAll, asksOf]
  rw [ee]
  have hbig : ∀ i : Nat, i < (x * (if (!decide (cs = [])) = true then 1 else 0)).toNat → 0 < cs.length := fun i hi => by
    by_cases z : cs = []
    · subst z; simp at hi
    · exact List.length_pos_iff.mpr z
  refine ⟨.inl (by omega), _, rfl, by split <;> omega, by split <;> omega, ?_⟩
  refine for_range (fun i σ H4 => ∃ (o1 o2 o3 o4 o5 : Option V) (cs' : List ACel), σ = [some (.ref p), some (.ref l), some (.ref r), o1, o2, o3, o4, o5] ∧ Drawn p H H4 ∧ H4 r = some (.lst (arefs cs')) ∧ AAt H4 cs' ∧ (∀ c ∈ cs', Vald n c.1) ∧ cs'.length = cs.length) ?_ ?_ ?_
  · exact ⟨_, _, _, _, _, cs, rfl, d3, l3.keep hr2, hA2.to l3.tups, hA.ok, rfl⟩
  · rintro i σ H4 hi ⟨o1, o2, o3, o4, o5, cs', rfl, d4, h4, hA4, hv, hc⟩
    have hpos := hbig i hi
    have hal := arefs_len cs'
    have hcl := hA.len
    refine ⟨_, rfl, _, rfl, _, _, rfl, .inl (SqL.of h4), p, _, rfl, d4.pot, by rw [hal]; omega, by rw [hal]; omega, fun a H5 a0 a1 t5 => ?_⟩
    have d5 := d4.took t5
    have h5 := t5.keep rp h4
    have hA5 := hA4.to (t5.tups d4.pot)
    rw [hal] at a1
    obtain ⟨an, rfl⟩ := Int.eq_ofNat_of_zero_le a0
    have hk : an < cs'.length := by omega
    have hAn : AnsAt K H5 n r cs' := ⟨SqL.of h5, hA5, hv, by omega⟩
    obtain ⟨x1', x2', k, qq, hcc, _, hqq, v1, v2, v3⟩ := hAn.get (i := an) (x := .ref (cs'[an]).2) (by simp [arefs, hk])
    have hcc' : cs'[an] = ((x1', x2', k), qq) := by
      have := List.getElem?_eq_some_iff.mp hcc
      exact this.2
    refine ⟨_, rfl, _, rfl, r, _, _, .ref qq, rfl, rfl, SqL.of h5, atI_nat (by simp [arefs, hk, hcc']), qq, _, rfl, SqT.of hqq, rfl, _, _, rfl, _, _, rfl, _, _, rfl, rfl, ?_⟩
    refine ⟨_, rfl, _, rfl, _, rfl, _, rfl, (by show 3 ≤ sizeLine; rw [sizeLine_eq]; decide), fun u hu => ?_⟩
    generalize e6 : upd H5 u _ = H6
    have l6 := Laid.of hu e6
    refine ⟨_, rfl, _, rfl, r, _, _, an, rfl, rfl, l6.keep h5, by rw [hal]; exact ixN_nat hk, ?_⟩
    have d6 := l6.drawn d5
    refine ⟨_, _, _, _, _, cs'.set an ((x1', x2', !k), u), rfl, ⟨d6.but.lay hr0, let ⟨x, y, z, e⟩ := d6.pot; ⟨x, y, z, by rw [upd_ne rp.symm]; exact e⟩⟩, ?_, ?_, ?_, by simp [hc]⟩
    · rw [upd_same]; simp [arefs, List.map_set]
    · intro c hm
      have t7 : TupS H6 (upd H6 r (.lst ((arefs cs').set an (.ref u)))) := TupS.upd (l6.keep h5)
      rcases List.mem_or_eq_of_mem_set hm with z | z
      · exact t7 _ _ (l6.tups _ _ (hA5 c z))
      · subst z; exact t7 _ _ l6.new
    · intro c hm
      rcases List.mem_or_eq_of_mem_set hm with z | z
      · exact hv c z
      · subst z; exact ⟨v1, v2, v3⟩
  · rintro σ H4 ⟨o1, o2, o3, o4, o5, cs', rfl, d4, h4, hA4, hv, hc⟩
    refine ⟨_, rfl, ?_⟩
    have hcl := hA.len
    exact q r cs' H4 d4 hr0 h4 ⟨SqL.of h4, hA4, hv, by omega⟩
theorem sc_law_right : FnScope ["many", "answers", "closed", "due", "handed", "found"] ["many", "answers"] (defScope (top 16)) := ⟨rfl, rfl, rfl, by decide +kernel, rfl, by decide +kernel, by decide +kernel⟩
theorem nd_law_right_0 : ((["i", "j", "alike"] : List Str) ++ ([("closed", 2)] : List (Str × Nat)).map (·.1)).Nodup := by decide +kernel
theorem nd_law_right_1 : ((["one"] : List Str) ++ ([] : List (Str × Nat)).map (·.1)).Nodup := by decide +kernel
theorem ok_right (F : Fun K "_law_right" "_law_right" (top 16) f fd) (D_law_closed : Df P w K mg base 1 "_law_closed" ["many", "answers"] (spClosed K)) (D_can_be : Df P w K mg base 3 "can_be" ["many", "answers"] (spCan K)) (mli : mg "list" = none) (misi : mg "isinstance" = none) (m_bool : mg "bool" = none) : FnOk P w K mg base CX0 4 f fd ["many", "answers"] (spRight K) := by
  refine F.ok sc_law_right (fun vs H Q E h => ?_) (fun cdv A outer s H vs Q E hr h => ?_)
  · obtain ⟨n, l, cs, rfl, _⟩ := h
    rfl
  obtain ⟨n, l, cs, rfl, hA, hn, q⟩ := h
  refine ⟨_, pss_cons (ps_set (i := 2) sc_law_right.nd rfl (Or.inr rfl) (pe_df D_law_closed (hr.mono (by decide)) (pa_cons (pv 0) (pa_cons (pv 1) pa_nil))))
    (pss_cons (cutS (ps_set (i := 3) sc_law_right.nd rfl (Or.inl rfl) (eEqD K hr (pe_comp (own := ["i", "j", "alike"]) (cap := [("closed", 2)]) (cscope rfl) (iL K (pv 1))
      (fun _ _ _ _ _ => (gT K (n := 3) (pgs_cons (pg_name (i := 0) nd_law_right_0 rfl (Or.inl rfl)) (pgs_cons (pg_name (i := 1) nd_law_right_0 rfl (Or.inl rfl)) (pgs_cons (pg_name (i := 2) nd_law_right_0 rfl (Or.inl rfl)) pgs_nil))))) (fun _ _ _ _ _ => (pif_one (PW.pt (pw_and (pt_not (pt_val (pv 2))) (pw_and1 (tEqD K hr (eIx K (pv 3) (pv 0)) (eIx K (pv 3) (pv 1))))))))
      (fun _ _ _ _ _ => pe_int)) (pe_lst pa_nil))))
    (pss_cons (ps_set (i := 4) sc_law_right.nd rfl (Or.inl rfl) (eList K mli (pv 1)))
    (pss_cons (ps_set (i := 5) sc_law_right.nd rfl (Or.inl rfl) (pe_lst (pa_cons (pe_df D_can_be (hr.mono (by decide)) (pa_cons (pv 0) (pa_cons (pv 4) pa_nil))) (pa_cons (pe_df D_can_be (hr.mono (by decide)) (pa_cons (pv 0) (pa_cons (pv 4) pa_nil))) pa_nil))))
    (pss_cons (ps_if (tNeD K hr (pe_comp (own := ["one"]) (cap := []) (cscope rfl) (iL K (pv 5))
      (fun _ _ _ _ _ => (pg_name (i := 0) nd_law_right_1 rfl (Or.inl rfl))) (fun _ _ _ _ _ => (pif_one (pt_not (pt_val (eIsi K misi (pv 0) (pe_bltn rfl m_bool rfl (v := .ty "bool") rfl))))))
      (fun _ _ _ _ _ => (pv 0))) (pe_lst pa_nil))
      (pss_one (ps_ret pe_bl))
      pss_nil)
    (pss_one (ps_ret (pe_and (eEqD K hr (pv 5) (pe_lst (pa_cons (pv 3) (pa_cons (pv 3) pa_nil)))) (pe_one (eEqD K hr (pv 4) (pv 1)))))))))), ?_⟩
  refine ⟨_, rfl, _, rfl, n, l, cs, rfl, hA, hn, fun D F H1 hD0 s1 hD out => ?_⟩
  have hvn : ∀ a ∈ asksOf cs, a.1 < n := fun a ha => by
    obtain ⟨c, hc, rfl⟩ := List.mem_map.mp ha
    exact (hA.ok c hc).1
  have hcan := can_is out hvn
  have hcl := hA.len
  refine ⟨fun σ2 H2 => σ2 = [some (.int (n : Int)), some (.ref l), some (.ref D), some (.bl (canB (asksOf cs))), none, none] ∧ Same H1 H2, ?_, ?_⟩
  · refine ⟨_, rfl, l, rfl, ⟨_, s1.seq hA.seq⟩, fun E hE => ?_⟩
    let bad : Ask → Bool := fun a => !a.2.2 && decide (F a.1 = F a.2.1)
    refine comp_list (K := K) (a := l) (xs := arefs cs) (fun i σ H2 => ∃ o1 o2 o3, σ = [o1, o2, o3, some (.ref D)] ∧ Same H1 H2 ∧ H2 E = some (.lst ((((asksOf cs).take i).filter bad).map fun _ => V.int 1))) ?_ ?_ ?_ ?_
    · exact ⟨_, _, _, rfl, same_new hE _, upd_same⟩
    · rintro i σ H2 _ ⟨o1, o2, o3, rfl, s2, _⟩
      exact s2.seq (s1.seq hA.seq)
    · rintro i x σ H2 hx ⟨o1, o2, o3, rfl, s2, h2⟩
      obtain ⟨a, b, k, p, hc, rfl, hp, ha, hb, hne⟩ := ((hA.same s1).same s2).get hx
      have hD2 := s2 _ _ hD
      have no : bad (a, b, k) = false → ∃ o1 o2 o3, [some (V.int (a : Int)), some (.int (b : Int)), some (.bl k), some (.ref D)] = [o1, o2, o3, some (.ref D)] ∧ Same H1 H2 ∧ H2 E = some (.lst ((((asksOf cs).take (i + 1)).filter bad).map fun _ => V.int 1)) := fun hb => by
        refine ⟨_, _, _, rfl, s2, ?_⟩
        rw [asks_take hc, List.filter_append]
        simpa [hb] using h2
      refine ⟨p, _, rfl, SqT.of hp, rfl, _, _, rfl, _, _, rfl, _, _, rfl, rfl, ?_⟩
      refine ⟨_, rfl, _, rfl, ?_⟩
      cases k with
      | true =>
        refine ite2 (fun hd => absurd hd (by decide)) (fun _ => ?_)
        refine ite2 (fun hd => absurd hd (by decide)) (fun _ => ?_)
        exact no rfl
      | false =>
        refine ite2 (fun _ => ?_) (fun hd => absurd rfl hd)
        have dfv : ∀ o, Dp K H2 (fV o) (match o with | none => .none | some r => .int (r : Int)) := fun o => by cases o <;> constructor
        refine ⟨_, rfl, _, rfl, D, _, _, _, rfl, rfl, SqL.of hD2, fL_at ha, _, rfl, _, rfl, D, _, _, _, rfl, rfl, SqL.of hD2, fL_at hb, _, _, dfv _, dfv _, ?_, ?_⟩
        · cases F a <;> cases F b <;> simp [PyData.canLay0, PyData.depth]
        have ev : PyData.eqv (match F a with | none => .none | some r => .int (r : Int)) (match F b with | none => .none | some r => .int (r : Int)) = decide (F a = F b) := by
          cases F a <;> cases F b <;> simp [PyData.eqv]
          rw [Bool.eq_iff_iff]
          simp
          omega
        rw [ev]
        by_cases z : F a = F b
        · refine ite2 (fun _ => ?_) (fun hd => absurd (decide_eq_true z) hd)
          refine ⟨_, h2, ?_, _, _, _, rfl, fun c u z => by rw [upd_ne (ne_of_none z hE)]; exact s2 c u z, ?_⟩
          · rw [List.length_map]
            have h1 := List.length_filter_le bad ((asksOf cs).take i)
            have h2 : (asksOf cs).length = cs.length := List.length_map _
            rw [List.length_take] at h1
            exact lt_line (by omega)
          · rw [upd_same, asks_take hc, List.filter_append]
            have : bad (a, b, false) = true := by simp [bad, z]
            simp [this]
        · refine ite2 (fun hd => absurd (of_decide_eq_true hd) z) (fun _ => ?_)
          exact no (by simp [bad, z])
    · rintro σ H2 ⟨o1, o2, o3, rfl, s2, h2⟩
      rw [arefs_len, List.take_of_length_le (by unfold asksOf; rw [List.length_map]; exact Nat.le_refl _)] at h2
      refine ⟨Nat.zero_le _, fun q3 hq3 => ?_⟩
      generalize e3 : upd H2 q3 _ = H3
      have l3 := Laid.of hq3 e3
      have e1 : ((asksOf cs).filter bad).map (fun _ => V.int 1) = (((asksOf cs).filter bad).map fun _ => (1 : Int)).map V.int := by simp
      rw [e1] at h2
      refine ⟨.list ((((asksOf cs).filter bad).map fun _ => (1 : Int)).map PyData.int), .list [], .lst (SqL.of (l3.keep h2)) (Dps.ints _), .lst (SqL.of l3.new) .nil, lay_nil _, ?_⟩
      refine ⟨?_, s2.trans l3.same⟩
      show [some (V.int (n : Int)), some (.ref l), some (.ref D), some (.bl (PyData.eqv _ _)), none, none] = _
      congr 5
      rw [hcan]
      have : PyData.eqv (.list ((((asksOf cs).filter bad).map fun _ => (1 : Int)).map PyData.int)) (.list []) = decide ((asksOf cs).filter bad = []) := by
        cases (asksOf cs).filter bad <;> simp [PyData.eqv, PyData.eqvAll]
      rw [this]
      refine congrArg V.bl ?_
      rw [Bool.eq_iff_iff, decide_eq_true_iff, List.filter_eq_nil_iff, List.all_eq_true]
      refine forall_congr' fun a => forall_congr' fun _ => ?_
      obtain ⟨i, j, k⟩ := a
      cases k <;> simp [bad]
  rintro σ2 H2 ⟨rfl, s2⟩
  have hA2 := (hA.same s1).same s2
  refine ⟨_, rfl, _, _, rfl, .inl hA2.seq, fun h hh => ?_⟩
  generalize e3 : upd H2 h _ = H3
  have l3 := Laid.of hh e3
  have hA3 : AnsAt K H3 n h cs := ⟨SqL.of l3.new, (hA2.same l3.same).at_, hA.ok, hA.len⟩
  refine ⟨_, rfl, _, rfl, n, h, cs, rfl, hA3, fun H4 s4 => ?_⟩
  refine ⟨_, rfl, _, rfl, n, h, cs, rfl, hA3.same s4, fun H5 s5 => ?_⟩
  refine ⟨(by show 2 ≤ sizeLine; exact two_le), fun fo hfo => ?_⟩
  generalize e6 : upd H5 fo _ = H6
  have l6 := Laid.of hfo e6
  generalize hb : canB (asksOf cs) = bb at *
  refine ⟨_, rfl, fo, rfl, ⟨_, SqL.of l6.new⟩, fun E2 hE2 => ?_⟩
  refine comp_list (K := K) (a := fo) (xs := [.bl bb, .bl bb]) (fun i σ H7 => ∃ o1, σ = [o1] ∧ Same H6 H7 ∧ H7 E2 = some (.lst [])) ?_ ?_ ?_ ?_
  · exact ⟨_, rfl, same_new hE2 _, upd_same⟩
  · rintro i σ H7 _ ⟨o1, rfl, s7, _⟩
    exact SqL.of (s7 _ _ l6.new)
  · rintro i x σ H7 hx ⟨o1, rfl, s7, h7⟩
    have hxb : x = .bl bb := by
      have := List.mem_of_getElem? hx
      simpa using this
    subst hxb
    refine ⟨_, rfl, _, "bool", "bool", rfl, .bl _, by decide, _, rfl, ?_⟩
    refine ite2 (fun hd => absurd hd (by decide)) (fun _ => ?_)
    exact ⟨_, rfl, s7, h7⟩
  · rintro σ H7 ⟨o1, rfl, s7, h7⟩
    refine ⟨Nat.zero_le _, fun q8 hq8 => ?_⟩
    generalize e8 : upd H7 q8 _ = H8
    have l8 := Laid.of hq8 e8
    refine ⟨.list [], .list [], .lst (SqL.of (l8.keep h7)) .nil, .lst (SqL.of l8.new) .nil, (by simp [PyData.canLay0, PyData.canLayAll0, PyData.depth, PyData.depthAll]), ?_⟩
    refine ite2 (fun hd => absurd hd (by simp [PyData.eqv, PyData.eqvAll])) (fun _ => ?_)
    have s8 : Same H6 H8 := s7.trans l8.same
    refine ⟨_, rfl, _, rfl, _, rfl, (by show 2 ≤ sizeLine; exact two_le), fun q9 hq9 => ?_⟩
    generalize e9 : upd H8 q9 _ = H9
    have l9 := Laid.of hq9 e9
    have s9 : Same H3 H9 := (s4.trans s5).trans (l6.same.trans (s8.trans l9.same))
    refine ⟨.list [.bool bb, .bool bb], .list [.bool bb, .bool bb], .lst (SqL.of (l9.keep (s8 _ _ l6.new))) (.cons (.bl _) (.cons (.bl _) .nil)), .lst (SqL.of l9.new) (.cons (.bl _) (.cons (.bl _) .nil)), (by simp [PyData.canLay0, PyData.canLayAll0, PyData.depth, PyData.depthAll]), _, rfl, ?_⟩
    refine ite2 (fun _ => ?_) (fun hd => absurd (by simp [PyData.eqv, PyData.eqvAll]) hd)
    have hA9 := hA3.same s9
    have hL9 := hA2.same (l3.same.trans s9)
    refine ⟨_, rfl, _, rfl, .list ((asksOf cs).map dAsk), .list ((asksOf cs).map dAsk), .lst hA9.seq (dps_asks hA9.at_), .lst hL9.seq (dps_asks hL9.at_), ?_, ?_⟩
    · have := depth_asks (asksOf cs)
      simp only [PyData.canLay0, lay_asks, Bool.true_and, PyData.depth]
      exact decide_eq_true (by omega)
    · rw [eqv_refl _ (by simp [PyData.canLay0, lay_asks])]
      exact q H9 (s1.trans (s2.trans (l3.same.trans s9)))
end
end Law


set_option Elab.async false
set_option linter.all false
set_option maxRecDepth 100000
set_option maxHeartbeats 0
namespace Law
open PySem L2
def spLaw (K : PySem.W.Frag) : Sp := fun vs H Q _ => ∃ (a : Addr) (ns : List Int), vs = [.ref a] ∧ SqL K H a (ns.map V.int) ∧ ns.length ≤ 63 ∧ ∀ H', Q (.bl true) H'
section
variable {P : Program} {w : World} {K : PySem.W.Frag} {mg : Str → Option Value} {base : Heap} {f : Addr} {fd : FuncData}
theorem sc_law : FnScope ["script", "cell", "pot", "kinds", "answers", "order", "chain", "alike"] ["script"] (defScope (top 17)) := ⟨rfl, rfl, rfl, by decide +kernel, rfl, by decide +kernel, by decide +kernel⟩
theorem nd_law_0 : ((["k"] : List Str) ++ ([("order", 5)] : List (Str × Nat)).map (·.1)).Nodup := by decide +kernel
theorem ok_law (F : Fun K "law" "law" (top 17) f fd) (D_law_pot : Df P w K mg base 1 "_law_pot" ["cell"] spPot) (D_law_take : Df P w K mg base 1 "_law_take" ["pot", "many"] spTake) (D_law_mixed : Df P w K mg base 2 "_law_mixed" ["pot", "row"] (spMixedP K))
    (D_law_kinds : Df P w K mg base 3 "_law_kinds" ["pot", "most"] spKinds) (D_law_answers : Df P w K mg base 2 "_law_answers" ["pot", "kinds", "most"] (spAnswers K)) (D_law_bent : Df P w K mg base 2 "_law_bent" ["pot", "answers"] (spBent K))
    (D_law_right : Df P w K mg base 4 "_law_right" ["many", "answers"] (spRight K)) (mli : mg "list" = none) (ml : mg "len" = none) (mrange : mg "range" = none) : FnOk P w K mg base CX0 5 f fd ["script"] (spLaw K) := by
  refine F.ok sc_law (fun vs H Q E h => ?_) (fun cdv A outer s H vs Q E hr h => ?_)
  · obtain ⟨a, ns, rfl, _⟩ := h
    rfl
  obtain ⟨a, ns, rfl, hS, hz, q⟩ := h
  refine ⟨_, pss_cons (ps_for PassesOwn.never rfl (iL K (pe_op op_cat (pe_lst (pa_cons pe_int pa_nil)) (eSl K (pv 0) po_none (po_some pe_int)))) (pg_name (i := 1) sc_law.nd rfl (Or.inl rfl))
      (pss_cons (ps_set (i := 2) sc_law.nd rfl (Or.inl rfl) (pe_df D_law_pot (hr.mono (by decide)) (pa_cons (pv 1) pa_nil)))
      (pss_cons (ps_set (i := 3) sc_law.nd rfl (Or.inl rfl) (pe_df D_law_kinds (hr.mono (by decide)) (pa_cons (pv 2) (pa_cons pe_int pa_nil))))
      (pss_cons (ps_set (i := 4) sc_law.nd rfl (Or.inl rfl) (pe_df D_law_answers (hr.mono (by decide)) (pa_cons (pv 2) (pa_cons (pv 3) (pa_cons (eIx K (pe_lst (pa_cons pe_int (pa_cons pe_int (pa_cons pe_int pa_nil)))) (pe_df D_law_take (hr.mono (by decide)) (pa_cons (pv 2) (pa_cons pe_int pa_nil)))) pa_nil)))))
      (pss_cons (ps_if (PW.pt (pw_or (pt_not (pt_val (pe_df D_law_right (hr.mono (by decide)) (pa_cons (eLen K ml (pv 3)) (pa_cons (pv 4) pa_nil))))) (pw_or1 (pt_not (pt_val (pe_df D_law_right (hr.mono (by decide)) (pa_cons (eLen K ml (pv 3)) (pa_cons (pe_df D_law_bent (hr.mono (by decide)) (pa_cons (pv 2) (pa_cons (pv 4) pa_nil))) pa_nil))))))))
        (pss_one (ps_ret pe_bl))
        pss_nil)
      (pss_cons (ps_set (i := 5) sc_law.nd rfl (Or.inr rfl) (pe_df D_law_mixed (hr.mono (by decide)) (pa_cons (pv 2) (pa_cons (eListR mli (eRange mrange (eLen K ml (pv 3)))) pa_nil))))
      (pss_cons (ps_setComp (i := 6) sc_law.nd rfl rfl (own := ["k"]) (cap := [("order", 5)]) (cscope rfl) (iR2 mrange pe_int (eLen K ml (pv 5)))
      (fun _ _ _ _ _ => (pg_name (i := 0) nd_law_0 rfl (Or.inl rfl))) (fun _ _ _ _ _ => pif_nil)
      (fun _ _ _ _ _ => (pe_tup (pa_cons (eIx K (pv 1) (pe_op op_sub (pv 0) pe_int)) (pa_cons (eIx K (pv 1) (pv 0)) (pa_cons pe_bl pa_nil))))))
      (pss_cons (ps_set (i := 6) sc_law.nd rfl (Or.inl rfl) (pe_df D_law_mixed (hr.mono (by decide)) (pa_cons (pv 2) (pa_cons (pv 6) pa_nil))))
      (pss_one (ps_if (pt_cmpR op_gt (eLen K ml (pv 5)) pe_int (nomark _))
        (pss_cons (ps_for PassesOwn.never rfl (iT K (pe_tup (pa_cons pe_bl (pa_cons pe_bl pa_nil)))) (pg_name (i := 7) sc_law.nd rfl (Or.inl rfl))
          (pss_one (ps_if (pt_not (pt_val (pe_df D_law_right (hr.mono (by decide)) (pa_cons (eLen K ml (pv 5)) (pa_cons (pe_op op_cat (pv 6) (pe_lst (pa_cons (pe_tup (pa_cons (eIx K (pv 5) (pe_un un_neg pe_int)) (pa_cons (eIx K (pv 5) pe_int) (pa_cons (pv 7) pa_nil)))) pa_nil))) pa_nil)))))
            (pss_one (ps_ret pe_bl))
            pss_nil)))
        (pss_one (ps_if (pt_not (pt_val (pe_df D_law_right (hr.mono (by decide)) (pa_cons (eLen K ml (pv 5)) (pa_cons (pe_op op_cat (eSl K (pv 6) (po_some pe_int) po_none) (pe_lst (pa_cons (pe_tup (pa_cons (eIx K (pv 5) pe_int) (pa_cons (eIx K (pv 5) (pe_un un_neg pe_int)) (pa_cons pe_bl pa_nil)))) pa_nil))) pa_nil)))))
          (pss_one (ps_ret pe_bl))
          pss_nil)))
        pss_nil))))))))))
    (pss_one (ps_ret pe_bl)), ?_⟩
  refine ⟨(by show 1 ≤ sizeLine; decide), fun q1 hq1 => ?_⟩
  generalize e1 : upd H q1 _ = H1
  have l1 := Laid.of hq1 e1
  refine ⟨_, rfl, _, rfl, a, _, rfl, l1.same.seq hS, fun q2 hq2 => ?_⟩
  generalize e2 : upd H1 q2 _ = H2
  have l2 := Laid.of hq2 e2
  have hcz : (cutV (ns.map V.int) none (some 8)).length ≤ 63 := Nat.le_trans (cutV_length _ _ _) (by rw [List.length_map]; exact hz)
  refine ⟨q1, q2, _, _, rfl, rfl, l2.keep l1.new, l2.new, le_line (by show 1 + _ ≤ _; omega), fun q3 hq3 => ?_⟩
  generalize e3 : upd H2 q3 _ = H3
  have l3 := Laid.of hq3 e3
  have hI : AllI ([V.int 0] ++ cutV (ns.map V.int) none (some 8)) := (AllI.nil.snoc (xs := [])).app (allI_map ns).cut
  have h3 : H3 q3 = some (.lst ([V.int 0] ++ cutV (ns.map V.int) none (some 8))) := l3.new
  generalize [V.int 0] ++ cutV (ns.map V.int) none (some 8) = cells at hI h3
  clear e1 e2 e3 l1 l2 l3 hq1 hq2 hq3
  refine ⟨q3, rfl, ⟨_, SqL.of h3⟩, for_list (K := K) (a := q3) (xs := cells) (fun i σ H4 => ∃ o1 o2 o3 o4 o5 o6 o7, σ = [some (.ref a), o1, o2, o3, o4, o5, o6, o7] ∧ Same H3 H4) ?_ ?_ ?_ ?_⟩
  · exact ⟨_, _, _, _, _, _, _, rfl, Same.refl _⟩
  · rintro i σ H4 _ ⟨o1, o2, o3, o4, o5, o6, o7, rfl, s4⟩
    exact SqL.of (s4 _ _ h3)
  · rintro i x σ H4 hx ⟨o1, o2, o3, o4, o5, o6, o7, rfl, s4⟩
    obtain ⟨c, rfl⟩ := hI x (List.mem_of_getElem? hx)
    refine ⟨_, rfl, c, rfl, fun p pa pb hp => ?_⟩
    generalize e5 : upd H4 p _ = H5
    have l5 := Laid.of hp e5
    have P5 : Pot H5 p := ⟨_, _, _, l5.new⟩
    have back : ∀ H', Drawn p H5 H' → Same H3 H' := fun H' d b o z => d.keep (l5.keep (s4 b o z)) (l5.ne (s4 b o z))
    refine ⟨_, rfl, p, 200, rfl, P5, by decide, by decide, fun r ms H6 d6 hr0 hr1 hmz => ?_⟩
    have rp : r ≠ p := fun z => P5.ne hr0 z.symm
    refine ⟨_, rfl, _, rfl, (by show 3 ≤ sizeLine; rw [sizeLine_eq]; decide), fun q7 hq7 => ?_⟩
    generalize e7 : upd H6 q7 _ = H7
    have l7 := Laid.of hq7 e7
    have d7 := l7.drawn d6
    refine ⟨_, rfl, p, 3, rfl, d7.pot, by decide, by decide, fun x H8 x0 x1 t8 => ?_⟩
    have d8 := d7.took t8
    have q7p : q7 ≠ p := fun z => d6.pot.ne hq7 z.symm
    obtain ⟨v, hv, m, rfl, m0, m1⟩ := pick (xs := [V.int 6, V.int 40, V.int 300]) (Pd := fun v => ∃ m : Int, v = V.int m ∧ 0 ≤ m ∧ m ≤ 1000) (r := x) (fun y hy => by
      rcases List.mem_cons.mp hy with rfl | hy
      · exact ⟨6, rfl, by decide, by decide⟩
      rcases List.mem_cons.mp hy with rfl | hy
      · exact ⟨40, rfl, by decide, by decide⟩
      rcases List.mem_cons.mp hy with rfl | hy
      · exact ⟨300, rfl, by decide, by decide⟩
      · simp at hy) x0 x1
    have hr8 : H8 r = some (.lst (ms.map V.int)) := t8.keep rp (l7.keep hr1)
    refine ⟨q7, _, x, .int m, rfl, rfl, SqL.of (t8.keep q7p l7.new), hv, p, r, ms, m, rfl, d8.pot, hr8, rp, hmz, m0, m1, fun al cs H9 d9 hal0 hal hA9 => ?_⟩
    have alp : al ≠ p := fun z => d8.pot.ne hal0 z.symm
    have d9' : Drawn p H5 H9 := d8.trans d9
    have hr9 : H9 r = some (.lst (ms.map V.int)) := d9.keep hr8 rp
    have hml : (ms.map V.int).length = ms.length := List.length_map _
    refine ⟨_, rfl, _, _, rfl, .inl (SqL.of hr9), _, rfl, ms.length, al, cs, by rw [hml], hA9, hmz, fun H10 s10 => ?_⟩
    refine ⟨_, rfl, ?_⟩
    refine ite2 (fun hd => absurd hd (by decide)) (fun _ => ?_)
    have d10 := d9'.same s10
    have hr10 := s10 _ _ hr9
    refine ⟨_, rfl, _, _, rfl, .inl (SqL.of hr10), _, rfl, _, rfl, p, al, ms.length, cs, rfl, d10.pot, s10 _ _ hal, alp, hA9.same s10, fun bl cs' H11 d11 hbl0 hbl hA11 => ?_⟩
    have d11' := d10.trans d11
    refine ⟨ms.length, bl, cs', by rw [hml], hA11, hmz, fun H12 s12 => ?_⟩
    refine ⟨_, rfl, ?_⟩
    refine ite2 (fun hd => absurd hd (by decide)) (fun _ => ?_)
    have d12 := d11'.same s12
    have hr12 := s12 _ _ (d11.keep hr10 rp)
    refine ⟨_, rfl, _, rfl, _, _, rfl, .inl (SqL.of hr12), _, rfl, fun rg hrg => ?_⟩
    generalize e13 : upd H12 rg _ = H13
    have l13 := Laid.of hrg e13
    refine ⟨rg, ms.length, rfl, by rw [l13.new, hml], by omega, fun ol hol => ?_⟩
    generalize e14 : upd H13 ol _ = H14
    have l14 := Laid.of hol e14
    have d14 := l14.drawn (l13.drawn d12)
    refine ⟨p, ol, _, rfl, d14.pot, SqL.of l14.new, by simp; omega, fun od ys H15 d15 hod0 hod hpm => ?_⟩
    obtain ⟨os, rfl, hosl, hosn, hos⟩ := order_of hpm
    have odp : od ≠ p := fun z => d14.pot.ne hod0 z.symm
    have d15' := d14.trans d15
    have hnl := natV_len os
    refine ⟨_, rfl, _, _, rfl, .inl (SqL.of hod), 1, _, rfl, ⟨by omega, by omega, by omega, by omega⟩, fun ch hch => ?_⟩
    rw [show (((natV os).length : Nat) - (1 : Int)).toNat = os.length - 1 by rw [hnl]; omega]
    have hch5 : H5 ch = none := d15'.free hch
    refine comp_rangeT (n := os.length - 1) (fun i σ H16 => ∃ (k : Option V) (cs : List ACel), σ = [k, some (.ref od)] ∧ Same H15 H16 ∧ H16 ch = some (.lst (arefs cs)) ∧ AAt H16 cs ∧ (∀ c ∈ cs, Vald ms.length c.1) ∧ cs.length = i) ?_ ?_ ?_
    · exact ⟨none, [], rfl, same_new hch _, upd_same, AAt.nil, fun _ h => by simp at h, rfl⟩
    · rintro i σ H16 hi ⟨k, cs2, rfl, s16, h16, hA16, hv16, hc16⟩
      have hod16 := s16 _ _ hod
      have ea := nat_at (os := os) (k := i) (by omega)
      have eb := nat_at (os := os) (k := i + 1) (by omega)
      have e1 : (1 : Int) + (i : Int) - 1 = (i : Int) := by omega
      have e2 : (1 : Int) + (i : Int) = ((i + 1 : Nat) : Int) := by omega
      refine ⟨_, rfl, _, rfl, _, _, rfl, rfl, od, _, _, _, rfl, rfl, SqL.of hod16, (by rw [e1]; exact ea), _, rfl, _, rfl, od, _, _, _, rfl, rfl, SqL.of hod16, (by rw [e2]; exact eb), (by show 3 ≤ sizeLine; rw [sizeLine_eq]; decide), fun u hu => ?_⟩
      generalize e17 : upd H16 u _ = H17
      have l17 := Laid.of hu e17
      refine ⟨_, l17.keep h16, by rw [arefs_len]; exact lt_line (by omega), _, cs2 ++ [((os[i], os[i + 1], true), u)], rfl, fun b o z => by rw [upd_ne (ne_of_none z hch)]; exact l17.keep (s16 b o z), by rw [upd_same]; simp [arefs], ?_, ?_, by simp [hc16]⟩
      · have t18 : TupS H17 (upd H17 ch (.lst (arefs cs2 ++ [.ref u]))) := TupS.upd (l17.keep h16)
        exact ((hA16.to l17.tups).to t18).snoc (t18 _ _ l17.new)
      · intro c hc
        rcases List.mem_append.mp hc with z | z
        · exact hv16 c z
        · have : c = ((os[i], os[i + 1], true), u) := by simpa using z
          subst this
          exact ⟨hos _ (List.getElem_mem _), hos _ (List.getElem_mem _), nodup_ne hosn (by omega) (by omega) (by omega)⟩
    rintro σ16 H16 ⟨k, cs2, rfl, s16, h16, hA16, hv16, hc16⟩
    have d16 := d15'.same s16
    refine ⟨_, rfl, _, rfl, p, ch, _, rfl, d16.pot, SqL.of h16, by rw [arefs_len]; omega, fun ch2 zs H17 d17 hch20 hch2 hpm2 => ?_⟩
    obtain ⟨cs3, rfl, hcs3⟩ := cells_of (cs := cs2) (ys := zs) fun y hy => hpm2.mem_iff.mp hy
    have hz3 : cs3.length = cs2.length := by
      have := hpm2.length_eq
      rwa [arefs_len, arefs_len] at this
    have d17' := d16.trans d17
    have hA17 : AAt H17 cs3 := fun c hc => d17.tups d16.pot _ _ (hA16 c (hcs3 c hc))
    have hv17 : ∀ c ∈ cs3, Vald ms.length c.1 := fun c hc => hv16 c (hcs3 c hc)
    have hod17 : H17 od = some (.lst (natV os)) := d17.keep (s16 _ _ hod) odp
    refine ⟨_, rfl, _, _, rfl, .inl (SqL.of hod17), _, _, rfl, rfl, _, rfl, ?_⟩
    rw [hnl]
    by_cases h2 : 2 < os.length
    · refine ite2 (fun _ => ?_) (fun hd => absurd (decide_eq_true (by omega)) hd)
      obtain ⟨o0, oL, e0', eL, v0, vL, nz⟩ : ∃ o0 oL : Nat, atI (natV os) 0 = some (.int (o0 : Int)) ∧ atI (natV os) (-1) = some (.int (oL : Int)) ∧ o0 < ms.length ∧ oL < ms.length ∧ oL ≠ o0 :=
        ⟨os[0]'(by omega), os[os.length - 1]'(by omega), nat_at (os := os) (k := 0) (by omega), nat_last (by omega), hos _ (List.getElem_mem _), hos _ (List.getElem_mem _), nodup_ne hosn (by omega) (by omega) (by omega)⟩
      refine ⟨(by show 2 ≤ sizeLine; exact two_le), fun tp htp => ?_⟩
      generalize e18 : upd H17 tp _ = H18
      have l18 := Laid.of htp e18
      refine ⟨tp, rfl, ⟨_, SqT.of l18.new⟩, for_tup (K := K) (a := tp) (xs := [.bl false, .bl true]) (fun i σ H19 => ∃ o7, σ = [some (.ref a), some (.int c), some (.ref p), some (.ref r), some (.ref al), some (.ref od), some (.ref ch2), o7] ∧ Same H18 H19) ?_ ?_ ?_ ?_⟩
      · exact ⟨_, rfl, Same.refl _⟩
      · rintro i σ H19 _ ⟨o7, rfl, s19⟩
        exact SqT.of (s19 _ _ l18.new)
      · rintro i x σ H19 hx ⟨o7, rfl, s19⟩
        obtain ⟨bx, rfl⟩ : ∃ b : Bool, x = .bl b := by
          have := List.mem_of_getElem? hx
          rcases List.mem_cons.mp this with rfl | z
          · exact ⟨_, rfl⟩
          · exact ⟨true, by simpa using z⟩
        have s19' : Same H17 H19 := l18.same.trans s19
        have hod19 := s19' _ _ hod17
        refine ⟨_, rfl, _, _, rfl, .inl (SqL.of hod19), _, rfl, ?_⟩
        refine ⟨_, rfl, _, rfl, od, _, _, _, rfl, rfl, SqL.of hod19, eL, _, rfl, od, _, _, _, rfl, rfl, SqL.of hod19, e0', _, rfl, (by show 3 ≤ sizeLine; rw [sizeLine_eq]; decide), fun u hu => ?_⟩
        generalize e20 : upd H19 u _ = H20
        have l20 := Laid.of hu e20
        refine ⟨(by show 1 ≤ sizeLine; decide), fun w1 hw1 => ?_⟩
        generalize e21 : upd H20 w1 _ = H21
        have l21 := Laid.of hw1 e21
        have s21 : Same H17 H21 := s19'.trans (l20.same.trans l21.same)
        refine ⟨ch2, w1, _, _, rfl, rfl, s21 _ _ hch2, l21.new, le_line (by rw [arefs_len]; show _ + 1 ≤ _; omega), fun w2 hw2 => ?_⟩
        generalize e22 : upd H21 w2 _ = H22
        have l22 := Laid.of hw2 e22
        have s22 : Same H17 H22 := s21.trans l22.same
        refine ⟨ms.length, w2, cs3 ++ [((oL, o0, bx), u)], by rw [hnl, hosl], ⟨SqL.of (by rw [l22.new]; simp [arefs]), (hA17.to s22.tups).snoc (l22.keep (l21.keep l20.new)), fun c hc => ?_, by simp; omega⟩, hmz, fun H23 s23 => ?_⟩
        · rcases List.mem_append.mp hc with z | z
          · exact hv17 c z
          · have : c = ((oL, o0, bx), u) := by simpa using z
            subst this
            exact ⟨vL, v0, nz⟩
        refine ⟨_, rfl, ?_⟩
        refine ite2 (fun hd => absurd hd (by decide)) (fun _ => ?_)
        exact ⟨_, rfl, s19.trans (l20.same.trans (l21.same.trans (l22.same.trans s23)))⟩
      · rintro σ H19 ⟨o7, rfl, s19⟩
        have s19' : Same H17 H19 := l18.same.trans s19
        have hod19 := s19' _ _ hod17
        have hch19 := s19' _ _ hch2
        refine ⟨_, rfl, _, _, rfl, .inl (SqL.of hod19), _, rfl, _, rfl, ch2, _, rfl, SqL.of hch19, fun w0 hw0 => ?_⟩
        rw [show cutV (arefs cs3) (some 1) none = (arefs cs3).drop 1 from cutV_drop _ 1]
        generalize e20 : upd H19 w0 _ = H20
        have l20 := Laid.of hw0 e20
        have hod20 := l20.keep hod19
        refine ⟨_, rfl, od, _, _, _, rfl, rfl, SqL.of hod20, e0', _, rfl, _, rfl, od, _, _, _, rfl, rfl, SqL.of hod20, eL, (by show 3 ≤ sizeLine; rw [sizeLine_eq]; decide), fun u hu => ?_⟩
        generalize e21 : upd H20 u _ = H21
        have l21 := Laid.of hu e21
        refine ⟨(by show 1 ≤ sizeLine; decide), fun w1 hw1 => ?_⟩
        generalize e22 : upd H21 w1 _ = H22
        have l22 := Laid.of hw1 e22
        have dl : ((arefs cs3).drop 1).length ≤ 1000 := by rw [List.length_drop, arefs_len]; omega
        refine ⟨w0, w1, _, _, rfl, rfl, l22.keep (l21.keep l20.new), l22.new, le_line (by show _ + 1 ≤ _; omega), fun w2 hw2 => ?_⟩
        generalize e23 : upd H22 w2 _ = H23
        have l23 := Laid.of hw2 e23
        have s23 : Same H17 H23 := s19'.trans (l20.same.trans (l21.same.trans (l22.same.trans l23.same)))
        have ed : (arefs cs3).drop 1 = arefs (cs3.drop 1) := by simp [arefs]
        refine ⟨ms.length, w2, cs3.drop 1 ++ [((o0, oL, false), u)], by rw [hnl, hosl], ⟨SqL.of (by rw [l23.new, ed]; simp [arefs]), AAt.snoc (fun c hc => s23.tups _ _ (hA17 c (List.mem_of_mem_drop hc))) (l23.keep (l22.keep l21.new)), fun c hc => ?_, by simp; omega⟩, hmz, fun H24 s24 => ?_⟩
        · rcases List.mem_append.mp hc with z | z
          · exact hv17 c (List.mem_of_mem_drop z)
          · have : c = ((o0, oL, false), u) := by simpa using z
            subst this
            exact ⟨v0, vL, Ne.symm nz⟩
        refine ⟨_, rfl, ?_⟩
        refine ite2 (fun hd => absurd hd (by decide)) (fun _ => ?_)
        exact ⟨_, _, _, _, _, _, _, rfl, back _ (d17'.same (s23.trans s24))⟩
    · refine ite2 (fun hd => absurd (of_decide_eq_true hd) (by omega)) (fun _ => ?_)
      exact ⟨_, _, _, _, _, _, _, rfl, back _ d17'⟩
  · rintro σ H4 ⟨o1, o2, o3, o4, o5, o6, o7, rfl, s4⟩
    exact q _
end
theorem all_mk {l : PySem.W.OpenLaw} {w : World} {K : PySem.W.Frag} {h : Heap} {mg : Str → Option Value} {fa f1 f2 f3 f4 f5 f6 f7 f8 f9 f10 f11 f12 f13 : Addr} (X : K.In h) (G : h.Ns mainGlobals mg) (hfa : mg "law" = some (.ref fa))
    {od1 an1 od2 an2 od3 an3 od4 an4 od5 an5 od6 an6 od7 an7 od8 an8 od9 an9 od10 an10 od11 an11 od12 an12 od13 an13 : Option Addr} {sl1 sl2 sl3 sl4 sl5 sl6 sl7 sl8 sl9 sl10 sl11 sl12 sl13 : Array (Option Value)} {oc1 kV1 dc1 pm1 cd1 ct1 oc2 kV2 dc2 pm2 cd2 ct2 oc3 kV3 dc3 pm3 cd3 ct3 oc4 kV4 dc4 pm4 cd4 ct4 oc5 kV5 dc5 pm5 cd5 ct5 oc6 kV6 dc6 pm6 cd6 ct6 oc7 kV7 dc7 pm7 cd7 ct7 oc8 kV8 dc8 pm8 cd8 ct8 oc9 kV9 dc9 pm9 cd9 ct9 oc10 kV10 dc10 pm10 cd10 ct10 oc11 kV11 dc11 pm11 cd11 ct11 oc12 kV12 dc12 pm12 cd12 ct12 oc13 kV13 dc13 pm13 cd13 ct13 : Value}
    (a1 : PySem.W.nsIn K mainGlobals "check_things" = some (some (.ref f1))) (l1 : K.lookup f1 = some ⟨oc1, od1, .func (PySem.W.fnOf "check_things" "check_things" (defArgs (top 4)) (defBody (top 4)) (defScope (top 4)) .none kV1 dc1 pm1 an1 cd1 ct1), sl1⟩) (c1 : PySem.W.codeIn K cd1 "check_things" = true) (k1 : PySem.W.keepIn K (.ref f1) = true)
    (a2 : PySem.W.nsIn K mainGlobals "moved" = some (some (.ref f2))) (l2 : K.lookup f2 = some ⟨oc2, od2, .func (PySem.W.fnOf "moved" "moved" (defArgs (top 5)) (defBody (top 5)) (defScope (top 5)) .none kV2 dc2 pm2 an2 cd2 ct2), sl2⟩) (c2 : PySem.W.codeIn K cd2 "moved" = true) (k2 : PySem.W.keepIn K (.ref f2) = true)
    (a3 : PySem.W.nsIn K mainGlobals "homes_of" = some (some (.ref f3))) (l3 : K.lookup f3 = some ⟨oc3, od3, .func (PySem.W.fnOf "homes_of" "homes_of" (defArgs (top 6)) (defBody (top 6)) (defScope (top 6)) .none kV3 dc3 pm3 an3 cd3 ct3), sl3⟩) (c3 : PySem.W.codeIn K cd3 "homes_of" = true) (k3 : PySem.W.keepIn K (.ref f3) = true)
    (a4 : PySem.W.nsIn K mainGlobals "can_be" = some (some (.ref f4))) (l4 : K.lookup f4 = some ⟨oc4, od4, .func (PySem.W.fnOf "can_be" "can_be" (defArgs (top 7)) (defBody (top 7)) (defScope (top 7)) .none kV4 dc4 pm4 an4 cd4 ct4), sl4⟩) (c4 : PySem.W.codeIn K cd4 "can_be" = true) (k4 : PySem.W.keepIn K (.ref f4) = true)
    (a5 : PySem.W.nsIn K mainGlobals "_law_pot" = some (some (.ref f5))) (l5 : K.lookup f5 = some ⟨oc5, od5, .func (PySem.W.fnOf "_law_pot" "_law_pot" (defArgs (top 9)) (defBody (top 9)) (defScope (top 9)) .none kV5 dc5 pm5 an5 cd5 ct5), sl5⟩) (c5 : PySem.W.codeIn K cd5 "_law_pot" = true) (k5 : PySem.W.keepIn K (.ref f5) = true)
    (a6 : PySem.W.nsIn K mainGlobals "_law_take" = some (some (.ref f6))) (l6 : K.lookup f6 = some ⟨oc6, od6, .func (PySem.W.fnOf "_law_take" "_law_take" (defArgs (top 10)) (defBody (top 10)) (defScope (top 10)) .none kV6 dc6 pm6 an6 cd6 ct6), sl6⟩) (c6 : PySem.W.codeIn K cd6 "_law_take" = true) (k6 : PySem.W.keepIn K (.ref f6) = true)
    (a7 : PySem.W.nsIn K mainGlobals "_law_mixed" = some (some (.ref f7))) (l7 : K.lookup f7 = some ⟨oc7, od7, .func (PySem.W.fnOf "_law_mixed" "_law_mixed" (defArgs (top 11)) (defBody (top 11)) (defScope (top 11)) .none kV7 dc7 pm7 an7 cd7 ct7), sl7⟩) (c7 : PySem.W.codeIn K cd7 "_law_mixed" = true) (k7 : PySem.W.keepIn K (.ref f7) = true)
    (a8 : PySem.W.nsIn K mainGlobals "_law_kinds" = some (some (.ref f8))) (l8 : K.lookup f8 = some ⟨oc8, od8, .func (PySem.W.fnOf "_law_kinds" "_law_kinds" (defArgs (top 12)) (defBody (top 12)) (defScope (top 12)) .none kV8 dc8 pm8 an8 cd8 ct8), sl8⟩) (c8 : PySem.W.codeIn K cd8 "_law_kinds" = true) (k8 : PySem.W.keepIn K (.ref f8) = true)
    (a9 : PySem.W.nsIn K mainGlobals "_law_answers" = some (some (.ref f9))) (l9 : K.lookup f9 = some ⟨oc9, od9, .func (PySem.W.fnOf "_law_answers" "_law_answers" (defArgs (top 13)) (defBody (top 13)) (defScope (top 13)) .none kV9 dc9 pm9 an9 cd9 ct9), sl9⟩) (c9 : PySem.W.codeIn K cd9 "_law_answers" = true) (k9 : PySem.W.keepIn K (.ref f9) = true)
    (a10 : PySem.W.nsIn K mainGlobals "_law_closed" = some (some (.ref f10))) (l10 : K.lookup f10 = some ⟨oc10, od10, .func (PySem.W.fnOf "_law_closed" "_law_closed" (defArgs (top 14)) (defBody (top 14)) (defScope (top 14)) .none kV10 dc10 pm10 an10 cd10 ct10), sl10⟩) (c10 : PySem.W.codeIn K cd10 "_law_closed" = true) (k10 : PySem.W.keepIn K (.ref f10) = true)
    (a11 : PySem.W.nsIn K mainGlobals "_law_bent" = some (some (.ref f11))) (l11 : K.lookup f11 = some ⟨oc11, od11, .func (PySem.W.fnOf "_law_bent" "_law_bent" (defArgs (top 15)) (defBody (top 15)) (defScope (top 15)) .none kV11 dc11 pm11 an11 cd11 ct11), sl11⟩) (c11 : PySem.W.codeIn K cd11 "_law_bent" = true) (k11 : PySem.W.keepIn K (.ref f11) = true)
    (a12 : PySem.W.nsIn K mainGlobals "_law_right" = some (some (.ref f12))) (l12 : K.lookup f12 = some ⟨oc12, od12, .func (PySem.W.fnOf "_law_right" "_law_right" (defArgs (top 16)) (defBody (top 16)) (defScope (top 16)) .none kV12 dc12 pm12 an12 cd12 ct12), sl12⟩) (c12 : PySem.W.codeIn K cd12 "_law_right" = true) (k12 : PySem.W.keepIn K (.ref f12) = true)
    (a13 : PySem.W.nsIn K mainGlobals "law" = some (some (.ref f13))) (l13 : K.lookup f13 = some ⟨oc13, od13, .func (PySem.W.fnOf "law" "law" (defArgs (top 17)) (defBody (top 17)) (defScope (top 17)) .none kV13 dc13 pm13 an13 cd13 ct13), sl13⟩) (c13 : PySem.W.codeIn K cd13 "law" = true) (k13 : PySem.W.keepIn K (.ref f13) = true)
    (z_len : PySem.W.nsIn K mainGlobals "len" = some none)
    (z_list : PySem.W.nsIn K mainGlobals "list" = some none)
    (z_int : PySem.W.nsIn K mainGlobals "int" = some none)
    (z_bool : PySem.W.nsIn K mainGlobals "bool" = some none)
    (z_isinstance : PySem.W.nsIn K mainGlobals "isinstance" = some none)
    (z_all : PySem.W.nsIn K mainGlobals "all" = some none)
    (z_range : PySem.W.nsIn K mainGlobals "range" = some none)
    (z_min : PySem.W.nsIn K mainGlobals "min" = some none)
    (z_max : PySem.W.nsIn K mainGlobals "max" = some none)
    (z_sorted : PySem.W.nsIn K mainGlobals "sorted" = some none) :
    ∃ fd : FuncData, (∀ (s : Shared) (v : Value), BindsTo s fd ⟨[v], []⟩ [("script", v)]) ∧ ∀ base : Heap, K.In base → base.Ns mainGlobals mg → FnOk l.prog w K mg base CX0 5 fa fd ["script"] (spLaw K) := by
  have e := hfa.symm.trans (PySem.W.mg_of X G a13)
  cases e
  have F1 := fun_mk (st := top 4) l1 c1 k1
  have b1 := F1.binds (ps := ["many", "answers"]) fun _ _ _ _ _ _ us hl => match us, hl with | [_, _], _ => rfl
  have g1 := PySem.W.mg_of X G a1
  have F2 := fun_mk (st := top 5) l2 c2 k2
  have b2 := F2.binds (ps := ["homes", "old", "new"]) fun _ _ _ _ _ _ us hl => match us, hl with | [_, _, _], _ => rfl
  have g2 := PySem.W.mg_of X G a2
  have F3 := fun_mk (st := top 6) l3 c3 k3
  have b3 := F3.binds (ps := ["answers"]) fun _ _ _ _ _ _ us hl => match us, hl with | [_], _ => rfl
  have g3 := PySem.W.mg_of X G a3
  have F4 := fun_mk (st := top 7) l4 c4 k4
  have b4 := F4.binds (ps := ["many", "answers"]) fun _ _ _ _ _ _ us hl => match us, hl with | [_, _], _ => rfl
  have g4 := PySem.W.mg_of X G a4
  have F5 := fun_mk (st := top 9) l5 c5 k5
  have b5 := F5.binds (ps := ["cell"]) fun _ _ _ _ _ _ us hl => match us, hl with | [_], _ => rfl
  have g5 := PySem.W.mg_of X G a5
  have F6 := fun_mk (st := top 10) l6 c6 k6
  have b6 := F6.binds (ps := ["pot", "many"]) fun _ _ _ _ _ _ us hl => match us, hl with | [_, _], _ => rfl
  have g6 := PySem.W.mg_of X G a6
  have F7 := fun_mk (st := top 11) l7 c7 k7
  have b7 := F7.binds (ps := ["pot", "row"]) fun _ _ _ _ _ _ us hl => match us, hl with | [_, _], _ => rfl
  have g7 := PySem.W.mg_of X G a7
  have F8 := fun_mk (st := top 12) l8 c8 k8
  have b8 := F8.binds (ps := ["pot", "most"]) fun _ _ _ _ _ _ us hl => match us, hl with | [_, _], _ => rfl
  have g8 := PySem.W.mg_of X G a8
  have F9 := fun_mk (st := top 13) l9 c9 k9
  have b9 := F9.binds (ps := ["pot", "kinds", "most"]) fun _ _ _ _ _ _ us hl => match us, hl with | [_, _, _], _ => rfl
  have g9 := PySem.W.mg_of X G a9
  have F10 := fun_mk (st := top 14) l10 c10 k10
  have b10 := F10.binds (ps := ["many", "answers"]) fun _ _ _ _ _ _ us hl => match us, hl with | [_, _], _ => rfl
  have g10 := PySem.W.mg_of X G a10
  have F11 := fun_mk (st := top 15) l11 c11 k11
  have b11 := F11.binds (ps := ["pot", "answers"]) fun _ _ _ _ _ _ us hl => match us, hl with | [_, _], _ => rfl
  have g11 := PySem.W.mg_of X G a11
  have F12 := fun_mk (st := top 16) l12 c12 k12
  have b12 := F12.binds (ps := ["many", "answers"]) fun _ _ _ _ _ _ us hl => match us, hl with | [_, _], _ => rfl
  have g12 := PySem.W.mg_of X G a12
  have F13 := fun_mk (st := top 17) l13 c13 k13
  have m_len := PySem.W.mg_none_of X G z_len
  have m_list := PySem.W.mg_none_of X G z_list
  have m_int := PySem.W.mg_none_of X G z_int
  have m_bool := PySem.W.mg_none_of X G z_bool
  have m_isinstance := PySem.W.mg_none_of X G z_isinstance
  have m_all := PySem.W.mg_none_of X G z_all
  have m_range := PySem.W.mg_none_of X G z_range
  have m_min := PySem.W.mg_none_of X G z_min
  have m_max := PySem.W.mg_none_of X G z_max
  have m_sorted := PySem.W.mg_none_of X G z_sorted
  refine ⟨PySem.W.fnOf "law" "law" (defArgs (top 17)) (defBody (top 17)) (defScope (top 17)) .none kV13 dc13 pm13 an13 cd13 ct13, fun s v => .of_eq rfl, fun base _ _ => ?_⟩
  have D1 : Df l.prog w K mg base 1 "check_things" ["many", "answers"] (spCheck K) := ⟨_, _, ok_check F1, b1, k1, g1⟩
  have D2 : Df l.prog w K mg base 1 "moved" ["homes", "old", "new"] spMoved := ⟨_, _, ok_moved F2, b2, k2, g2⟩
  have D3 : Df l.prog w K mg base 2 "homes_of" ["answers"] (spHomes K) := ⟨_, _, ok_homes F3 D2, b3, k3, g3⟩
  have D4 : Df l.prog w K mg base 3 "can_be" ["many", "answers"] (spCan K) := ⟨_, _, ok_can F4 D1 D3 m_all, b4, k4, g4⟩
  have D5 : Df l.prog w K mg base 1 "_law_pot" ["cell"] spPot := ⟨_, _, ok_pot F5 m_max, b5, k5, g5⟩
  have D6 : Df l.prog w K mg base 1 "_law_take" ["pot", "many"] spTake := ⟨_, _, ok_take F6, b6, k6, g6⟩
  have D7 : Df l.prog w K mg base 2 "_law_mixed" ["pot", "row"] (spMixedP K) := ⟨_, _, ok_mixedP F7 D6 m_list m_len m_range, b7, k7, g7⟩
  have D8 : Df l.prog w K mg base 3 "_law_kinds" ["pot", "most"] spKinds := ⟨_, _, ok_kinds F8 D6 (D7.imp mixed_ints) m_min m_sorted m_len m_range, b8, k8, g8⟩
  have D9 : Df l.prog w K mg base 2 "_law_answers" ["pot", "kinds", "most"] (spAnswers K) := ⟨_, _, ok_answers F9 D6 m_int m_len m_range, b9, k9, g9⟩
  have D10 : Df l.prog w K mg base 1 "_law_closed" ["many", "answers"] (spClosed K) := ⟨_, _, ok_closed F10 m_int m_range, b10, k10, g10⟩
  have D11 : Df l.prog w K mg base 2 "_law_bent" ["pot", "answers"] (spBent K) := ⟨_, _, ok_bent F11 D6 m_list m_int m_len m_range, b11, k11, g11⟩
  have D12 : Df l.prog w K mg base 4 "_law_right" ["many", "answers"] (spRight K) := ⟨_, _, ok_right F12 D10 D4 m_list m_isinstance m_bool, b12, k12, g12⟩
  exact ok_law F13 D5 D6 D7 D8 D9 D11 D12 m_list m_len m_range
theorem walk {l : PySem.W.OpenLaw} {q : Program} {loose : List Str} {XP : (Str → Option Value) → Heap → Prop} {YP : World → Heap → Prop} {d : DefRec} {K : Params → PySem.W.Frag} (hn : l.most = some 63) (hdf : d.params.defaults = [])
    (hY : ∀ (w : World) (h : Heap), YP w h → (K w.params).In h)
    (F : ∀ (w : World) (mg : Str → Option Value) (fa : Addr) (h : Heap), (K w.params).In h → h.Ns mainGlobals mg → mg d.name = some (.ref fa) →
      ∃ fd : FuncData, (∀ (s : Shared) (u : Value), BindsTo s fd ⟨[u], []⟩ [("script", u)]) ∧ ∀ base : Heap, (K w.params).In base → base.Ns mainGlobals mg → FnOk l.prog w (K w.params) mg base CX0 5 fa fd ["script"] (spLaw (K w.params))) :
    PySem.W.WalkO q loose XP YP l.row.toRowW d [] (fun f vs => PySem.call f vs) :=
  L2.walk_of (n := 63) (k := 5) (x := "script") (CX := fun _ => CX0) (sp := fun w => spLaw (K w.params)) hn (by decide) hdf ⟨rfl, by decide, by decide⟩ hY F (fun _ _ a ns hl _ hS => ⟨a, ns, rfl, hS, hl, fun _ => rfl⟩) fun _ _ _ _ _ z => z
end Law
open PySem PySem.W PyProof.Rows
set_option maxRecDepth 100000 in
set_option maxHeartbeats 0 in
theorem PySem.Challenge.cw_morethanhalf_k06_answers_that_can_be_holds : PySem.Challenge.rw_morethanhalf_k06_answers_that_can_be.Holds := by
  w_on; o_law; k_head; (case hw => w_witness2)
  k_fill
  refine Law.walk (l := PySem.Challenge.rw_morethanhalf_k06_answers_that_can_be) rfl rfl (fun w h Y => PySem.W.kIn_of Y) ?F
  case F =>
    intro w mg fa h KX G hmg
    refine' Law.all_mk KX G hmg ?a1 ?l1 ?c1 ?k1 ?a2 ?l2 ?c2 ?k2 ?a3 ?l3 ?c3 ?k3 ?a4 ?l4 ?c4 ?k4 ?a5 ?l5 ?c5 ?k5 ?a6 ?l6 ?c6 ?k6 ?a7 ?l7 ?c7 ?k7 ?a8 ?l8 ?c8 ?k8 ?a9 ?l9 ?c9 ?k9 ?a10 ?l10 ?c10 ?k10 ?a11 ?l11 ?c11 ?k11 ?a12 ?l12 ?c12 ?k12 ?a13 ?l13 ?c13 ?k13 ?z_len ?z_list ?z_int ?z_bool ?z_isinstance ?z_all ?z_range ?z_min ?z_max ?z_sorted
    (case a1 => k_is); (case l1 => k_is); (case c1 => k_is); (case k1 => k_is)
    (case a2 => k_is); (case l2 => k_is); (case c2 => k_is); (case k2 => k_is)
    (case a3 => k_is); (case l3 => k_is); (case c3 => k_is); (case k3 => k_is)
    (case a4 => k_is); (case l4 => k_is); (case c4 => k_is); (case k4 => k_is)
    (case a5 => k_is); (case l5 => k_is); (case c5 => k_is); (case k5 => k_is)
    (case a6 => k_is); (case l6 => k_is); (case c6 => k_is); (case k6 => k_is)
    (case a7 => k_is); (case l7 => k_is); (case c7 => k_is); (case k7 => k_is)
    (case a8 => k_is); (case l8 => k_is); (case c8 => k_is); (case k8 => k_is)
    (case a9 => k_is); (case l9 => k_is); (case c9 => k_is); (case k9 => k_is)
    (case a10 => k_is); (case l10 => k_is); (case c10 => k_is); (case k10 => k_is)
    (case a11 => k_is); (case l11 => k_is); (case c11 => k_is); (case k11 => k_is)
    (case a12 => k_is); (case l12 => k_is); (case c12 => k_is); (case k12 => k_is)
    (case a13 => k_is); (case l13 => k_is); (case c13 => k_is); (case k13 => k_is)
    (case z_len => k_is)
    (case z_list => k_is)
    (case z_int => k_is)
    (case z_bool => k_is)
    (case z_isinstance => k_is)
    (case z_all => k_is)
    (case z_range => k_is)
    (case z_min => k_is)
    (case z_max => k_is)
    (case z_sorted => k_is)

