import PyProof.Rows.All
import Wide.All
import OpenK.AllK
import Wide.FinOn
import Lean
import PyProof.EqAt
import PyProof.EqKinds
import PyProof.TupleCall
import PyProof.NsDelKeeps
import KE.KTryMore
import OpenK.KOwn
import PyProof.ExcBaseAll.ValueError
import PyProof.Rows.CountFlat
import PyProof.Rows.SeqMore2
import PyProof.SumWalkG
import PyProof.FitsBits
import PyProof.Rows.IntMath
import PySem.Challenge.RW_morethanhalf_k04_all_sorts
set_option Elab.async false
set_option linter.all false
set_option maxRecDepth 100000
namespace L2
open PySem PySem.Spec PyProof.Rows
abbrev Key := Sum Int Str
def keyIs : Key → Value → Bool
  | .inl k, v => Value.isInt k v
  | .inr x, v => Value.isStrOf x v
def keyH (w : World) : Key → Int
  | .inl k => hashInt k
  | .inr x => hashStr w x
theorem keyIs_shape : ∀ {k : Key} {v : Value}, keyIs k v = true → (∃ i t, k = Sum.inl i ∧ v = Value.int i t) ∨ (∃ x t, k = Sum.inr x ∧ v = Value.str x t)
  | .inl i, v, h => by
    obtain ⟨t, e⟩ := Value.isInt_shape (k := i) (v := v) h
    exact .inl ⟨i, t, rfl, e⟩
  | .inr x, v, h => by
    obtain ⟨t, e⟩ := Value.isStrOf_shape (x := x) (v := v) h
    exact .inr ⟨x, t, rfl, e⟩
theorem key_ll (a b : Int) : decide ((Sum.inl a : Key) = Sum.inl b) = (a == b) := by
  by_cases e : a = b
  · subst e; simp
  · have h : ¬ (Sum.inl a : Key) = Sum.inl b := fun q => e (Sum.inl.inj q)
    rw [decide_eq_false h]
    exact (beq_eq_false_iff_ne.mpr e).symm
theorem key_rr (a b : Str) : decide ((Sum.inr a : Key) = Sum.inr b) = decide (a = b) := by
  by_cases e : a = b
  · subst e; simp
  · have h : ¬ (Sum.inr a : Key) = Sum.inr b := fun q => e (Sum.inr.inj q)
    rw [decide_eq_false h, decide_eq_false e]
theorem key_lr (a : Int) (b : Str) : decide ((Sum.inl a : Key) = Sum.inr b) = false := decide_eq_false (fun q => nomatch q)
theorem key_rl (a : Str) (b : Int) : decide ((Sum.inr a : Key) = Sum.inl b) = false := decide_eq_false (fun q => nomatch q)
def mixKind (prog : Program) (w : World) : PySem.KeyKind prog w Key where
  is := keyIs
  hash := keyH w
  inj := fun v a b ha hb => by
    rcases keyIs_shape ha with ⟨i, t, rfl, rfl⟩ | ⟨x, t, rfl, rfl⟩
    · rcases keyIs_shape hb with ⟨j, u, rfl, e⟩ | ⟨y, u, rfl, e⟩
      · injection e with e1 _; rw [e1]
      · exact nomatch e
    · rcases keyIs_shape hb with ⟨j, u, rfl, e⟩ | ⟨y, u, rfl, e⟩
      · exact nomatch e
      · injection e with e1 _; rw [e1]
  byValue := fun k v h => by
    rcases keyIs_shape h with ⟨i, t, rfl, rfl⟩ | ⟨x, t, rfl, rfl⟩ <;> rfl
  pyHash := fun hv h => by
    rcases keyIs_shape hv with ⟨i, t, rfl, rfl⟩ | ⟨x, t, rfl, rfl⟩
    · exact wpAny_pyHash_int h
    · exact wpAny_pyHash_str h
  eqBool := fun hu hv h => by
    rcases keyIs_shape hu with ⟨i, t, rfl, rfl⟩ | ⟨x, t, rfl, rfl⟩
    · rcases keyIs_shape hv with ⟨j, u, rfl, rfl⟩ | ⟨y, u, rfl, rfl⟩
      · rw [key_ll] at h; exact wpAny_eqBool_int h
      · rw [key_lr] at h; exact SeqAt.EqAt.int_str i t y u _ _ _ _ h
    · rcases keyIs_shape hv with ⟨j, u, rfl, rfl⟩ | ⟨y, u, rfl, rfl⟩
      · rw [key_rl] at h; exact SeqAt.EqAt.str_int x t j u _ _ _ _ h
      · rw [key_rr] at h; exact wpAny_eqBool_str h
  «strs» := fun k x t v h => by
    rcases keyIs_shape h with ⟨i, u, rfl, e⟩ | ⟨y, u, rfl, e⟩
    · exact nomatch e
    · injection e with e1 _
      subst e1
      cases v <;> rfl
end L2
namespace L2
open PySem PySem.Spec PyProof.Rows
inductive V where
  | non | bl (b : Bool) | int (i : Int) | str (x : Str) | byt (b : Array UInt8) | flt (b : UInt64) | ref (a : Addr) | ty (n : String)
  deriving DecidableEq
def RelV : V → Value → Prop
  | .non, u => u = Value.none
  | .bl b, u => u = Value.bool b
  | .int i, u => ∃ t, u = Value.int i t
  | .str x, u => ∃ t, u = Value.str x t
  | .byt b, u => ∃ t, u = Value.bytes b t
  | .flt b, u => ∃ t, u = Value.float b t
  | .ref a, u => u = Value.ref a
  | .ty n, u => u = Value.type n
abbrev Vals : List V → List Value → Prop := Paired RelV
theorem Vals.length {xs : List V} {us : List Value} (r : Vals xs us) : xs.length = us.length := Paired.length r
theorem Vals.get : ∀ {xs : List V} {us : List Value} {i : Nat} {x : V}, Vals xs us → xs[i]? = some x → ∃ u, us[i]? = some u ∧ RelV x u
  | _, _, _, _, .nil, e => by simp at e
  | _, _, 0, _, .cons r _, e => by simp at e; subst e; exact ⟨_, rfl, r⟩
  | _, _, i + 1, x, .cons _ t, e => by
    obtain ⟨u, h1, h2⟩ := Vals.get (i := i) (x := x) t (by simpa using e)
    exact ⟨u, by simpa using h1, h2⟩
theorem Vals.set {x : V} {u : Value} (r : RelV x u) : ∀ {xs : List V} {us : List Value} (i : Nat), Vals xs us → Vals (xs.set i x) (us.set i u)
  | _, _, _, .nil => .nil
  | _, _, 0, .cons _ t => .cons r t
  | _, _, i + 1, .cons q t => .cons q (Vals.set r i t)
theorem Vals.append : ∀ {xs ys : List V} {us ws : List Value}, Vals xs us → Vals ys ws → Vals (xs ++ ys) (us ++ ws)
  | _, _, _, _, .nil, s => s
  | _, _, _, _, .cons r t, s => .cons r (Vals.append t s)
theorem Vals.take : ∀ {xs : List V} {us : List Value} (n : Nat), Vals xs us → Vals (xs.take n) (us.take n)
  | _, _, 0, _ => .nil
  | _, _, _ + 1, .nil => .nil
  | _, _, n + 1, .cons r t => .cons r (Vals.take n t)
theorem Vals.drop : ∀ {xs : List V} {us : List Value} (n : Nat), Vals xs us → Vals (xs.drop n) (us.drop n)
  | _, _, 0, r => r
  | _, _, _ + 1, .nil => .nil
  | _, _, n + 1, .cons _ t => Vals.drop n t
def RelO : Option V → Option Value → Prop
  | some v, some u => RelV v u
  | none, none => True
  | _, _ => False
def KV {κ : Type} : List (κ × V) → List (κ × Value) → Prop := Paired fun (p : κ × V) (q : κ × Value) => p.1 = q.1 ∧ RelV p.2 q.2
def kV : Key → V
  | .inl i => .int i
  | .inr x => .str x
inductive HO where
  | lst (xs : List V)
  | tup (xs : List V)
  | dK (kvs : List (Key × V)) | dT (kvs : List (List Key × V))
  | set (S : Int → Bool) (n : Nat)
  | ins (C dx : Addr) (fs : List (Str × V))
  | own (x : Addr)
  | xd (fs : List (Str × V))
  | met (f x : Addr)
  | rng (lo hi : Int)
  | frz (o : Obj) (u : HO)
  | tbl (ps : Array Value)
  | ext (φ : Heap → Prop)
abbrev Hp := Addr → Option HO
def upd (H : Hp) (a : Addr) (o : HO) : Hp := fun b => if b = a then some o else H b
theorem upd_same {H : Hp} {a : Addr} {o : HO} : upd H a o a = some o := by unfold upd; rw [if_pos rfl]
theorem upd_ne {H : Hp} {a b : Addr} {o : HO} (h : b ≠ a) : upd H a o b = H b := by unfold upd; rw [if_neg h]
theorem ne_of {H : Hp} {a b : Addr} {o u : HO} (h : H a = some o) (h' : H b = some u) (d : o ≠ u) : a ≠ b := by
  intro e; subst e; rw [h] at h'; exact d (Option.some.inj h')
theorem ne_of_none {H : Hp} {a b : Addr} {o : HO} (h : H a = some o) (h' : H b = none) : a ≠ b := by
  intro e; subst e; rw [h] at h'; cases h'
section
variable (P : Program) (w : World)
def ObjOk (H : Hp) (h : Heap) (a : Addr) : HO → Prop
  | .lst xs => xs.length ≤ sizeLine ∧ ∃ (its : List Value) (n : Nat), Vals xs its ∧ h.get? a = some { cls := .type "list", data := .seq its.toArray n }
  | .tup xs => xs.length ≤ sizeLine ∧ ∃ its : List Value, Vals xs its ∧ IsTup h a its.toArray
  | .dK kvs => kvs.length ≤ sizeLine ∧ (a == sysModules) = false ∧ ∃ vs, KV kvs vs ∧ h.DictOf (mixKind P w) a vs
  | .dT kvs => kvs.length ≤ sizeLine ∧ (a == sysModules) = false ∧ ∃ xs : List (List Key × Addr × Value),
      Paired (fun (p : List Key × V) (q : List Key × Addr × Value) => p.1 = q.1 ∧ H q.2.1 = some (.tup (p.1.map kV)) ∧ RelV p.2 q.2.2) kvs xs ∧
      ∃ o es ep, h.get? a = some o ∧ o.ExactDict ∧ o.data = .dict es ep ∧ es.toList = xs.map (entryOfKey (tupleKind (mixKind P w))) ∧ (xs.map (·.1)).Nodup
  | .set S n => h.SetOf (intKind P w) a S n
  | .ins C dx fs => H dx = some (.own a) ∧ fs.length ≤ 1000 ∧ dx ≠ a ∧ h.get? a = some (PySem.W.instObj C dx) ∧
      ∃ mA, h.Ns1 dx mA ∧ (∀ f, RelO (fs.lookup f) (mA f)) ∧ PySem.Within mA (fs.map (·.1))
  | .own _ => ∃ o, h.get? a = some o
  | .xd fs => ∃ mA, h.Ns1 a mA ∧ ∀ f, RelO (fs.lookup f) (mA f)
  | .rng lo hi => ∃ t u v, h.get? a = some { cls := .type "range", data := .fields #[.int lo t, .int hi u, .int 1 v] }
  | .frz o u => h.get? a = some o ∧ ObjOk H h a u
  | .tbl ps => h.get? a = some { cls := .none, data := .fields ps }
  | .met f x => h.get? a = some (PySem.W.methodObj (.ref f) (.ref x))
  | .ext φ => φ h ∧ (∃ o, h.get? a = some o) ∧ ∀ h1 h2 : Heap, φ h1 → (∀ o, h1.get? a = some o → h2.get? a = some o) → φ h2
def HOk (H : Hp) (h : Heap) : Prop := ∀ a o, H a = some o → ObjOk P w H h a o
end
section
variable {P : Program} {w : World} {H H' : Hp} {h h' : Heap} {a : Addr} {o : HO}
theorem ObjOk.lt (x : ObjOk P w H h a o) : a < h.objs.size := by
  cases o with
  | lst xs => obtain ⟨_, _, _, _, e⟩ := x; exact Heap.lt_size e
  | tup xs => obtain ⟨_, _, _, p⟩ := x; exact p.lt
  | dK kvs => obtain ⟨_, _, _, _, o, _, _, e, _⟩ := x; exact Heap.lt_size e
  | dT kvs => obtain ⟨_, _, _, _, o, _, _, e, _⟩ := x; exact Heap.lt_size e
  | set S n => obtain ⟨o, _, _, _, e, _⟩ := x; exact Heap.lt_size e
  | ins C dx fs => obtain ⟨_, _, _, e, _⟩ := x; exact Heap.lt_size e
  | own y => obtain ⟨_, e⟩ := x; exact Heap.lt_size e
  | xd fs => obtain ⟨_, ⟨_, _, _, e, _⟩, _⟩ := x; exact Heap.lt_size e
  | rng lo hi => obtain ⟨_, _, _, e⟩ := x; exact Heap.lt_size e
  | frz ob u => obtain ⟨e, _⟩ := x; exact Heap.lt_size e
  | tbl ps => exact Heap.lt_size (show h.get? a = some _ from x)
  | met f y => exact Heap.lt_size (show h.get? a = some _ from x)
  | ext φ => obtain ⟨_, ⟨_, e⟩, _⟩ := x; exact Heap.lt_size e
theorem Paired.mapP {α β : Type} {F G : α → β → Prop} : ∀ {l₁ : List α} {l₂ : List β}, Paired F l₁ l₂ → (∀ a b, F a b → G a b) → Paired G l₁ l₂
  | _, _, .nil, _ => .nil
  | _, _, .cons r t, f => .cons (f _ _ r) (Paired.mapP t f)
theorem ObjOk.stay (x : ObjOk P w H h a o) (k : ∀ b u, (b = a ∨ H b = some (.own a)) → h.get? b = some u → h'.get? b = some u)
    (ho : ∀ b, H b = some (.own a) → H' b = some (.own a)) (ht : ∀ b xs, H b = some (.tup xs) → H' b = some (.tup xs)) : ObjOk P w H' h' a o := by
  induction o with
  | lst xs => obtain ⟨z, its, n, r, e⟩ := x; exact ⟨z, its, n, r, k _ _ (.inl rfl) e⟩
  | tup xs => obtain ⟨z, its, r, ob, e, c⟩ := x; exact ⟨z, its, r, ob, k _ _ (.inl rfl) e, c⟩
  | dK kvs => obtain ⟨z, y, vs, r, ob, es, ep, e, c⟩ := x; exact ⟨z, y, vs, r, ob, es, ep, k _ _ (.inl rfl) e, c⟩
  | dT kvs =>
    obtain ⟨z, y, xs, r, ob, es, ep, e, c⟩ := x
    exact ⟨z, y, xs, Paired.mapP r fun p q z => ⟨z.1, ht _ _ z.2.1, z.2.2⟩, ob, es, ep, k _ _ (.inl rfl) e, c⟩
  | set S n => obtain ⟨ob, es, ep, t, e, c⟩ := x; exact ⟨ob, es, ep, t, k _ _ (.inl rfl) e, c⟩
  | ins C dx fs =>
    obtain ⟨d, z, ne, e, mA, ⟨od, es, ep, e2, c⟩, r⟩ := x
    exact ⟨ho _ d, z, ne, k _ _ (.inl rfl) e, mA, ⟨od, es, ep, k _ _ (.inr d) e2, c⟩, r⟩
  | own y => obtain ⟨ob, e⟩ := x; exact ⟨ob, k _ _ (.inl rfl) e⟩
  | xd fs => obtain ⟨mA, ⟨od, es, ep, e, c⟩, r⟩ := x; exact ⟨mA, ⟨od, es, ep, k _ _ (.inl rfl) e, c⟩, r⟩
  | rng lo hi => obtain ⟨t, u, v, e⟩ := x; exact ⟨t, u, v, k _ _ (.inl rfl) e⟩
  | frz ob u ih => obtain ⟨e, q⟩ := x; exact ⟨k _ _ (.inl rfl) e, ih q⟩
  | tbl ps =>
    have e : h.get? a = some { cls := .none, data := .fields ps } := x
    show h'.get? a = some { cls := .none, data := .fields ps }
    exact k a _ (.inl rfl) e
  | met f y =>
    have e : h.get? a = some (PySem.W.methodObj (.ref f) (.ref y)) := x
    show h'.get? a = some (PySem.W.methodObj (.ref f) (.ref y))
    exact k a _ (.inl rfl) e
  | ext φ => obtain ⟨p, ⟨o, e⟩, st⟩ := x; exact ⟨st _ _ p fun o q => k _ _ (.inl rfl) q, ⟨o, k _ _ (.inl rfl) e⟩, st⟩
theorem HOk.lt (x : HOk P w H h) (e : H a = some o) : a < h.objs.size := (x a o e).lt
theorem HOk.fresh (x : HOk P w H h) (e : h.objs.size ≤ a) : H a = none := by
  cases q : H a with
  | none => rfl
  | some u => exact absurd (Nat.lt_of_lt_of_le (x.lt q) e) (Nat.lt_irrefl _)
theorem HOk.kept (x : HOk P w H h) (k : ∀ b u, h.get? b = some u → h'.get? b = some u) : HOk P w H h' := fun a o e =>
  (x a o e).stay (fun b u _ q => k b u q) (fun _ q => q) fun _ _ q => q
theorem HOk.laid (x : HOk P w H h) (k : ∀ b u, h.get? b = some u → h'.get? b = some u) (hp : h.objs.size ≤ a) (new : ObjOk P w (upd H a o) h' a o) : HOk P w (upd H a o) h' := fun b u e => by
  have hn := x.fresh hp
  by_cases hb : b = a
  · subst hb; rw [upd_same] at e; cases e; exact new
  · rw [upd_ne hb] at e
    exact (x b u e).stay (fun c v _ q => k c v q) (fun c q => by rw [upd_ne (ne_of_none q hn)]; exact q) fun c xs q => by rw [upd_ne (ne_of_none q hn)]; exact q
end
def Rd (H : Hp) (a : Addr) (u : HO) : Prop := H a = some u ∨ ∃ o, H a = some (.frz o u)
theorem Rd.of {H : Hp} {a : Addr} {u : HO} (h : H a = some u) : Rd H a u := .inl h
theorem Rd.ok {P : Program} {w : World} {H : Hp} {h : Heap} {a : Addr} {u : HO} (r : Rd H a u) (x : HOk P w H h) : ObjOk P w H h a u := by
  rcases r with r | ⟨o, r⟩
  · exact x a u r
  · obtain ⟨_, q⟩ := x a _ r
    exact q
def Mut : Option HO → Prop
  | some (.lst _) => True
  | some (.dK _) => True
  | some (.dT _) => True
  | some (.set _ _) => True
  | some (.ins _ _ _) => True
  | some (.ext _) => True
  | _ => False
section
variable {P : Program} {w : World} {H : Hp} {h h' : Heap} {x e : Addr} {o' : HO}
theorem HOk.write (ok : HOk P w H h) (mu : Mut (H x)) (he : e = x ∨ H e = some (.own x)) (k : ∀ b u, b ≠ e → h.get? b = some u → h'.get? b = some u) (heo : ∃ u, h'.get? e = some u)
    (new : ObjOk P w (upd H x o') h' x o') : HOk P w (upd H x o') h' := fun b u q => by
  have nown : ∀ c y, H c = some (.own y) → c ≠ x := fun c y r z => by subst z; rw [r] at mu; exact mu
  have ntup : ∀ c xs, H c = some (.tup xs) → c ≠ x := fun c xs r z => by subst z; rw [r] at mu; exact mu
  by_cases hb : b = x
  · subst hb; rw [upd_same] at q; cases q; exact new
  · rw [upd_ne hb] at q
    by_cases hbe : b = e
    · have q' : H b = some (.own x) := by
        rcases he with z | z
        · exact absurd (hbe.trans z) hb
        · rw [hbe]; exact z
      rw [q] at q'; cases q'
      obtain ⟨v, hv⟩ := heo
      exact ⟨v, by rw [hbe]; exact hv⟩
    · refine (ok b u q).stay (fun c v hc r => k c v ?_ r) (fun c r => by rw [upd_ne (nown c b r)]; exact r) fun c xs r => by rw [upd_ne (ntup c xs r)]; exact r
      rcases hc with rfl | hc
      · exact hbe
      · rintro rfl
        rcases he with z | z
        · exact nown c b hc z
        · rw [hc] at z; cases z; exact hb rfl
end
structure Un (fs ex : List Addr) (H H' : Hp) (h h' : Heap) : Prop where
  keep : ∀ b o, h.get? b = some o → H b = none → b ∉ fs → b ∉ ex → h'.get? b = some o
  slot : ∀ b o, h.get? b = some o → H b = none → b ∈ fs → b ∉ ex → ∃ sl, h'.get? b = some { o with slots := sl }
  free : ∀ b o, h.get? b = some o → H b = none → b ∉ ex → H' b = none
  there : ∀ b o, h.get? b = some o → b ∉ ex → ∃ o', h'.get? b = some o'
  tups : ∀ b xs, H b = some (.tup xs) → H' b = some (.tup xs)
  frzs : ∀ b o u, H b = some (.frz o u) → H' b = some (.frz o u)
  tbls : ∀ b ps, H b = some (.tbl ps) → ∃ more, H' b = some (.tbl (ps ++ more))
section
variable {fs fs' ex ex' : List Addr} {H H1 H2 : Hp} {h h1 h2 h' : Heap} {a x e : Addr} {o : HO}
theorem Un.any (u : Un fs ex H H1 h h1) {b : Addr} {ob : Obj} (q : h.get? b = some ob) (n : H b = none) (hx : b ∉ ex) : ∃ sl, h1.get? b = some { ob with slots := sl } := by
  by_cases hb : b ∈ fs
  · exact u.slot b ob q n hb hx
  · exact ⟨ob.slots, u.keep b ob q n hb hx⟩
theorem Un.trans (a : Un fs ex H H1 h h1) (b : Un fs ex H1 H2 h1 h2) : Un fs ex H H2 h h2 where
  keep := fun c ob q n hc hx => b.keep c ob (a.keep c ob q n hc hx) (a.free c ob q n hx) hc hx
  slot := fun c ob q n hc hx => by
    obtain ⟨sl, e1⟩ := a.slot c ob q n hc hx
    obtain ⟨sl', e2⟩ := b.slot c _ e1 (a.free c ob q n hx) hc hx
    exact ⟨sl', e2⟩
  free := fun c ob q n hx => by
    obtain ⟨o', e1⟩ := a.there c ob q hx
    exact b.free c o' e1 (a.free c ob q n hx) hx
  there := fun c ob q hx => by
    obtain ⟨o', e1⟩ := a.there c ob q hx
    exact b.there c o' e1 hx
  tups := fun c xs q => b.tups c xs (a.tups c xs q)
  frzs := fun c ob xs q => b.frzs c ob xs (a.frzs c ob xs q)
  tbls := fun c ps q => by
    obtain ⟨m1, e1⟩ := a.tbls c ps q
    obtain ⟨m2, e2⟩ := b.tbls c _ e1
    exact ⟨m1 ++ m2, by rw [e2, Array.append_assoc]⟩
theorem Un.kept (k : ∀ b u, h.get? b = some u → h'.get? b = some u) : Un fs ex H H h h' :=
  ⟨fun b ob q _ _ _ => k b ob q, fun b ob q _ _ _ => ⟨ob.slots, k b ob q⟩, fun _ _ _ n _ => n, fun b ob q _ => ⟨ob, k b ob q⟩, fun _ _ q => q, fun _ _ _ q => q, fun _ ps q => ⟨#[], by rw [q]; simp⟩⟩
theorem Un.refl : Un fs ex H H h h := Un.kept fun _ _ q => q
theorem Un.laid (k : ∀ b u, h.get? b = some u → h'.get? b = some u) (hp : h.objs.size ≤ a) (hn : H a = none) : Un fs ex H (upd H a o) h h' where
  keep := fun b u q _ _ _ => k b u q
  slot := fun b u q _ _ _ => ⟨u.slots, k b u q⟩
  free := fun b u q n _ => by rw [upd_ne (Nat.ne_of_lt (Nat.lt_of_lt_of_le (Heap.lt_size q) hp))]; exact n
  there := fun b u q _ => ⟨u, k b u q⟩
  tups := fun b xs q => by rw [upd_ne (ne_of_none q hn)]; exact q
  frzs := fun b u xs q => by rw [upd_ne (ne_of_none q hn)]; exact q
  tbls := fun b ps q => ⟨#[], by rw [upd_ne (ne_of_none q hn), q]; simp⟩
theorem Un.write (mu : Mut (H x)) (he : e = x ∨ H e = some (.own x)) (k : ∀ b u, b ≠ e → h.get? b = some u → h'.get? b = some u) (heo : ∃ u, h'.get? e = some u) : Un fs ex H (upd H x o) h h' := by
  have hx : ∀ b, H b = none → b ≠ x := fun b n z => by subst z; rw [n] at mu; exact mu
  have hb : ∀ b, H b = none → b ≠ e := fun b n z => by
    subst z
    rcases he with r | r
    · exact hx b n r
    · rw [n] at r; cases r
  have hm : ∀ b u, H b = some u → ¬ Mut (some u) → b ≠ x := fun b u q nm z => by subst z; rw [q] at mu; exact nm mu
  refine ⟨fun b u q n _ _ => k b u (hb b n) q, fun b u q n _ _ => ⟨u.slots, k b u (hb b n) q⟩, fun b u q n _ => by rw [upd_ne (hx b n)]; exact n, fun b u q _ => ?_,
    fun b xs q => by rw [upd_ne (hm b _ q fun z => z)]; exact q, fun b u xs q => by rw [upd_ne (hm b _ q fun z => z)]; exact q, fun b ps q => ⟨#[], by rw [upd_ne (hm b _ q fun z => z), q]; simp⟩⟩
  by_cases hbe : b = e
  · subst hbe; exact heo
  · exact ⟨u, k b u hbe q⟩
theorem Un.mono (u : Un fs ex H H1 h h1) (hs : ∀ b ∈ fs, b ∈ fs') (hx : ∀ b ∈ ex, b ∈ ex') : Un fs' ex' H H1 h h1 :=
  ⟨fun b ob q n hb he => u.keep b ob q n (fun z => hb (hs b z)) fun z => he (hx b z), fun _ _ q n _ he => u.any q n fun z => he (hx _ z), fun b ob q n he => u.free b ob q n fun z => he (hx b z), fun b ob q he => u.there b ob q fun z => he (hx b z), u.tups, u.frzs, u.tbls⟩
end
def trk (h : Heap) (H : Hp) : List Addr := (List.range h.objs.size).filter fun a => (H a).isSome
def hidT (h : Heap) (H : Hp) : Heap := PySem.W.hideAll h (trk h H)
theorem hidT_size (h : Heap) (H : Hp) : (hidT h H).objs.size = h.objs.size := PySem.W.hideAll_size _ _
theorem hidT_get {h : Heap} {H : Hp} {b : Addr} {o : Obj} (e : h.get? b = some o) (n : H b = none) : (hidT h H).get? b = some o :=
  PySem.W.hideAll_get _ e fun hm => by
    have q : (H b).isSome = true := (List.mem_filter.mp hm).2
    rw [n] at q; simp at q
theorem of_hidT {h : Heap} {H : Hp} {b : Addr} {o : Obj} (e : (hidT h H).get? b = some o) : h.get? b = some o ∧ H b = none := by
  have e' : h.get? b = some o := PySem.W.of_hideAll (trk h H) e
  refine ⟨e', ?_⟩
  cases q : H b with
  | none => rfl
  | some x =>
    have hm : b ∈ trk h H := List.mem_filter.mpr ⟨List.mem_range.mpr (Heap.lt_size e'), by simp [q]⟩
    have z : (hidT h H).get? b = none := PySem.W.hideAll_none (trk h H) hm
    rw [z] at e; cases e
def allNews (g h : Heap) (L : Addr) : List (Addr × Obj) := (List.range h.objs.size).filterMap fun a => if a = L ∨ (g.get? a).isSome = true then none else (h.get? a).map fun o => (a, o)
def rest (g h : Heap) (L d : Addr) : List (Addr × Obj) := (allNews g h L).filter fun p => decide (p.1 ≠ d)
end L2
namespace L2
open PySem PySem.Spec PyProof.Rows
structure Mod (K : PySem.W.Frag) (mg : Str → Option Value) (base : Heap) : Prop where
  kin : K.In base
  glob : base.Ns mainGlobals mg
  blt : ∃ mb, base.Ns builtinsNs mb ∧ ∀ x : Str, x ≠ "__name__" → mb x = bootBuiltins x
  nolimit : base.NoLimit
structure Cx where
  prog : Program
  w : World
  K : PySem.W.Frag
  mg : Str → Option Value
  base : Heap
  A : Around
  N : List Str
  s₀ : Shared
  H₀ : Hp
  env : Env
  outer : List Env
  stack : List Env
  ex : List Addr
  fn : Str → Bool
  calm : Bool
  pn : List (Addr × Obj)
  xe : Value → Shared → Prop
def frs (l : List Env) : List Addr := l.filterMap (·.frame)
abbrev Cx.fs (X : Cx) : List Addr := frs X.outer
def Vis (sc : Scope) (x : Str) : Prop := sc.names.lookup x = some .local ∨ sc.names.lookup x = some .cell ∨ sc.names.lookup x = some .free
def Loc (sc : Scope) (x : Str) : Prop := sc.names.lookup x = some .local ∨ sc.names.lookup x = some .cell
def Look (env : Env) (h : Heap) (m : Str → Option Value) (x : Str) (u : Value) : Prop :=
  (env.kindOf x = some .local ∧ m x = some u) ∨ ((env.kindOf x = some .cell ∨ env.kindOf x = some .free) ∧ ∃ c, env.cells.lookup x = some c ∧ h.IsCell c (some u))
structure Cx.Ok (X : Cx) : Prop where
  mod : Mod X.K X.mg X.base
  kind : X.env.scope.kind = .function
  glob : X.env.globals = mainGlobals
  blt : X.env.builtins = builtinsNs
  above : X.s₀.heap.objs.size ≤ X.env.locals
  inj : ∀ x y c, X.env.cells.lookup x = some c → X.env.cells.lookup y = some c → x = y
  has : ∀ x, (X.env.kindOf x = some .cell ∨ X.env.kindOf x = some .free) → ∃ c, X.env.cells.lookup x = some c
  cab : ∀ x c, X.fn x = true → X.env.cells.lookup x = some c → X.s₀.heap.objs.size ≤ c
  hd : X.calm = true → X.A.handled = none
  frames : X.A.frames = some X.stack
  stk : X.stack = X.outer ∨ (X.stack = X.env :: X.outer ∧ X.env.frame = some X.env.locals)
  exf : ∀ b ∈ X.ex, b ≠ X.env.locals ∧ ∀ x c, X.env.cells.lookup x = some c → c ≠ b
  bs : ∀ b o, X.base.get? b = some o → X.s₀.heap.get? b = some o ∧ X.H₀ b = none
  bsz : X.base.objs.size ≤ X.s₀.heap.objs.size
  noex : ∀ b o, X.base.get? b = some o → b ∉ X.ex
  exfs : ∀ b ∈ X.ex, b ∉ X.fs
  funs : X.s₀.heap.FunFrames X.base X.outer
  frf : ∀ b ∈ X.fs, X.H₀ b = none
structure Inv (X : Cx) (pins : List (Addr × Obj)) (σ : List (Option V)) (H : Hp) (s : Shared) : Prop where
  ok : X.Ok
  os : s.os = X.s₀.os
  bare : AllBare s.gens
  base : Un X.fs X.ex X.H₀ H X.s₀.heap s.heap
  loc : ∃ m, s.heap.Ns X.env.locals m ∧ ∀ (i : Nat) (x : Str) (v : V), X.N[i]? = some x → σ[i]? = some (some v) → Vis X.env.scope x → ∃ u, RelV v u ∧ Look X.env s.heap m x u
  cell : ∀ x c, X.env.cells.lookup x = some c → ∃ v, s.heap.IsCell c v
  free : H X.env.locals = none
  freeC : ∀ x c, X.env.cells.lookup x = some c → H c = none
  pin : ∀ p ∈ X.pn ++ pins, s.heap.get? p.1 = some p.2 ∧ H p.1 = none ∧ p.1 ≠ X.env.locals ∧ p.1 ∉ X.fs ∧ ∀ v, p.2.data ≠ .cell v
  hok : HOk X.prog X.w H s.heap
  len : σ.length = X.N.length
section
variable {X : Cx} {pins : List (Addr × Obj)} {σ : List (Option V)} {H H' : Hp} {s : Shared} {h' : Heap}
theorem Cx.Ok.nofr (ok : X.Ok) {b : Addr} {o : Obj} (e : X.base.get? b = some o) : b ∉ X.fs := fun hb => by
  have := (ok.funs.mem hb).1
  rw [e] at this; cases this
theorem Inv.bs (I : Inv X pins σ H s) : ∀ b o, X.base.get? b = some o → s.heap.get? b = some o ∧ H b = none := fun b o e =>
  ⟨I.base.keep b o (I.ok.bs b o e).1 (I.ok.bs b o e).2 (I.ok.nofr e) (I.ok.noex b o e), I.base.free b o (I.ok.bs b o e).1 (I.ok.bs b o e).2 (I.ok.noex b o e)⟩
theorem Inv.bk (I : Inv X pins σ H s) : ∀ b o, X.base.get? b = some o → s.heap.get? b = some o := fun b o e => (I.bs b o e).1
theorem Inv.mod (I : Inv X pins σ H s) : Mod X.K X.mg X.base := I.ok.mod
theorem Inv.kIn (I : Inv X pins σ H s) : X.K.In s.heap := I.ok.mod.kin.keeps I.bk
theorem Inv.nolimit (I : Inv X pins σ H s) : s.heap.NoLimit := I.ok.mod.nolimit.keeps I.bk
theorem Inv.lt (I : Inv X pins σ H s) : X.env.locals < s.heap.objs.size := let ⟨_, hn, _⟩ := I.loc; hn.lt
theorem Inv.sz (I : Inv X pins σ H s) : X.s₀.heap.objs.size ≤ s.heap.objs.size := Nat.le_trans I.ok.above (Nat.le_of_lt I.lt)
theorem Inv.nofs (I : Inv X pins σ H s) {a : Addr} (h : s.heap.objs.size ≤ a) : a ∉ X.fs := fun hb => by
  obtain ⟨_, o, ho, _⟩ := I.ok.funs.mem hb
  exact absurd (Nat.lt_of_lt_of_le (Heap.lt_size ho) (Nat.le_trans I.sz h)) (Nat.lt_irrefl _)
theorem Inv.cne (I : Inv X pins σ H s) : ∀ x c, X.env.cells.lookup x = some c → c ≠ X.env.locals := fun x c e z => by
  obtain ⟨v, o, ho, hd⟩ := I.cell x c e
  obtain ⟨m, ⟨o', es, ep, ho', hd', _⟩, _⟩ := I.loc
  rw [z, ho'] at ho; cases ho; rw [hd'] at hd; cases hd
theorem Inv.funs (I : Inv X pins σ H s) : s.heap.FunFrames X.base X.outer := by
  have all : ∀ (l : List Env), (∀ b ∈ frs l, b ∈ X.fs) → X.s₀.heap.FunFrames X.base l → s.heap.FunFrames X.base l := by
    intro l
    induction l with
    | nil => intro _ _; trivial
    | cons env r ih =>
      intro hs hl
      obtain ⟨hk, ⟨L, o, hf, hn, ho, hd⟩, hr⟩ := hl
      have hL : L ∈ X.fs := hs L (by unfold frs; rw [List.filterMap_cons, hf]; exact List.mem_cons_self)
      obtain ⟨sl, e⟩ := I.base.slot L o ho (I.ok.frf L hL) hL fun z => I.ok.exfs L z hL
      exact ⟨hk, ⟨L, _, hf, hn, e, hd⟩, ih (fun b hb => hs b (by unfold frs; rw [List.filterMap_cons, hf]; exact List.mem_cons_of_mem _ hb)) hr⟩
  exact all X.outer (fun _ hb => hb) I.ok.funs
theorem Inv.stack (I : Inv X pins σ H s) : s.heap.FunFrames X.base X.stack := by
  rcases I.ok.stk with e | ⟨e, hf⟩
  · rw [e]; exact I.funs
  · rw [e]
    obtain ⟨m, hn, _⟩ := I.loc
    refine .cons (by rw [I.ok.kind]; decide) hf hn ?_ I.funs
    exact Heap.get?_none_of_le (Nat.le_trans I.ok.bsz I.ok.above)
theorem Inv.stkSub (I : Inv X pins σ H s) : ∀ b ∈ frs X.stack, b ∈ X.env.locals :: X.fs := fun b hb => by
  rcases I.ok.stk with e | ⟨e, hf⟩
  · rw [e] at hb; exact List.mem_cons_of_mem _ hb
  · rw [e] at hb
    unfold frs at hb
    rw [List.filterMap_cons, hf] at hb
    exact hb
theorem Inv.stkFree (I : Inv X pins σ H s) : ∀ b ∈ frs X.stack, H b = none := fun b hb => by
  rcases List.mem_cons.mp (I.stkSub b hb) with e | hb
  · rw [e]; exact I.free
  · obtain ⟨_, o, ho, _⟩ := I.ok.funs.mem hb
    exact I.base.free b o ho (I.ok.frf b hb) fun z => I.ok.exfs b z hb
theorem Inv.step {g' : Array GenState} {t' : Nat} {d' : Drawn} {ch : List Addr} (I : Inv X pins σ H s)
    (hch : ∀ b ∈ ch, (b ∈ X.ex ∨ X.s₀.heap.objs.size ≤ b) ∧ b ≠ X.env.locals ∧ (∀ x c, X.env.cells.lookup x = some c → c ≠ b) ∧ ∀ p ∈ X.pn ++ pins, p.1 ≠ b)
    (keep : ∀ b o, b ≠ X.env.locals → b ∉ X.fs → b ∉ ch → s.heap.get? b = some o → H b = none → h'.get? b = some o)
    (slot : ∀ b o, b ≠ X.env.locals → b ∈ X.fs → b ∉ ch → s.heap.get? b = some o → H b = none → ∃ sl, h'.get? b = some { o with slots := sl }) (free : ∀ b o, b ∉ ch → s.heap.get? b = some o → H b = none → H' b = none)
    (there : ∀ b o, b ∉ ch → s.heap.get? b = some o → ∃ o', h'.get? b = some o')
    (tups : ∀ b xs, H b = some (.tup xs) → H' b = some (.tup xs)) (frzs : ∀ b o u, H b = some (.frz o u) → H' b = some (.frz o u)) (tbls : ∀ b ps, H b = some (.tbl ps) → ∃ more, H' b = some (.tbl (ps ++ more)))
    (ns : ∀ m, s.heap.Ns X.env.locals m → h'.Ns X.env.locals m) (hok : HOk X.prog X.w H' h') (hg : AllBare g') :
    Inv X pins σ H' { s with heap := h', gens := g', drawn := d', toks := t' } := by
  have neL : ∀ b o, X.s₀.heap.get? b = some o → b ≠ X.env.locals := fun b o e => Nat.ne_of_lt (Nat.lt_of_lt_of_le (Heap.lt_size e) I.ok.above)
  have neC : ∀ b o, X.s₀.heap.get? b = some o → b ∉ X.ex → b ∉ ch := fun b o e hx hb => by
    rcases (hch b hb).1 with z | z
    · exact hx z
    · exact absurd (Nat.lt_of_lt_of_le (Heap.lt_size e) z) (Nat.lt_irrefl _)
  have cellK : ∀ x c, X.env.cells.lookup x = some c → ∀ v, s.heap.IsCell c v → h'.IsCell c v := fun x c e v ⟨o, ho, hd⟩ => by
    have nch : c ∉ ch := fun z => (hch c z).2.2.1 x c e rfl
    by_cases hc : c ∈ X.fs
    · obtain ⟨sl, q⟩ := slot c o (I.cne x c e) hc nch ho (I.freeC x c e)
      exact ⟨_, q, hd⟩
    · exact ⟨o, keep c o (I.cne x c e) hc nch ho (I.freeC x c e), hd⟩
  refine ⟨I.ok, I.os, hg, ⟨fun b o e n hb hx => ?_, fun b o e n hb hx => ?_, fun b o e n hx => ?_, fun b o e hx => ?_, fun b xs e => tups b xs (I.base.tups b xs e), fun b o xs e => frzs b o xs (I.base.frzs b o xs e), fun b ps e => ?_⟩, ?_, fun x c e => ?_, ?_, fun x c e => ?_, fun p hp => ?_, hok, I.len⟩
  · exact keep b o (neL b o e) hb (neC b o e hx) (I.base.keep b o e n hb hx) (I.base.free b o e n hx)
  · obtain ⟨sl, e1⟩ := I.base.slot b o e n hb hx
    obtain ⟨sl', e2⟩ := slot b _ (neL b o e) hb (neC b o e hx) e1 (I.base.free b o e n hx)
    exact ⟨sl', e2⟩
  · obtain ⟨o', e1⟩ := I.base.there b o e hx
    exact free b o' (neC b o e hx) e1 (I.base.free b o e n hx)
  · obtain ⟨o', e1⟩ := I.base.there b o e hx
    exact there b o' (neC b o e hx) e1
  · obtain ⟨m1, e1⟩ := I.base.tbls b ps e
    obtain ⟨m2, e2⟩ := tbls b _ e1
    exact ⟨m1 ++ m2, by rw [e2, Array.append_assoc]⟩
  · obtain ⟨m, hn, hl⟩ := I.loc
    refine ⟨m, ns m hn, fun i x v e1 e2 e3 => ?_⟩
    obtain ⟨u, r, l⟩ := hl i x v e1 e2 e3
    refine ⟨u, r, ?_⟩
    rcases l with l | ⟨k, c, e, z⟩
    · exact .inl l
    · exact .inr ⟨k, c, e, cellK x c e _ z⟩
  · obtain ⟨v, z⟩ := I.cell x c e
    exact ⟨v, cellK x c e v z⟩
  · obtain ⟨m, ⟨o, _, _, ho, _⟩, _⟩ := I.loc
    exact free _ o (fun z => (hch _ z).2.1 rfl) ho I.free
  · obtain ⟨v, o, ho, hd⟩ := I.cell x c e
    exact free c o (fun z => (hch c z).2.2.1 x c e rfl) ho (I.freeC x c e)
  · obtain ⟨e, n, ne, nf, d⟩ := I.pin p hp
    have nch : p.1 ∉ ch := fun z => (hch p.1 z).2.2.2 p hp rfl
    exact ⟨keep p.1 p.2 ne nf nch e n, free p.1 p.2 nch e n, ne, nf, d⟩
theorem Inv.un {t' : Nat} (I : Inv X pins σ H s) (u : Un X.fs [] H H' s.heap h') (hok : HOk X.prog X.w H' h') : Inv X pins σ H' { s with heap := h', toks := t' } := by
  obtain ⟨m, ⟨o, es, ep, ho, r⟩, _⟩ := id I.loc
  obtain ⟨sl, hL⟩ := u.any ho I.free (by simp)
  exact I.step (g' := s.gens) (d' := s.drawn) (ch := []) (fun _ z => nomatch z) (fun b o _ hb _ e n => u.keep b o e n hb (by simp)) (fun b o _ hb _ e n => u.slot b o e n hb (by simp)) (fun b o _ e n => u.free b o e n (by simp)) (fun b o _ e => u.there b o e (by simp)) u.tups u.frzs u.tbls (fun m' hm => by
    obtain ⟨o', es', ep', ho', r'⟩ := hm
    rw [ho] at ho'; cases ho'
    exact ⟨_, es', ep', hL, r'⟩) hok I.bare
theorem Inv.call {g' : Array GenState} {t' : Nat} {d' : Drawn} {ch : List Addr} (I : Inv X pins σ H s) (u : Un (frs X.stack) ch H H' s.heap h') (hok : HOk X.prog X.w H' h') (hg : AllBare g')
    (hch : ∀ b ∈ ch, (b ∈ X.ex ∨ X.s₀.heap.objs.size ≤ b) ∧ b ≠ X.env.locals ∧ (∀ x c, X.env.cells.lookup x = some c → c ≠ b) ∧ ∀ p ∈ X.pn ++ pins, p.1 ≠ b) :
    Inv X pins σ H' { s with heap := h', gens := g', drawn := d', toks := t' } := by
  obtain ⟨m, ⟨o, es, ep, ho, r⟩, _⟩ := id I.loc
  obtain ⟨sl, hL⟩ := u.any ho I.free fun z => (hch _ z).2.1 rfl
  exact I.step (ch := ch) hch (fun b o hL hb hc e n => u.keep b o e n (fun z => (List.mem_cons.mp (I.stkSub b z)).elim hL hb) hc) (fun b o _ _ hc e n => u.any e n hc) (fun b o hc e n => u.free b o e n hc) (fun b o hc e => u.there b o e hc) u.tups u.frzs u.tbls (fun m' hm => by
    obtain ⟨o', es', ep', ho', r'⟩ := hm
    rw [ho] at ho'; cases ho'
    exact ⟨_, es', ep', hL, r'⟩) hok hg
theorem Inv.turned {t' : Nat} {it : Addr} (I : Inv X pins σ H s) (k : ∀ b o, b ≠ it → s.heap.get? b = some o → h'.get? b = some o) (hn : H it = none) (hL : it ≠ X.env.locals)
    (h1 : it ∈ X.ex ∨ X.s₀.heap.objs.size ≤ it) (h2 : ∀ x c, X.env.cells.lookup x = some c → c ≠ it) (h3 : ∀ p ∈ X.pn ++ pins, p.1 ≠ it) : Inv X pins σ H { s with heap := h', toks := t' } := by
  have nit : ∀ b u, H b = some u → b ≠ it := fun b u e z => by rw [z, hn] at e; cases e
  refine I.step (g' := s.gens) (d' := s.drawn) (ch := [it]) (fun b hb => ?_) (fun b o _ _ hc e _ => k b o (fun z => hc (by simp [z])) e) (fun b o _ _ hc e _ => ⟨o.slots, k b o (fun z => hc (by simp [z])) e⟩) (fun _ _ _ _ n => n)
    (fun b o hc e => ⟨o, k b o (fun z => hc (by simp [z])) e⟩) (fun _ _ e => e) (fun _ _ _ e => e) (fun b ps e => ⟨#[], by rw [e]; simp⟩) (fun m hm => ?_) (fun b u e => ?_) I.bare
  · have e : b = it := by simpa using hb
    subst e
    exact ⟨h1, hL, h2, h3⟩
  · obtain ⟨o, es, ep, ho, r⟩ := hm
    exact ⟨o, es, ep, k _ o (Ne.symm hL) ho, r⟩
  · refine (I.hok b u e).stay (fun c v hc q => k c v ?_ q) (fun _ q => q) fun _ _ q => q
    rcases hc with z | z
    · rw [z]; exact nit b u e
    · exact nit c _ z
theorem Inv.tok (I : Inv X pins σ H s) (t : Nat) : Inv X pins σ H { s with toks := t } := I.un (h' := s.heap) (t' := t) Un.refl I.hok
theorem Inv.kept {t' : Nat} (I : Inv X pins σ H s) (k : ∀ b u, s.heap.get? b = some u → h'.get? b = some u) : Inv X pins σ H { s with heap := h', toks := t' } := I.un (Un.kept k) (I.hok.kept k)
theorem Inv.laid {a : Addr} {o : HO} {t' : Nat} (I : Inv X pins σ H s) (k : ∀ b u, s.heap.get? b = some u → h'.get? b = some u) (hp : s.heap.objs.size ≤ a) (new : ObjOk X.prog X.w (upd H a o) h' a o) :
    Inv X pins σ (upd H a o) { s with heap := h', toks := t' } := I.un (Un.laid k hp (I.hok.fresh hp)) (I.hok.laid k hp new)
theorem Inv.write {x e : Addr} {o : HO} {t' : Nat} (I : Inv X pins σ H s) (mu : Mut (H x)) (he : e = x ∨ H e = some (.own x)) (k : ∀ b u, b ≠ e → s.heap.get? b = some u → h'.get? b = some u) (heo : ∃ u, h'.get? e = some u)
    (new : ObjOk X.prog X.w (upd H x o) h' x o) : Inv X pins σ (upd H x o) { s with heap := h', toks := t' } := I.un (Un.write mu he k heo) (I.hok.write mu he k heo new)
theorem Inv.pins_of {pins' : List (Addr × Obj)} (I : Inv X pins σ H s) (h : ∀ p ∈ pins', s.heap.get? p.1 = some p.2 ∧ H p.1 = none ∧ p.1 ≠ X.env.locals ∧ p.1 ∉ X.fs ∧ ∀ v, p.2.data ≠ .cell v) : Inv X pins' σ H s :=
  ⟨I.ok, I.os, I.bare, I.base, I.loc, I.cell, I.free, I.freeC, fun p hp => (List.mem_append.mp hp).elim (fun z => I.pin p (List.mem_append_left _ z)) (h p), I.hok, I.len⟩
theorem nodup_ix {N : List Str} (hN : N.Nodup) {i j : Nat} {x : Str} (a : N[i]? = some x) (b : N[j]? = some x) : i = j := by
  obtain ⟨h1, e1⟩ := List.getElem?_eq_some_iff.mp a
  obtain ⟨h2, e2⟩ := List.getElem?_eq_some_iff.mp b
  exact (List.getElem_inj hN).mp (e1.trans e2.symm)
theorem store_ok2 {M : Model} {A : Around} {E : Value → Shared → Prop} {i : Nat} {x : Str} {v : V} {u : Value} {Q : Unit → Shared → Prop} (I : Inv X pins σ H s) (hN : X.N.Nodup) (hi : X.N[i]? = some x) (hx : Loc X.env.scope x) (r : RelV v u)
    (h : ∀ s', Inv X pins (σ.set i (some v)) H s' → (∃ a, Heap.SameBut a s.heap s'.heap ∧ (a = X.env.locals ∨ X.env.cells.lookup x = some a)) → Q () s') (hf : X.fn x = true ∨ X.env.scope.names.lookup x = some .local := by first | exact .inl rfl | exact .inr rfl | assumption) : wpAny M A (storeName X.env x u) Q E s := by
  obtain ⟨m, hn, hl⟩ := id I.loc
  have hcls : (X.env.scope.kind == .class || (X.env.scope.kind == .module && X.env.locals != X.env.globals)) = false := by rw [I.ok.kind]; rfl
  have hiσ : i < σ.length := by rw [I.len]; exact (List.getElem?_eq_some_iff.mp hi).1
  have cne := I.cne
  have tracked : ∀ {a : Addr} {h' : Heap}, (∃ o, s.heap.get? a = some o ∧ H a = none) → Heap.SameBut a s.heap h' → HOk X.prog X.w H h' := fun {a h'} ha hs b ob e => by
    obtain ⟨_, _, hfree⟩ := ha
    refine (I.hok b ob e).stay (fun c w' hc q => (hs.2 c ?_).trans q) (fun _ q => q) fun _ _ q => q
    rintro rfl
    rcases hc with rfl | hc
    · rw [hfree] at e; cases e
    · rw [hfree] at hc; cases hc
  rcases hx with hk | hk
  · refine wpAny_storeName_local hk hn (fun h' hn' hs => ?_) hcls
    obtain ⟨oL, _, _, hoL, _⟩ := id hn
    refine h _ ⟨I.ok, I.os, I.bare, ⟨fun b o e n hb hx => ?_, fun b o e n hb hx => ?_, I.base.free, fun b o e hx => ?_, I.base.tups, I.base.frzs, I.base.tbls⟩, ⟨_, hn', fun j y v' e1 e2 e3 => ?_⟩, fun y c e => ?_, I.free, I.freeC, fun p hp => ?_, tracked ⟨oL, hoL, I.free⟩ hs, by simpa using I.len⟩ ⟨_, hs, .inl rfl⟩
    · exact (hs.2 b (Nat.ne_of_lt (Nat.lt_of_lt_of_le (Heap.lt_size e) I.ok.above))).trans (I.base.keep b o e n hb hx)
    · obtain ⟨sl, e1⟩ := I.base.slot b o e n hb hx
      exact ⟨sl, (hs.2 b (Nat.ne_of_lt (Nat.lt_of_lt_of_le (Heap.lt_size e) I.ok.above))).trans e1⟩
    · obtain ⟨o', e1⟩ := I.base.there b o e hx
      exact ⟨o', (hs.2 b (Nat.ne_of_lt (Nat.lt_of_lt_of_le (Heap.lt_size e) I.ok.above))).trans e1⟩
    · by_cases hj : j = i
      · subst hj
        rw [hi] at e1; cases e1
        rw [List.getElem?_set_self hiσ] at e2
        cases e2
        exact ⟨u, r, .inl ⟨hk, by simp⟩⟩
      · rw [List.getElem?_set_ne (Ne.symm hj)] at e2
        obtain ⟨u', r', q⟩ := hl j y v' e1 e2 e3
        refine ⟨u', r', ?_⟩
        rcases q with ⟨k, e⟩ | ⟨k, c, e, z⟩
        · refine .inl ⟨k, ?_⟩
          have : y ≠ x := fun e => hj (nodup_ix hN e1 (e ▸ hi))
          simp [this, e]
        · exact .inr ⟨k, c, e, z.sameBut hs (cne y c e)⟩
    · obtain ⟨w', z⟩ := I.cell y c e
      exact ⟨w', z.sameBut hs (cne y c e)⟩
    · obtain ⟨e, n, ne, nf, d⟩ := I.pin p hp
      exact ⟨(hs.2 p.1 ne).trans e, n, ne, nf, d⟩
  · have hfn : X.fn x = true := by
      rcases hf with z | z
      · exact z
      · rw [z] at hk; cases hk
    obtain ⟨c, hc⟩ := I.ok.has x (.inl hk)
    obtain ⟨w', z⟩ := I.cell x c hc
    refine wpAny_storeName_cell I.ok.kind hk hc z (fun h' hc' hs => ?_)
    obtain ⟨oc, hoc, hocd⟩ := id z
    refine h { s with heap := h' } ⟨I.ok, I.os, I.bare, ⟨fun b o e n hb hx => ?_, fun b o e n hb hx => ?_, I.base.free, fun b o e hx => ?_, I.base.tups, I.base.frzs, I.base.tbls⟩, ⟨m, hn.sameBut hs (Ne.symm (cne x c hc)), fun j y v' e1 e2 e3 => ?_⟩, fun y c' e => ?_, I.free, I.freeC, fun p hp => ?_, tracked ⟨oc, hoc, I.freeC x c hc⟩ hs, by simpa using I.len⟩ ⟨c, hs, .inr hc⟩
    · exact (hs.2 b (Nat.ne_of_lt (Nat.lt_of_lt_of_le (Heap.lt_size e) (I.ok.cab x c hfn hc)))).trans (I.base.keep b o e n hb hx)
    · obtain ⟨sl, e1⟩ := I.base.slot b o e n hb hx
      exact ⟨sl, (hs.2 b (Nat.ne_of_lt (Nat.lt_of_lt_of_le (Heap.lt_size e) (I.ok.cab x c hfn hc)))).trans e1⟩
    · obtain ⟨o', e1⟩ := I.base.there b o e hx
      exact ⟨o', (hs.2 b (Nat.ne_of_lt (Nat.lt_of_lt_of_le (Heap.lt_size e) (I.ok.cab x c hfn hc)))).trans e1⟩
    · by_cases hj : j = i
      · subst hj
        rw [hi] at e1; cases e1
        rw [List.getElem?_set_self hiσ] at e2
        cases e2
        exact ⟨u, r, .inr ⟨.inl hk, c, hc, hc'⟩⟩
      · rw [List.getElem?_set_ne (Ne.symm hj)] at e2
        obtain ⟨u', r', q⟩ := hl j y v' e1 e2 e3
        refine ⟨u', r', ?_⟩
        rcases q with q | ⟨k, c', e, z'⟩
        · exact .inl q
        · refine .inr ⟨k, c', e, z'.sameBut hs ?_⟩
          rintro rfl
          exact hj (nodup_ix hN e1 (I.ok.inj _ _ _ e hc ▸ hi))
    · by_cases hcc : c' = c
      · subst hcc; exact ⟨_, hc'⟩
      · obtain ⟨w2, z2⟩ := I.cell y c' e
        exact ⟨w2, z2.sameBut hs hcc⟩
    · obtain ⟨e, n, ne, nf, d⟩ := I.pin p hp
      refine ⟨(hs.2 p.1 ?_).trans e, n, ne, nf, d⟩
      intro q
      rw [q, hoc] at e
      have q' : oc = p.2 := Option.some.inj e
      exact d w' (by rw [← q']; exact hocd)
theorem store_ok {M : Model} {A : Around} {E : Value → Shared → Prop} {i : Nat} {x : Str} {v : V} {u : Value} {Q : Unit → Shared → Prop} (I : Inv X pins σ H s) (hN : X.N.Nodup) (hi : X.N[i]? = some x) (hx : Loc X.env.scope x) (r : RelV v u)
    (h : ∀ s', Inv X pins (σ.set i (some v)) H s' → Q () s') (hf : X.fn x = true ∨ X.env.scope.names.lookup x = some .local := by first | exact .inl rfl | exact .inr rfl | assumption) : wpAny M A (storeName X.env x u) Q E s :=
  store_ok2 I hN hi hx r (fun s' I' _ => h s' I') hf
theorem Inv.call' {s' : Shared} {ch : List Addr} (I : Inv X pins σ H s) (ho : s'.os = s.os) (u : Un (frs X.stack) ch H H' s.heap s'.heap) (hok : HOk X.prog X.w H' s'.heap) (hg : AllBare s'.gens)
    (hch : ∀ b ∈ ch, (b ∈ X.ex ∨ X.s₀.heap.objs.size ≤ b) ∧ b ≠ X.env.locals ∧ (∀ x c, X.env.cells.lookup x = some c → c ≠ b) ∧ ∀ p ∈ X.pn ++ pins, p.1 ≠ b) : Inv X pins σ H' s' := by
  obtain ⟨h', g', d', t', o'⟩ := s'
  have e : o' = s.os := ho
  subst e
  exact I.call (g' := g') (t' := t') (d' := d') u hok hg hch
end
abbrev XK := Value → Option Addr → Hp → Prop
abbrev St := List (Option V)
abbrev VK := V → Hp → Prop
abbrev TE := St → Hp → VK → Prop
abbrev TT := St → Hp → (Bool → Hp → Prop) → Prop
abbrev TA := St → Hp → (List V → Hp → Prop) → Prop
structure Ends where
  nx : St → Hp → Prop
  rt : VK
  bk : St → Hp → Prop := fun _ _ => False
  ct : St → Hp → Prop := fun _ _ => False
abbrev TS := Ends → St → Hp → Prop
def EP (X : Cx) (pins : List (Addr × Obj)) (σ : St) (Q : VK) (u : Value) (s' : Shared) : Prop := ∃ v H', Inv X pins σ H' s' ∧ RelV v u ∧ Q v H'
def TP (X : Cx) (pins : List (Addr × Obj)) (σ : St) (Q : Bool → Hp → Prop) (b : Bool) (s' : Shared) : Prop := ∃ H', Inv X pins σ H' s' ∧ Q b H'
def AP (X : Cx) (pins : List (Addr × Obj)) (σ : St) (Q : List V → Hp → Prop) (us : List Value) (s' : Shared) : Prop := ∃ vs H', Inv X pins σ H' s' ∧ Vals vs us ∧ Q vs H'
def SP (X : Cx) (pins : List (Addr × Obj)) (D : Ends) (f : Flow) (s' : Shared) : Prop :=
  match f with
  | .next => ∃ σ' H', Inv X pins σ' H' s' ∧ D.nx σ' H'
  | .brk => ∃ σ' H', Inv X pins σ' H' s' ∧ D.bk σ' H'
  | .cont => ∃ σ' H', Inv X pins σ' H' s' ∧ D.ct σ' H'
  | .ret u => ∃ v σ' H', Inv X pins σ' H' s' ∧ RelV v u ∧ D.rt v H'
def PE (X : Cx) (e : Expr) (t : TE) : Prop :=
  ∀ (pins : List (Addr × Obj)) (s : Shared) (σ : St) (H : Hp) (Q : VK), Inv X pins σ H s → t σ H Q → wpAny (model X.prog X.w) X.A (eval e X.env) (EP X pins σ Q) X.xe s
def PT (X : Cx) (e : Expr) (t : TT) : Prop :=
  ∀ (pins : List (Addr × Obj)) (s : Shared) (σ : St) (H : Hp) (Q : Bool → Hp → Prop), Inv X pins σ H s → t σ H Q → wpAny (model X.prog X.w) X.A (isTrue e X.env (eval e X.env)) (TP X pins σ Q) X.xe s
def PW (X : Cx) (e : Expr) (t : TT) : Prop :=
  ∀ (whole : Sem Value) (pins : List (Addr × Obj)) (s : Shared) (σ : St) (H : Hp) (Q : Bool → Hp → Prop), Inv X pins σ H s → t σ H Q → wpAny (model X.prog X.w) X.A (isTrue e X.env whole) (TP X pins σ Q) X.xe s
theorem PW.pt {X : Cx} {e : Expr} {t : TT} (h : PW X e t) : PT X e t := h _
def PA (X : Cx) (es : List Expr) (t : TA) : Prop :=
  ∀ (pos : Pos) (pins : List (Addr × Obj)) (s : Shared) (σ : St) (H : Hp) (Q : List V → Hp → Prop), Inv X pins σ H s → t σ H Q → wpAny (model X.prog X.w) X.A (spliced (backTo pos (starEach es X.env))) (AP X pins σ Q) X.xe s
def PS (X : Cx) (st : Stmt) (t : TS) : Prop :=
  ∀ (pins : List (Addr × Obj)) (s : Shared) (σ : St) (H : Hp) (D : Ends), Inv X pins σ H s → t D σ H → wpAny (model X.prog X.w) X.A (exec st X.env) (SP X pins D) X.xe s
def PSs (X : Cx) (st : List Stmt) (t : TS) : Prop :=
  ∀ (pins : List (Addr × Obj)) (s : Shared) (σ : St) (H : Hp) (D : Ends), Inv X pins σ H s → t D σ H → wpAny (model X.prog X.w) X.A (execs st X.env) (SP X pins D) X.xe s
theorem thn {α : Type} {t : Sem α} {Q Q' : α → Shared → Prop} {M : Model} {A : Around} {E : Value → Shared → Prop} {s : Shared} (h : wpAny M A t Q E s) (hQ : ∀ a s, Q a s → Q' a s) : wpAny M A t Q' E s := wpAny_mono h hQ fun _ _ x => x
end L2
namespace L2
open PySem PySem.Spec PyProof.Rows
section
variable {X : Cx}
def tVar (i : Nat) : TE := fun σ H Q => ∃ v, σ[i]? = some (some v) ∧ Q v H
def tC (v : V) : TE := fun _ H Q => Q v H
theorem pe_var {i : Nat} {x : Str} {pos : Pos} (hN : X.N[i]? = some x) (hv : Vis X.env.scope x) (hd : (x == ("__debug__" : Str)) = false := by decide) (hcd : (x == ("__classdict__" : Str)) = false := by decide) : PE X (.Name x pos) (tVar i) := by
  intro pins s σ H Q I h
  obtain ⟨v, e, h⟩ := h
  obtain ⟨m, hn, hl⟩ := I.loc
  obtain ⟨u, r, l⟩ := hl i x v hN e hv
  have fin : EP X pins σ Q u s := ⟨v, H, I, r, h⟩
  rcases l with ⟨hk, hm⟩ | ⟨hk, c, hc, hcell⟩
  · exact wpAny_Name (wpAny_loadName_local I.ok.kind hk hn hm fin) hd
  · rcases hk with hk | hk
    · exact wpAny_Name (wpAny_loadName_cell I.ok.kind hk hc hcell fin) hd
    · exact wpAny_Name (wpAny_loadName_free I.ok.kind hk hc hcell fin hcd) hd
theorem pe_int {i j pos} : PE X (.Constant (.int i) j pos) (tC (.int i)) := fun _ _ _ H _ I h => wpAny_Constant_int ⟨.int i, H, I.tok _, ⟨_, rfl⟩, h⟩
theorem pe_bl {b j pos} : PE X (.Constant (.bool b) j pos) (tC (.bl b)) := fun _ _ _ H _ I h => Constant_bool ⟨.bl b, H, I, rfl, h⟩
theorem pe_str {x j pos} : PE X (.Constant (.str x) j pos) (tC (.str x)) := fun _ _ _ H _ I h => Calls.Constant_str ⟨.str x, H, I.tok _, ⟨_, rfl⟩, h⟩
def Gl (X : Cx) (x : Str) : Prop := X.env.kindOf x = some .globalImplicit
theorem ld_glob {E : Value → Shared → Prop} {pins : List (Addr × Obj)} {s : Shared} {σ : St} {H : Hp} {x : Str} {u : Value} {pos : Pos} {Q : Value → Shared → Prop} (I : Inv X pins σ H s) (hg : Gl X x) (hm : X.mg x = some u) (h : Q u s)
    (hd : (x == ("__debug__" : Str)) = false := by decide) : wpAny (model X.prog X.w) X.A (eval (.Name x pos) X.env) Q E s :=
  Calls.Name_function_global I.ok.kind hg (Calls.loadGlobal_global (by rw [I.ok.glob]; exact I.mod.glob.keeps I.bk) hm h) hd
theorem ld_blt {E : Value → Shared → Prop} {pins : List (Addr × Obj)} {s : Shared} {σ : St} {H : Hp} {x : Str} {u : Value} {pos : Pos} {Q : Value → Shared → Prop} (I : Inv X pins σ H s) (hg : Gl X x) (hm : X.mg x = none) (hv : bootBuiltins x = some u) (h : Q u s)
    (hn : x ≠ "__name__" := by decide) (hd : (x == ("__debug__" : Str)) = false := by decide) : wpAny (model X.prog X.w) X.A (eval (.Name x pos) X.env) Q E s := by
  obtain ⟨mb, h1, h2⟩ := I.mod.blt
  exact Calls.Name_function_global I.ok.kind hg (Calls.loadGlobal_builtin (by rw [I.ok.glob]; exact I.mod.glob.keeps I.bk) hm (by rw [I.ok.blt]; exact h1.keeps I.bk) ((h2 x hn).trans hv) h) hd
theorem pe_glob {x : Str} {v : V} {u : Value} {pos : Pos} (hg : Gl X x) (hm : X.mg x = some u) (r : RelV v u) (hd : (x == ("__debug__" : Str)) = false := by decide) : PE X (.Name x pos) (tC v) :=
  fun _ _ _ H _ I h => ld_glob I hg hm ⟨v, H, I, r, h⟩ hd
theorem pe_bltn {x : Str} {v : V} {u : Value} {pos : Pos} (hg : Gl X x) (hm : X.mg x = none) (hv : bootBuiltins x = some u) (r : RelV v u) (hn : x ≠ "__name__" := by decide) (hd : (x == ("__debug__" : Str)) = false := by decide) : PE X (.Name x pos) (tC v) :=
  fun _ _ _ H _ I h => ld_blt I hg hm hv ⟨v, H, I, r, h⟩ hn hd
variable {a b : Expr} {ta tb : TE} {pos : Pos}
variable {tA tB' : TT} {rest : List Expr}
def tOr (t u : TT) : TT := fun σ H Q => t σ H fun c H1 => if c = true then Q true H1 else u σ H1 Q
def tNot (t : TT) : TT := fun σ H Q => t σ H fun c H1 => Q (!c) H1
theorem pw_or1 (ha : PT X a tA) : PW X (.BoolOp .Or [a] pos) tA := by
  intro wh pins s σ H Q I h
  refine isTrue_or (thn (ha pins s σ H Q I h) fun c s1 e => ?_)
  cases c with
  | false => exact isTrue_or_nil e
  | true => exact e
theorem pw_or (ha : PT X a tA) (hb : PW X (.BoolOp .Or (b :: rest) pos) tB') : PW X (.BoolOp .Or (a :: b :: rest) pos) (tOr tA tB') := by
  intro wh pins s σ H Q I h
  refine isTrue_or (thn (ha pins s σ H _ I h) fun c s1 ⟨H1, I1, q1⟩ => ?_)
  cases c with
  | true => exact ⟨H1, I1, q1⟩
  | false => exact hb wh pins s1 σ H1 Q I1 q1
theorem pt_not (ha : PT X a tA) : PT X (.UnaryOp .Not a pos) (tNot tA) := by
  intro pins s σ H Q I h
  exact isTrue_not (ha pins s σ H (fun c H1 => Q (!c) H1) I h)
end
end L2
namespace L2
open PySem PySem.Spec PyProof.Rows
def SqL (K : PySem.W.Frag) (H : Hp) (a : Addr) (xs : List V) : Prop :=
  Rd H a (.lst xs) ∨
    ∃ (o : Obj) (its : Array Value) (n : Nat), K.lookup a = some o ∧ o.cls = .type "list" ∧ o.dict = none ∧ o.data = .seq its n ∧ its.size ≤ sizeLine ∧ Vals xs its.toList
def SqT (K : PySem.W.Frag) (H : Hp) (a : Addr) (xs : List V) : Prop :=
  Rd H a (.tup xs) ∨
    ∃ (o : Obj) (its : Array Value) (n : Nat), K.lookup a = some o ∧ o.cls = .type "tuple" ∧ o.data = .seq its n ∧ its.size ≤ sizeLine ∧ Vals xs its.toList
def absV : Value → Option V
  | .none => some .non
  | .bool b => some (.bl b)
  | .int i _ => some (.int i)
  | .str x _ => some (.str x)
  | .bytes b _ => some (.byt b)
  | .float b _ => some (.flt b)
  | .ref a => some (.ref a)
  | .type n => some (.ty n)
  | _ => none
theorem RelV.abs {x : V} {u : Value} (r : RelV x u) : absV u = some x := by
  cases x with
  | non => cases r; rfl
  | bl _ => cases r; rfl
  | int _ => obtain ⟨t, rfl⟩ := r; rfl
  | str _ => obtain ⟨t, rfl⟩ := r; rfl
  | byt _ => obtain ⟨t, rfl⟩ := r; rfl
  | flt _ => obtain ⟨t, rfl⟩ := r; rfl
  | ref _ => cases r; rfl
  | ty _ => cases r; rfl
theorem RelV.inj {x y : V} {u : Value} (r : RelV x u) (q : RelV y u) : x = y := Option.some.inj (r.abs.symm.trans q.abs)
theorem Vals.inj : ∀ {xs ys : List V} {us : List Value}, Vals xs us → Vals ys us → xs = ys
  | _, _, _, .nil, .nil => rfl
  | _, _, _, .cons r t, .cons r' t' => by rw [r.inj r', Vals.inj t t']
section
variable {X : Cx} {pins : List (Addr × Obj)} {σ : St} {H : Hp} {s : Shared} {a : Addr} {xs ys : List V}
theorem SqL.of {K : PySem.W.Frag} (h : H a = some (.lst xs)) : SqL K H a xs := .inl (.inl h)
theorem SqT.of {K : PySem.W.Frag} (h : H a = some (.tup xs)) : SqT K H a xs := .inl (.inl h)
theorem Inv.list (I : Inv X pins σ H s) (h : SqL X.K H a xs) : ∃ its : List Value, Vals xs its ∧ PlainL s.heap a its.toArray ∧ xs.length ≤ sizeLine := by
  rcases h with h | ⟨o, its, n, hk, hc, hd, hs, hz, r⟩
  · obtain ⟨z, its, n, r, e⟩ := h.ok I.hok
    exact ⟨its, r, ⟨_, n, e, rfl, rfl, rfl⟩, z⟩
  · refine ⟨its.toList, r, ⟨o, n, I.kIn a o hk, hc, hd, by simpa using hs⟩, ?_⟩
    have e := r.length
    simp only [Array.length_toList] at e
    omega
theorem Inv.tuple (I : Inv X pins σ H s) (h : SqT X.K H a xs) : ∃ its : List Value, Vals xs its ∧ IsTup s.heap a its.toArray ∧ xs.length ≤ sizeLine := by
  rcases h with h | ⟨o, its, n, hk, hc, hs, hz, r⟩
  · obtain ⟨z, its, r, p⟩ := h.ok I.hok
    exact ⟨its, r, p, z⟩
  · refine ⟨its.toList, r, ⟨o, I.kIn a o hk, hc, n, by simpa using hs⟩, ?_⟩
    have e := r.length
    simp only [Array.length_toList] at e
    omega
theorem Inv.list_inj (I : Inv X pins σ H s) (h : SqL X.K H a xs) (h' : SqL X.K H a ys) : xs = ys := by
  obtain ⟨its, r, ⟨o, n, e, _, _, d⟩, _⟩ := I.list h
  obtain ⟨its', r', ⟨o', n', e', _, _, d'⟩, _⟩ := I.list h'
  rw [e] at e'; cases e'
  rw [d] at d'
  injection d' with d1 _
  have : its = its' := by simpa using congrArg Array.toList d1
  subst this
  exact r.inj r'
end
abbrev Cx.wish (X : Cx) (E : Value → Shared → Prop) : Cx := { X with xe := E }
abbrev Cx.nox (X : Cx) : Cx := X.wish fun _ _ => False
theorem Cx.Ok.wish {X : Cx} (ok : X.Ok) (E : Value → Shared → Prop) : (X.wish E).Ok :=
  ⟨ok.mod, ok.kind, ok.glob, ok.blt, ok.above, ok.inj, ok.has, ok.cab, ok.hd, ok.frames, ok.stk, ok.exf, ok.bs, ok.bsz, ok.noex, ok.exfs, ok.funs, ok.frf⟩
theorem Cx.Ok.unwish {X : Cx} {E : Value → Shared → Prop} (ok : (X.wish E).Ok) : X.Ok :=
  ⟨ok.mod, ok.kind, ok.glob, ok.blt, ok.above, ok.inj, ok.has, ok.cab, ok.hd, ok.frames, ok.stk, ok.exf, ok.bs, ok.bsz, ok.noex, ok.exfs, ok.funs, ok.frf⟩
section
variable {X : Cx} {pins : List (Addr × Obj)} {σ : St} {H : Hp} {s : Shared} {E : Value → Shared → Prop}
theorem Inv.wish (I : Inv X pins σ H s) (E : Value → Shared → Prop) : Inv (X.wish E) pins σ H s := ⟨I.ok.wish E, I.os, I.bare, I.base, I.loc, I.cell, I.free, I.freeC, I.pin, I.hok, I.len⟩
theorem Inv.unwish (I : Inv (X.wish E) pins σ H s) : Inv X pins σ H s := ⟨I.ok.unwish, I.os, I.bare, I.base, I.loc, I.cell, I.free, I.freeC, I.pin, I.hok, I.len⟩
theorem SP.unwish {D : Ends} {f : Flow} {s' : Shared} (h : SP (X.wish E) pins D f s') : SP X pins D f s' := by
  cases f with
  | next => obtain ⟨σ', H', I, q⟩ := h; exact ⟨σ', H', I.unwish, q⟩
  | brk => obtain ⟨σ', H', I, q⟩ := h; exact ⟨σ', H', I.unwish, q⟩
  | cont => obtain ⟨σ', H', I, q⟩ := h; exact ⟨σ', H', I.unwish, q⟩
  | ret u => obtain ⟨v, σ', H', I, r, q⟩ := h; exact ⟨v, σ', H', I.unwish, r, q⟩
theorem PE.nox {e : Expr} {t : TE} (h : PE X.nox e t) : PE X e t := fun pins s σ H Q I hw =>
  wpAny_mono (h pins s σ H Q (I.wish _) hw) (fun _ _ ⟨v, H', I', r, q⟩ => ⟨v, H', I'.unwish, r, q⟩) fun _ _ z => False.elim z
theorem PT.nox {e : Expr} {t : TT} (h : PT X.nox e t) : PT X e t := fun pins s σ H Q I hw =>
  wpAny_mono (h pins s σ H Q (I.wish _) hw) (fun _ _ ⟨H', I', q⟩ => ⟨H', I'.unwish, q⟩) fun _ _ z => False.elim z
theorem PSs.nox {st : List Stmt} {t : TS} (h : PSs X.nox st t) : PSs X st t := fun pins s σ H D I hw =>
  wpAny_mono (h pins s σ H D (I.wish _) hw) (fun _ _ q => q.unwish) fun _ _ z => False.elim z
end
section
variable {X : Cx} {st : Stmt} {rest : List Stmt} {t u : TS} {e : Expr} {te : TE} {pos : Pos}
def tNext : TS := fun D σ H => D.nx σ H
def tSeq (t u : TS) : TS := fun D σ H => t { D with nx := u D } σ H
theorem pss_nil : PSs X [] tNext := fun _ _ σ H _ I h => wpAny_execs_nil ⟨σ, H, I, h⟩
theorem pss_cons (h1 : PS X st t) (h2 : PSs X rest u) : PSs X (st :: rest) (tSeq t u) := by
  intro pins s σ H D I h
  refine wpAny_execs_cons (thn (h1 pins s σ H { D with nx := u D } I h) fun f s1 q => ?_)
  cases f with
  | next =>
    obtain ⟨σ', H', I', q⟩ := q
    exact h2 pins s1 σ' H' D I' q
  | ret v => exact q
  | brk => exact q
  | cont => exact q
theorem pss_one (h1 : PS X st t) : PSs X [st] t := by
  intro pins s σ H D I h
  refine wpAny_execs_cons (thn (h1 pins s σ H D I h) fun f s1 q => ?_)
  cases f with
  | next => exact wpAny_execs_nil q
  | ret v => exact q
  | brk => exact q
  | cont => exact q
theorem Inv.quiet {pins : List (Addr × Obj)} {σ : St} {H : Hp} {s : Shared} (I : Inv X pins σ H s) : interactive X.env = false := by simp [interactive, I.ok.kind]
def tDrop (te : TE) : TS := fun D σ H => te σ H fun _ H1 => D.nx σ H1
theorem ps_expr (he : PE X e te) (hs : swapsWith e none pos.line X.env = pure false := by rfl) : PS X (.Expr e pos) (tDrop te) := by
  intro pins s σ H D I h
  exact wpAny_Expr_any (thn (he pins s σ H _ I h) fun v s1 ⟨x, H1, I1, r1, q1⟩ => ⟨σ, H1, I1, q1⟩) I.quiet hs
def tRet (te : TE) : TS := fun D σ H => te σ H D.rt
theorem ps_ret (he : PE X e te) : PS X (.Return (some e) pos) (tRet te) := by
  intro pins s σ H D I h
  exact wpAny_Return_some (thn (he pins s σ H _ I h) fun v s1 ⟨x, H1, I1, r1, q1⟩ => ⟨x, σ, H1, I1, r1, q1⟩)
def tIfS (c : TT) (t u : TS) : TS := fun D σ H => c σ H fun b H1 => if b = true then t D σ H1 else u D σ H1
theorem ps_if {c : Expr} {a b : List Stmt} {tc : TT} (hc : PT X c tc) (ha : PSs X a t) (hb : PSs X b u) : PS X (.If c a b pos) (tIfS tc t u) := by
  intro pins s σ H D I h
  refine wpAny_If (thn (hc pins s σ H _ I h) fun d s1 ⟨H1, I1, q1⟩ => ?_)
  cases d with
  | true => exact ha pins s1 σ H1 D I1 q1
  | false => exact hb pins s1 σ H1 D I1 q1
end
abbrev TG := V → St → Hp → (St → Hp → Prop) → Prop
def PG (X : Cx) (target : Expr) (t : TG) : Prop :=
  ∀ (pins : List (Addr × Obj)) (s : Shared) (σ : St) (H : Hp) (v : V) (u : Value) (Q : St → Hp → Prop), Inv X pins σ H s → RelV v u → t v σ H Q →
    wpAny (model X.prog X.w) X.A (assign target X.env u) (fun _ s' => ∃ σ' H', Inv X pins σ' H' s' ∧ Q σ' H') X.xe s
abbrev TSet := V → V → V → Hp → (Hp → Prop) → Prop
def PSet (X : Cx) (t : TSet) : Prop :=
  ∀ (pins : List (Addr × Obj)) (s : Shared) (σ : St) (H : Hp) (o i v : V) (ov iv u : Value) (Q : Hp → Prop), Inv X pins σ H s → RelV o ov → RelV i iv → RelV v u → t o i v H Q →
    wpAny (model X.prog X.w) X.A (setItem ov iv u) (fun _ s' => ∃ H', Inv X pins σ H' s' ∧ Q H') X.xe s
section
variable {X : Cx} {pos : Pos}
def gName (i : Nat) : TG := fun v σ H Q => Q (σ.set i (some v)) H
theorem pg_name {i : Nat} {x : Str} (hN : X.N.Nodup) (hi : X.N[i]? = some x) (hx : Loc X.env.scope x) (hf : X.fn x = true ∨ X.env.scope.names.lookup x = some .local := by first | exact .inl rfl | exact .inr rfl | assumption) : PG X (.Name x pos) (gName i) := by
  intro pins s σ H v u Q I r h
  exact wpAny_assign_Name (store_ok I hN hi hx r (fun s' I' => ⟨_, H, I', h⟩) hf)
def gSub (to ti : TE) (t : TSet) : TG := fun v σ H Q => to σ H fun o H1 => ti σ H1 fun i H2 => t o i v H2 fun H3 => Q σ H3
theorem pg_sub {o i : Expr} {to ti : TE} {t : TSet} (ho : PE X o to) (hi : PE X i ti) (hs : PSet X t)
    (ha : ∀ v, assign (.Subscript o i pos) X.env v = (do
      let ov ← holding [v] (eval o X.env)
      let iv ← holding [v, ov] (eval i X.env)
      standAt pos
      holding [v, ov, iv] (setItem ov iv v)
      release [v, ov, iv] []) := by intro _; rfl) : PG X (.Subscript o i pos) (gSub to ti t) := by
  intro pins s σ H v u Q I r h
  rw [ha]
  refine wpAny_bind (wpAny_holding (thn (ho pins s σ H _ I h) fun ov s1 ⟨x, H1, I1, r1, q1⟩ => ?_))
  refine wpAny_bind (wpAny_holding (thn (hi pins s1 σ H1 _ I1 q1) fun iv s2 ⟨y, H2, I2, r2, q2⟩ => ?_))
  refine wpAny_bind (wpAny_standAt (wpAny_bind (wpAny_holding (thn (hs pins s2 σ H2 x y v ov iv u _ I2 r1 r2 r q2) fun _ s3 ⟨H3, I3, q3⟩ => ?_))))
  exact wpAny_release ⟨σ, H3, I3, q3⟩
def tAsg (te : TE) (g : TG) : TS := fun D σ H => te σ H fun x H1 => g x σ H1 D.nx
theorem ps_asg {tg e : Expr} {te : TE} {g : TG} (he : PE X e te) (hg : PG X tg g) (hs : swapsWithSole [tg] e pos.line X.env = pure false := by rfl) (hw : swappedStores [tg] e X.env = pure none := by rfl)
    (h1 : (assignEach [tg] X.env).map (·.2) = [assign tg X.env] := by rfl) : PS X (.Assign [tg] e pos) (tAsg te g) := by
  intro pins s σ H D I h
  refine wpAny_Assign_stores (thn (he pins s σ H _ I h) fun v s1 ⟨x, H1, I1, r1, q1⟩ => ?_) hs hw
  rw [h1]
  exact thn (hg pins s1 σ H1 x v _ I1 r1 q1) fun _ s2 q => q
theorem ps_set {i : Nat} {x : Str} {e : Expr} {te : TE} {pos' : Pos} (hN : X.N.Nodup) (hi : X.N[i]? = some x) (hx : Loc X.env.scope x) (he : PE X e te) (hs : swapsWith e (some (.Name x pos')) pos.line X.env = pure false := by rfl) (hf : X.fn x = true ∨ X.env.scope.names.lookup x = some .local := by first | exact .inl rfl | exact .inr rfl | assumption) :
    PS X (.Assign [.Name x pos'] e pos) (tAsg te (gName i)) := by
  intro pins s σ H D I h
  refine wpAny_Assign_Name (thn (he pins s σ H _ I h) fun v s1 ⟨y, H1, I1, r1, q1⟩ => ?_) hs
  exact store_ok I1 hN hi hx r1 (fun s2 I2 => ⟨_, H1, I2, q1⟩) hf
end
section
variable {X : Cx} {pos : Pos}
end
structure It where
  go : Nat → Hp → Prop
  yld : Nat → Hp → V → Hp → Prop
  stop : Nat → Hp → Prop
def FpOk (X : Cx) (pins : List (Addr × Obj)) (H : Hp) (b : Addr) : Prop :=
  H b = none ∧ b ≠ X.env.locals ∧ b ∉ X.fs ∧ (b ∈ X.ex ∨ X.s₀.heap.objs.size ≤ b) ∧ (∀ x c, X.env.cells.lookup x = some c → c ≠ b) ∧ ∀ p ∈ X.pn ++ pins, p.1 ≠ b
theorem Inv.fpOk {X : Cx} {pins : List (Addr × Obj)} {σ : St} {H H' : Hp} {s : Shared} {b : Addr} (I : Inv X pins σ H s) (hb : s.heap.objs.size ≤ b) (hn : H' b = none) : FpOk X pins H' b := by
  refine ⟨hn, Nat.ne_of_gt (Nat.lt_of_lt_of_le I.lt hb), I.nofs hb, .inr (Nat.le_trans I.sz hb), fun x c e z => ?_, fun p hp z => ?_⟩
  · obtain ⟨v, q⟩ := I.cell x c e
    exact absurd (Nat.lt_of_lt_of_le q.lt (by rw [z]; exact hb)) (Nat.lt_irrefl _)
  · exact absurd (Nat.lt_of_lt_of_le (Heap.lt_size (I.pin p hp).1) (by rw [z]; exact hb)) (Nat.lt_irrefl _)
structure Turn (P : Program) (w : World) (K : PySem.W.Frag) (tg : Expr) (J : It) (fp : List Addr) (it : Addr) (tn : Nat → Heap → Prop) : Prop where
  mem : it ∈ fp
  obj : ∀ i h, tn i h → ∀ b ∈ fp, ∃ o, h.get? b = some o ∧ ∀ v, o.data ≠ .cell v
  keep : ∀ i h h', tn i h → (∀ b ∈ fp, ∀ o, h.get? b = some o → h'.get? b = some o) → tn i h'
  item : ∀ (X : Cx), X.prog = P → X.w = w → X.K = K → X.calm = true → ∀ (i : Nat) (pins : List (Addr × Obj)) (s : Shared) (σ : St) (H : Hp) (E : Value → Shared → Prop), Inv X pins σ H s → (∀ b ∈ fp, FpOk X pins H b) → tn i s.heap → J.go i H →
    wpAny (model P w) X.A (pyNext (.ref it)) (fun r s1 => ∃ u, r = some u ∧
      wpAny (model P w) X.A (letOwnedTupleGo tg (.ref it) u) (fun _ s2 => ∃ x H', Inv X pins σ H' s2 ∧ RelV x u ∧ J.yld i H x H' ∧ tn (i + 1) s2.heap ∧ ∀ b ∈ fp, H' b = none) E s1) E s
  done : ∀ (X : Cx), X.prog = P → X.w = w → X.K = K → X.calm = true → ∀ (i : Nat) (pins : List (Addr × Obj)) (s : Shared) (σ : St) (H : Hp) (E : Value → Shared → Prop), Inv X pins σ H s → (∀ b ∈ fp, FpOk X pins H b) → tn i s.heap → J.stop i H →
    wpAny (model P w) X.A (pyNext (.ref it)) (fun r s1 => r = none ∧ Inv X pins σ H s1) E s
  self : ∀ (A : Around) (i : Nat) (s : Shared) (Q : Value → Shared → Prop) (E : Value → Shared → Prop), tn i s.heap → Q (.ref it) s → wpAny (model P w) A (pyIter (.ref it)) Q E s
abbrev TI := St → Hp → (It → Hp → Prop) → Prop
def PIE (X : Cx) (pins : List (Addr × Obj)) (σ : St) (tg : Expr) (R : It → Hp → Prop) (itv : Value) (s2 : Shared) : Prop :=
  ∃ (it : Addr) (fp : List Addr) (tn : Nat → Heap → Prop) (J : It) (H' : Hp), itv = .ref it ∧ Inv X pins σ H' s2 ∧ Turn X.prog X.w X.K tg J fp it tn ∧ tn 0 s2.heap ∧ (∀ b ∈ fp, FpOk X pins H' b) ∧ R J H'
def PI (X : Cx) (tg iter : Expr) (wi : TI) : Prop :=
  ∀ (pins : List (Addr × Obj)) (s : Shared) (σ : St) (H : Hp) (R : It → Hp → Prop), Inv X pins σ H s → wi σ H R →
    wpAny (model X.prog X.w) X.A (eval iter X.env) (fun v s1 => wpAny (model X.prog X.w) X.A (pyIter v) (PIE X pins σ tg R) X.xe s1) X.xe s
theorem go_of {M : Model} {A : Around} {E : Value → Shared → Prop} {s : Shared} {tg : Expr} {it : Addr} {u : Value} {o : Obj} {n : String} {vs : Array Value} {Q : Unit → Shared → Prop} (ho : s.heap.get? it = some o) (hc : o.cls = .type n) (hd : o.data = .fields vs)
    (hn : ["enumerate", "zip", "dict_itemiterator", "dict_reverseitemiterator", "odict_iterator", "itertools.zip_longest", "itertools.pairwise"].contains n = false) (hQ : Q () s) : wpAny M A (letOwnedTupleGo tg (.ref it) u) Q E s := by
  unfold letOwnedTupleGo
  cases tg <;> first
    | exact wpAny_pure hQ
    | (cases u <;> first
        | exact wpAny_pure hQ
        | (refine wpAny_bind (wpAny_load ho ?_)
           rw [hc, hd]
           show wpAny M A (if (["enumerate", "zip", "dict_itemiterator", "dict_reverseitemiterator", "odict_iterator", "itertools.zip_longest", "itertools.pairwise"].contains n && vs[0]? == some (rawInt _)) = true then _ else _) Q E s
           rw [if_neg (by intro h; rw [hn, Bool.false_and] at h; cases h)]
           exact wpAny_pure hQ))
def Itl (K : PySem.W.Frag) (a : Addr) : It :=
  ⟨fun i H => ∃ xs x, SqL K H a xs ∧ xs[i]? = some x, fun i H x H' => H' = H ∧ ∀ xs, SqL K H a xs → xs[i]? = some x, fun i H => ∃ xs, SqL K H a xs ∧ xs.length ≤ i⟩
def Itr (lo : Int) (n : Nat) : It := ⟨fun i _ => i < n, fun i H x H' => H' = H ∧ x = .int (lo + i), fun i _ => n ≤ i⟩
theorem turn_list {P : Program} {w : World} {K : PySem.W.Frag} {tg : Expr} (a it : Addr) : Turn P w K tg (Itl K a) [it] it (fun i h => h.IsListIter it a i) where
  mem := by simp
  obj := fun i h st b hb => by
    have e : b = it := by simpa using hb
    subst e
    obtain ⟨o, e, c, d⟩ := st
    exact ⟨o, e, fun v z => by rw [d] at z; cases z⟩
  keep := fun i h h' st k => st.at fun o e => k it (by simp) o e
  item := by
    intro X hP hw hK hc i pins s σ H E I hf st hg
    subst hP hw hK
    obtain ⟨xs, x, hq, hx⟩ := hg
    obtain ⟨its, rv, p, hz⟩ := I.list hq
    obtain ⟨u, hu, ru⟩ := rv.get hx
    obtain ⟨f0, f1, f2, f3, f4, f5⟩ := hf it (by simp)
    refine wpAny_pyNext_list_item st p.isList (x := u) (by simpa using hu) fun h' st' sb => ?_
    have I1 : Inv X pins σ H { s with heap := h' } := I.turned (t' := s.toks) (fun b o hb e => (sb.2 b hb).trans e) f0 f1 f3 f4 f5
    obtain ⟨o, e, c, d⟩ := id st'
    exact ⟨u, rfl, go_of (s := { s with heap := h' }) e c d (by decide) ⟨x, H, I1, ru, ⟨rfl, fun ys hy => by rw [I.list_inj hy hq]; exact hx⟩, st', fun b hb => (hf b hb).1⟩⟩
  done := by
    intro X hP hw hK hc i pins s σ H E I hf st hg
    subst hP hw hK
    obtain ⟨xs, hq, hx⟩ := hg
    obtain ⟨its, rv, p, hz⟩ := I.list hq
    obtain ⟨f0, f1, f2, f3, f4, f5⟩ := hf it (by simp)
    have hl := rv.length
    exact wpAny_pyNext_list_end (I.ok.hd hc) st p.isList (by simp; omega) fun h' eb => ⟨rfl, I.turned (t' := s.toks) (fun b o hb e => eb b o hb e) f0 f1 f3 f4 f5⟩
  self := fun _ _ _ _ _ st h => wpAny_pyIter_listiter st h
theorem turn_range {P : Program} {w : World} {K : PySem.W.Frag} {tg : Expr} (it : Addr) (lo : Int) (n : Nat) : Turn P w K tg (Itr lo n) [it] it (fun i h => IsRangeIter h it (lo + (i : Nat) * 1) ((n : Int) - (i : Nat)) 1) where
  mem := by simp
  obj := fun i h st b hb => by
    have e : b = it := by simpa using hb
    subst e
    exact ⟨_, st, fun v z => by
      have z' : Data.fields _ = Data.cell v := z
      cases z'⟩
  keep := fun i h h' st k => k it (by simp) _ st
  item := by
    intro X hP hw hK hc i pins s σ H E I hf st hg
    subst hP hw hK
    obtain ⟨f0, f1, f2, f3, f4, f5⟩ := hf it (by simp)
    have W := Walks.range (prog := X.prog) (w := X.w) (I.ok.hd hc) it lo 1 n
    refine W.item i s _ _ hg st fun v h' tk hv st' kk => ?_
    obtain ⟨t, rfl⟩ := hv
    have I1 : Inv X pins σ H { s with heap := h', toks := tk } := I.turned (fun b o hb e => kk b o (by simpa using hb) e) f0 f1 f3 f4 f5
    refine ⟨_, rfl, go_of (s := { s with heap := h', toks := tk }) (n := "range_iterator") st' rfl rfl (by decide) ⟨.int (lo + i), H, I1, ⟨t, ?_⟩, ⟨rfl, rfl⟩, st', fun b hb => (hf b hb).1⟩⟩
    rw [Int.mul_one]
  done := by
    intro X hP hw hK hc i pins s σ H E I hf st hg
    subst hP hw hK
    obtain ⟨f0, f1, f2, f3, f4, f5⟩ := hf it (by simp)
    exact wpAny_pyNext_range_end (I.ok.hd hc) st (by have : n ≤ i := hg; omega) fun h' eb => ⟨rfl, I.turned (t' := s.toks) (fun b o hb e => eb b o hb e) f0 f1 f3 f4 f5⟩
  self := fun _ _ _ _ _ st h => wpAny_pyIter_rangeiter st h
end L2
namespace L2
open PySem PySem.Spec PyProof.Rows
section
variable {X : Cx} {tg : Expr}
def iList (K : PySem.W.Frag) (tl : TE) : TI := fun σ H R => tl σ H fun x H1 => ∃ a, x = .ref a ∧ (∃ xs, SqL K H1 a xs) ∧ R (Itl K a) H1
theorem pi_list {l : Expr} {tl : TE} (hl : PE X l tl) : PI X tg l (iList X.K tl) := by
  intro pins s σ H R I h
  refine thn (hl pins s σ H _ I h) fun v s1 ⟨x, H1, I1, r1, q1⟩ => ?_
  obtain ⟨a, e, ⟨xs, hq⟩, q⟩ := q1
  subst e
  cases r1
  obtain ⟨its, rv, p, hz⟩ := I1.list hq
  refine wpAny_pyIter_list p.isList ?_
  refine ⟨s1.heap.objs.size, [s1.heap.objs.size], _, _, H1, rfl, I1.kept (t' := s1.toks) fun b o e => Heap.get?_push_of_some _ e, turn_list a _, ⟨_, Heap.get?_push_size _ rfl, rfl, rfl⟩, fun b hb => ?_, q⟩
  have e : b = s1.heap.objs.size := by simpa using hb
  subst e
  exact I1.fpOk (Nat.le_refl _) (I1.hok.fresh (Nat.le_refl _))
theorem range_it {pins : List (Addr × Obj)} {σ : St} {H : Hp} {s : Shared} {R : It → Hp → Prop} {E : Value → Shared → Prop} {lo hi : Int} {t u v : Tok} {tk : Nat} (I : Inv X pins σ H s) (h1 : -(2 ^ 62) ≤ lo) (h2 : lo < 2 ^ 62) (h3 : -(2 ^ 62) ≤ hi) (h4 : hi < 2 ^ 62)
    (q : R (Itr lo (hi - lo).toNat) H) : wpAny (model X.prog X.w) X.A (pyIter (.ref s.heap.objs.size)) (PIE X pins σ tg R) E { s with heap := s.heap.push { cls := .type "range", data := .fields #[.int lo t, .int hi u, .int 1 v] }, toks := tk } := by
  refine wpAny_pyIter_range (IsRange.new ..) (small_one h1 h2 h3 h4) ?_
  have I1 : Inv X pins σ H { s with heap := s.heap.push { cls := .type "range", data := .fields #[.int lo t, .int hi u, .int 1 v] }, toks := tk } := I.kept fun b o e => Heap.get?_push_of_some _ e
  refine ⟨(s.heap.push { cls := .type "range", data := .fields #[.int lo t, .int hi u, .int 1 v] }).objs.size, [(s.heap.push { cls := .type "range", data := .fields #[.int lo t, .int hi u, .int 1 v] }).objs.size], _, _, H, rfl,
    I1.kept (t' := tk) fun b o e => Heap.get?_push_of_some _ e, turn_range _ lo (hi - lo).toNat, ?_, fun b hb => ?_, q⟩
  · have e1 : lo + ((0 : Nat) : Int) * 1 = lo := by simp
    have e2 : (((hi - lo).toNat : Nat) : Int) - ((0 : Nat) : Int) = Builtin.Range.rangeSize lo hi 1 := by rw [rangeSize_one]; split <;> omega
    show IsRangeIter _ _ (lo + ((0 : Nat) : Int) * 1) ((((hi - lo).toNat : Nat) : Int) - ((0 : Nat) : Int)) 1
    rw [e1, e2]
    exact Heap.get?_push_size _ rfl
  · have e : b = (s.heap.push { cls := .type "range", data := .fields #[.int lo t, .int hi u, .int 1 v] }).objs.size := by simpa using hb
    subst e
    exact I1.fpOk (Nat.le_refl _) (I1.hok.fresh (Nat.le_refl _))
def iRng1 (ta : TA) : TI := fun σ H R => ta σ H fun vs H1 => ∃ j : Int, vs = [.int j] ∧ -(2 ^ 62) ≤ j ∧ j < 2 ^ 62 ∧ R (Itr 0 j.toNat) H1
def iRng2 (ta : TA) : TI := fun σ H R => ta σ H fun vs H1 => ∃ i j : Int, vs = [.int i, .int j] ∧ (-(2 ^ 62) ≤ i ∧ i < 2 ^ 62 ∧ -(2 ^ 62) ≤ j ∧ j < 2 ^ 62) ∧ R (Itr i (j - i).toNat) H1
theorem pi_range1 {a : Expr} {ta : TA} {p pos : Pos} (hg : Gl X "range") (hm : X.mg "range" = none) (ha : PA X [a] ta) (hs : starEach [a] X.env = [(false, eval a X.env)] := by rfl) : PI X tg (.Call (.Name "range" p) [a] [] pos) (iRng1 ta) := by
  intro pins s σ H R I h
  refine Call_ (ld_blt I hg hm boot_range (PyProof.Rows.callWith_type1 (thn (ha pos pins s σ H _ I h) fun us s1 ⟨vs, H1, I1, r1, q1⟩ => ?_) hs rfl))
  obtain ⟨j, e, q1, q2, q⟩ := q1
  subst e
  cases r1 with
  | cons r rr =>
    cases rr
    obtain ⟨t, rfl⟩ := r
    exact call_range_1 (range_it I1 (by omega) (by omega) q1 q2 (by simpa using q))
theorem pi_range2 {a b : Expr} {ta : TA} {p pos : Pos} (hg : Gl X "range") (hm : X.mg "range" = none) (ha : PA X [a, b] ta) (hs : starEach [a, b] X.env = [(false, eval a X.env), (false, eval b X.env)] := by rfl) (hs2 : starEach [b] X.env = [(false, eval b X.env)] := by rfl) :
    PI X tg (.Call (.Name "range" p) [a, b] [] pos) (iRng2 ta) := by
  intro pins s σ H R I h
  refine Call_ (ld_blt I hg hm boot_range (PyProof.Rows.callWith_type1 (thn (ha pos pins s σ H _ I h) fun us s1 ⟨vs, H1, I1, r1, q1⟩ => ?_) (by rw [hs, hs2]) (by rw [hs2]; rfl)))
  obtain ⟨i, j, e, ⟨q1, q2, q3, q4⟩, q⟩ := q1
  subst e
  cases r1 with
  | cons r rr =>
    cases rr with
    | cons r' rr =>
      cases rr
      obtain ⟨t, rfl⟩ := r
      obtain ⟨t', rfl⟩ := r'
      exact call_range_2 (range_it I1 q1 q2 q3 q4 q)
def tFor (wi : TI) (g : TG) (tb : TS) : TS := fun D σ H => wi σ H fun J H1 => ∃ W : Nat → Nat → St → Hp → Prop, (∃ m, W 0 m σ H1) ∧ ∀ i m σ H, W i m σ H →
  (J.stop i H ∧ D.nx σ H) ∨ (J.go i H ∧ ∃ N : St → Hp → Prop, (∀ σ' H', N σ' H' → ∃ m', m' < m ∧ W (i + 1) m' σ' H') ∧ ∀ x H', J.yld i H x H' → g x σ H' fun σ2 H2 => tb { D with nx := N, ct := N, bk := D.nx } σ2 H2)
def pinsAt (fp : List Addr) (h : Heap) : List (Addr × Obj) := fp.filterMap fun b => (h.get? b).map fun o => (b, o)
theorem mem_pinsAt {fp : List Addr} {h : Heap} {b : Addr} {o : Obj} (hb : b ∈ fp) (e : h.get? b = some o) : (b, o) ∈ pinsAt fp h := List.mem_filterMap.mpr ⟨b, hb, by rw [e]; rfl⟩
theorem of_pinsAt {fp : List Addr} {h : Heap} {p : Addr × Obj} (hp : p ∈ pinsAt fp h) : p.1 ∈ fp ∧ h.get? p.1 = some p.2 := by
  obtain ⟨b, hb, e⟩ := List.mem_filterMap.mp hp
  cases q : h.get? b with
  | none => rw [q] at e; cases e
  | some o =>
    rw [q] at e
    have e' : (b, o) = p := Option.some.inj e
    subst e'
    exact ⟨hb, q⟩
theorem Inv.pinned {pins : List (Addr × Obj)} {σ : St} {H : Hp} {s : Shared} {fp : List Addr} (I : Inv X pins σ H s) (hf : ∀ b ∈ fp, FpOk X pins H b) (ho : ∀ b ∈ fp, ∃ o, s.heap.get? b = some o ∧ ∀ v, o.data ≠ .cell v) : Inv X (pins ++ pinsAt fp s.heap) σ H s :=
  I.pins_of fun p hp => (List.mem_append.mp hp).elim (fun z => I.pin p (List.mem_append_right _ z)) fun z => by
    obtain ⟨hb, e⟩ := of_pinsAt z
    obtain ⟨f0, f1, f2, _⟩ := hf p.1 hb
    obtain ⟨o, e', d⟩ := ho p.1 hb
    rw [e] at e'; cases e'
    exact ⟨e, f0, f1, f2, d⟩
theorem Inv.unpinned {pins pl : List (Addr × Obj)} {σ : St} {H : Hp} {s : Shared} (I : Inv X (pins ++ pl) σ H s) : Inv X pins σ H s := I.pins_of fun p hp => I.pin p (List.mem_append_right _ (List.mem_append_left _ hp))
theorem ps_for {iter : Expr} {body : List Stmt} {wi : TI} {g : TG} {tb : TS} {pos : Pos} (hp : PassesOwn (model X.prog X.w) X.A X.env X.xe) (hc : X.calm = true) (hi : PI X tg iter wi) (hg : PG X tg g) (hb : PSs X body tb)
    (hs : ∀ x, foldedSetIterable iter X.env x = pure x := by intro _; rfl) : PS X (.For tg iter body [] pos) (tFor wi g tb) := by
  intro pins s σ H D I h
  refine wpAny_For (thn (hi pins s σ H _ I h) fun v s1 h1 => thn h1 fun itv s2 h2 => ?_) hs
  obtain ⟨it, fp, tn, J, H2, e, I2, T, st2, f2, W, ⟨m0, w0⟩, turn⟩ := h2
  subst e
  have stat : ∀ {H' : Hp}, (∀ b ∈ fp, H' b = none) → ∀ b ∈ fp, FpOk X pins H' b := fun hn b hb => ⟨hn b hb, (f2 b hb).2⟩
  refine codeAny_forLoop_any (fun n s' => ∃ i σ' H', Inv X pins σ' H' s' ∧ tn i s'.heap ∧ (∀ b ∈ fp, H' b = none) ∧ W i n σ' H') ?_ m0 ⟨0, σ, H2, I2, st2, fun b hb => (f2 b hb).1, w0⟩
  rintro n s3 ⟨i, σ3, H3, I3, st3, fr3, w3⟩
  rcases turn i n σ3 H3 w3 with ⟨stop, qn⟩ | ⟨go, N, hN, step⟩
  · refine wpAny_passesOwn hp (thn (T.done X rfl rfl rfl hc i pins s3 σ3 H3 X.xe I3 (stat fr3) st3 stop) fun r s4 ⟨hr, I4⟩ => ?_)
    subst hr
    exact wpAny_execs_nil ⟨σ3, H3, I4, qn⟩
  · refine wpAny_passesOwn hp (thn (T.item X rfl rfl rfl hc i pins s3 σ3 H3 X.xe I3 (stat fr3) st3 go) fun r s4 ⟨u, hr, h4⟩ => ?_)
    subst hr
    refine wpAny_passesOwn hp (thn h4 fun _ s5 ⟨x, H5, I5, r5, y5, st5, fr5⟩ => ?_)
    have I5' := I5.pinned (stat fr5) (T.obj _ _ st5)
    refine wpAny_passesOwn hp (thn (hg _ s5 σ3 H5 x u _ I5' r5 (step x H5 y5)) fun _ s6 ⟨σ6, H6, I6, q6⟩ => ?_)
    refine wpAny_passesOwn hp (thn (hb _ s6 σ6 H6 _ I6 q6) fun f s7 q7 => ?_)
    have again : ∀ {σ7 : St} {H7 : Hp}, Inv X (pins ++ pinsAt fp s5.heap) σ7 H7 s7 → N σ7 H7 → ∃ m, m < n ∧ ∃ i σ' H', Inv X pins σ' H' s7 ∧ tn i s7.heap ∧ (∀ b ∈ fp, H' b = none) ∧ W i m σ' H' := fun {σ7 H7} I7 n7 => by
      obtain ⟨m', hm, w7⟩ := hN σ7 H7 n7
      refine ⟨m', hm, i + 1, σ7, H7, I7.unpinned, T.keep _ _ _ st5 fun b hb o e => (I7.pin (b, o) (List.mem_append_right _ (List.mem_append_right _ (mem_pinsAt hb e)))).1, fun b hb => ?_, w7⟩
      obtain ⟨o, e, d⟩ := T.obj _ _ st5 b hb
      exact (I7.pin (b, o) (List.mem_append_right _ (List.mem_append_right _ (mem_pinsAt hb e)))).2.1
    cases f with
    | next => obtain ⟨σ7, H7, I7, n7⟩ := q7; exact again I7 n7
    | cont => obtain ⟨σ7, H7, I7, n7⟩ := q7; exact again I7 n7
    | brk => obtain ⟨σ7, H7, I7, q7⟩ := q7; exact ⟨σ7, H7, I7.unpinned, q7⟩
    | ret v => obtain ⟨x7, σ7, H7, I7, r7, q7⟩ := q7; exact ⟨x7, σ7, H7, I7.unpinned, r7, q7⟩
end
end L2
namespace L2
open PySem PySem.Spec PyProof.Rows
abbrev R2 := V → V → Hp → VK → Prop
def OpR (X : Cx) (f : Value → Value → Sem Value) (r : R2) : Prop :=
  ∀ (pins : List (Addr × Obj)) (s : Shared) (σ : St) (H : Hp) (x y : V) (v u : Value) (Q : VK), Inv X pins σ H s → RelV x v → RelV y u → r x y H Q →
    wpAny (model X.prog X.w) X.A (f v u) (EP X pins σ Q) X.xe s
def UnR (X : Cx) (f : Value → Sem Value) (r : V → Hp → VK → Prop) : Prop :=
  ∀ (pins : List (Addr × Obj)) (s : Shared) (σ : St) (H : Hp) (x : V) (v : Value) (Q : VK), Inv X pins σ H s → RelV x v → r x H Q →
    wpAny (model X.prog X.w) X.A (f v) (EP X pins σ Q) X.xe s
def CallR (X : Cx) (f : Value) (r : List V → Hp → VK → Prop) : Prop :=
  ∀ (pins : List (Addr × Obj)) (s : Shared) (σ : St) (H : Hp) (xs : List V) (us : List Value) (Q : VK), Inv X pins σ H s → Vals xs us → r xs H Q →
    wpAny (model X.prog X.w) X.A (call f us) (EP X pins σ Q) X.xe s
def TruR (X : Cx) (r : V → Hp → (Bool → Hp → Prop) → Prop) : Prop :=
  ∀ (pins : List (Addr × Obj)) (s : Shared) (σ : St) (H : Hp) (x : V) (v : Value) (Q : Bool → Hp → Prop), Inv X pins σ H s → RelV x v → r x H Q →
    wpAny (model X.prog X.w) X.A (truthy v) (TP X pins σ Q) X.xe s
def tOp (r : R2) (ta tb : TE) : TE := fun σ H Q => ta σ H fun x H1 => tb σ H1 fun y H2 => r x y H2 Q
def tUn (r : V → Hp → VK → Prop) (ta : TE) : TE := fun σ H Q => ta σ H fun x H1 => r x H1 Q
def rI (C : Int → Int → Prop) (g : Int → Int → V) : R2 := fun x y H Q => ∃ i j, x = .int i ∧ y = .int j ∧ C i j ∧ Q (g i j) H
def rI0 (g : Int → Int → V) : R2 := fun x y H Q => ∃ i j, x = .int i ∧ y = .int j ∧ Q (g i j) H
def rU (g : Int → V) : V → Hp → VK → Prop := fun x H Q => ∃ i, x = .int i ∧ Q (g i) H
section
variable {X : Cx} {a b c : Expr} {ta tb tc : TE} {pos : Pos}
theorem binT (ha : PE X a ta) (hb : PE X b tb) {pins : List (Addr × Obj)} {s : Shared} {σ : St} {H : Hp} {R : V → V → Hp → Prop} (I : Inv X pins σ H s)
    (h : ta σ H fun x H1 => tb σ H1 fun y H2 => R x y H2) {Q : Value → Shared → Prop} {f : Value → Value → Sem Value}
    (hf : ∀ v u s2 x y H2, Inv X pins σ H2 s2 → RelV x v → RelV y u → R x y H2 → wpAny (model X.prog X.w) X.A (f v u) Q X.xe s2) :
    wpAny (model X.prog X.w) X.A (eval a X.env) (fun v s₁ => wpAny (model X.prog X.w) X.A (eval b X.env) (fun u s₂ => wpAny (model X.prog X.w) X.A (f v u) Q X.xe s₂) X.xe s₁) X.xe s := by
  refine thn (ha pins s σ H _ I h) fun v s1 ⟨x, H1, I1, r1, q1⟩ => ?_
  refine thn (hb pins s1 σ H1 _ I1 q1) fun u s2 ⟨y, H2, I2, r2, q2⟩ => ?_
  exact hf v u s2 x y H2 I2 r1 r2 q2
theorem pe_op {op : Operator} {r : R2} (ho : OpR X (binaryOp op) r) (ha : PE X a ta) (hb : PE X b tb) : PE X (.BinOp a op b pos) (tOp r ta tb) := by
  intro pins s σ H Q I h
  exact wpAny_BinOp (binT ha hb I h fun v u s2 x y H2 I2 rx ry q => ho pins s2 σ H2 x y v u Q I2 rx ry q)
theorem pe_un {op : UnaryOp} {r : V → Hp → VK → Prop} (ho : UnR X (unaryOp op) r) (ha : PE X a ta) : PE X (.UnaryOp op a pos) (tUn r ta) := by
  intro pins s σ H Q I h
  exact UnaryOp_ (thn (ha pins s σ H _ I h) fun v s1 ⟨x, H1, I1, r1, q1⟩ => ho pins s1 σ H1 x v Q I1 r1 q1)
theorem opI {f : Value → Value → Sem Value} {C : Int → Int → Prop} {g : Int → Int → Int}
    (rule : ∀ (i j : Int) (t u : Tok) (s : Shared) (Q : Value → Shared → Prop) (E : Value → Shared → Prop), C i j → Q (.int (g i j) s.toks) { s with toks := s.toks + 1 } → wpAny (model X.prog X.w) X.A (f (.int i t) (.int j u)) Q E s) :
    OpR X f (rI C fun i j => .int (g i j)) := by
  intro pins s σ H x y v u Q I rx ry h
  obtain ⟨i, j, rfl, rfl, hc, q⟩ := h
  obtain ⟨t, rfl⟩ := rx
  obtain ⟨t', rfl⟩ := ry
  exact rule i j t t' s _ _ hc ⟨.int (g i j), H, I.tok _, ⟨_, rfl⟩, q⟩
theorem opI0 {f : Value → Value → Sem Value} {g : Int → Int → Int}
    (rule : ∀ (i j : Int) (t u : Tok) (s : Shared) (Q : Value → Shared → Prop) (E : Value → Shared → Prop), Q (.int (g i j) s.toks) { s with toks := s.toks + 1 } → wpAny (model X.prog X.w) X.A (f (.int i t) (.int j u)) Q E s) :
    OpR X f (rI0 fun i j => .int (g i j)) := by
  intro pins s σ H x y v u Q I rx ry h
  obtain ⟨i, j, rfl, rfl, q⟩ := h
  obtain ⟨t, rfl⟩ := rx
  obtain ⟨t', rfl⟩ := ry
  exact rule i j t t' s _ _ ⟨.int (g i j), H, I.tok _, ⟨_, rfl⟩, q⟩
theorem opB0 {f : Value → Value → Sem Value} {g : Int → Int → Bool}
    (rule : ∀ (i j : Int) (t u : Tok) (s : Shared) (Q : Value → Shared → Prop) (E : Value → Shared → Prop), Q (.bool (g i j)) s → wpAny (model X.prog X.w) X.A (f (.int i t) (.int j u)) Q E s) :
    OpR X f (rI0 fun i j => .bl (g i j)) := by
  intro pins s σ H x y v u Q I rx ry h
  obtain ⟨i, j, rfl, rfl, q⟩ := h
  obtain ⟨t, rfl⟩ := rx
  obtain ⟨t', rfl⟩ := ry
  exact rule i j t t' s _ _ ⟨.bl (g i j), H, I, rfl, q⟩
def CPow (i j : Int) : Prop := 0 ≤ j ∧ j ≤ 1000000 ∧ i.natAbs < 2 ^ 64
def CMul (i j : Int) : Prop := (-(2 ^ 64) < i ∧ i < 2 ^ 64) ∨ (-(2 ^ 64) < j ∧ j < 2 ^ 64)
theorem CMul.ok {i j : Int} (h : CMul i j) : IntMulOk i j := by
  rcases h with ⟨h1, h2⟩ | ⟨h1, h2⟩
  · exact .of_left (intBits_le_64 h1 h2)
  · exact .of_right (intBits_le_64 h1 h2)
theorem op_add : OpR X (binaryOp .Add) (rI0 fun i j => .int (i + j)) := opI0 fun _ _ _ _ _ _ _ q => add_int q
theorem op_sub : OpR X (binaryOp .Sub) (rI0 fun i j => .int (i - j)) := opI0 fun _ _ _ _ _ _ _ q => sub_int q
theorem op_mul : OpR X (binaryOp .Mult) (rI CMul fun i j => .int (i * j)) := opI fun _ _ _ _ _ _ _ hc q => mul_int q hc.ok
theorem op_mod : OpR X (binaryOp .Mod) (rI (fun _ j => 0 < j) fun i j => .int (i % j)) := opI fun i j _ _ _ _ _ hc q => by
  have h1 : (0 : Int) < j := hc
  exact mod_int' (by omega) (by rw [Int.fmod_eq_emod_of_nonneg i (by omega)]; exact q)
theorem op_pow : OpR X (binaryOp .Pow) (rI CPow fun i j => .int (i ^ j.toNat)) := opI fun _ _ _ _ _ _ _ hc q => pow_int_small hc.1 hc.2.1 hc.2.2 q
theorem unI {f : Value → Sem Value} {g : Int → Int}
    (rule : ∀ (i : Int) (t : Tok) (s : Shared) (Q : Value → Shared → Prop) (E : Value → Shared → Prop), Q (.int (g i) s.toks) { s with toks := s.toks + 1 } → wpAny (model X.prog X.w) X.A (f (.int i t)) Q E s) :
    UnR X f (rU fun i => .int (g i)) := by
  intro pins s σ H x v Q I rx h
  obtain ⟨i, rfl, q⟩ := h
  obtain ⟨t, rfl⟩ := rx
  exact rule i t s _ _ ⟨.int (g i), H, I.tok _, ⟨_, rfl⟩, q⟩
theorem un_neg : UnR X (unaryOp .USub) (rU fun i => .int (-i)) := unI fun _ _ _ _ _ q => neg_int q
end
section
variable {X : Cx} {a b c : Expr} {ta tb tc : TE} {pos : Pos}
theorem op_lt : OpR X (compareOp .Lt) (rI0 fun i j => .bl (decide (i < j))) := opB0 fun _ _ _ _ _ _ _ q => lt_int q
theorem op_le : OpR X (compareOp .LtE) (rI0 fun i j => .bl (decide (i ≤ j))) := opB0 fun _ _ _ _ _ _ _ q => le_int q
theorem op_gt : OpR X (compareOp .Gt) (rI0 fun i j => .bl (decide (j < i))) := opB0 fun _ _ _ _ _ _ _ q => gt_int q
theorem OpR.or {f : Value → Value → Sem Value} {r r' : R2} (h : OpR X f r) (h' : OpR X f r') : OpR X f (fun x y H Q => r x y H Q ∨ r' x y H Q) := by
  intro pins s σ H x y v u Q I rx ry q
  rcases q with q | q
  · exact h pins s σ H x y v u Q I rx ry q
  · exact h' pins s σ H x y v u Q I rx ry q
theorem nomark (b : Expr) {op : CmpOp} (h : op ≠ .In := by decide) (h2 : op ≠ .NotIn := by decide) : behindInMarks op b = false := by
  have e1 : (op == CmpOp.In) = false := by cases op <;> first | rfl | exact absurd rfl h
  have e2 : (op == CmpOp.NotIn) = false := by cases op <;> first | rfl | exact absurd rfl h2
  cases b <;> simp [behindInMarks, e1, e2]
theorem pe_cmpR {op : CmpOp} {r : R2} (ho : OpR X (compareOp op) r) (ha : PE X a ta) (hb : PE X b tb) (hm : behindInMarks op b = false) : PE X (.Compare a [op] [b] pos) (tOp r ta tb) := by
  intro pins s σ H Q I h
  exact wpAny_Compare1 (binT ha hb I h fun v u s2 x y H2 I2 rx ry q => ho pins s2 σ H2 x y v u Q I2 rx ry q) hm
def tTest (t : TE) : TT := fun σ H Q => t σ H fun x H' => ∃ k, x = .bl k ∧ Q k H'
theorem pt_cmpR {op : CmpOp} {r : R2} (ho : OpR X (compareOp op) r) (ha : PE X a ta) (hb : PE X b tb) (hm : behindInMarks op b = false) : PT X (.Compare a [op] [b] pos) (tTest (tOp r ta tb)) := by
  intro pins s σ H Q I h
  refine wpAny_isTrue_Compare1 (thn (ha pins s σ H _ I h) fun v s1 ⟨x, H1, I1, r1, q1⟩ => thn (hb pins s1 σ H1 _ I1 q1) fun u s2 ⟨y, H2, I2, r2, q2⟩ =>
    thn (ho pins s2 σ H2 x y v u _ I2 r1 r2 q2) fun c s3 ⟨z, H3, I3, r3, k, e, q3⟩ => ?_) hm
  subst e
  cases r3
  exact wpAny_truthy_bool ⟨H3, I3, q3⟩
def tChain (r r' : R2) (ta tb tc : TE) : TE := fun σ H Q => ta σ H fun x H1 => tb σ H1 fun y H2 => r x y H2 fun z H3 => ∃ k, z = .bl k ∧
  (if k = true then tc σ H3 fun w' H4 => r' y w' H4 Q else Q (.bl false) H3)
theorem pt_chain {op op' : CmpOp} {r r' : R2} (ho : OpR X (compareOp op) r) (ho' : OpR X (compareOp op') r') (ha : PE X a ta) (hb : PE X b tb) (hc : PE X c tc)
    (hm : lastMarks [op, op'] [b, c] = false := by with_unfolding_all rfl) : PT X (.Compare a [op, op'] [b, c] pos) (tTest (tChain r r' ta tb tc)) := by
  intro pins s σ H Q I h
  refine isTrue_chain (thn (ha pins s σ H _ I h) fun v s1 ⟨x, H1, I1, r1, q1⟩ => test_link (thn (hb pins s1 σ H1 _ I1 q1) fun u s2 ⟨y, H2, I2, r2, q2⟩ =>
    thn (ho pins s2 σ H2 x y v u _ I2 r1 r2 q2) fun d s3 ⟨z, H3, I3, r3, k, e, q3⟩ => ?_)) hm
  subst e
  cases r3
  refine wpAny_truthy_bool ?_
  cases k with
  | false =>
    obtain ⟨k', e', q'⟩ := q3
    cases e'
    exact ite_ff ⟨H3, I3, q'⟩
  | true =>
    refine ite_tt (test_last (thn (hc pins s3 σ H3 _ I3 q3) fun w' s4 ⟨z', H4, I4, r4, q4⟩ => thn (ho' pins s4 σ H4 y z' u w' _ I4 r2 r4 q4) fun d' s5 ⟨z2, H5, I5, r5, k2, e2, q5⟩ => ?_))
    subst e2
    cases r5
    exact wpAny_truthy_bool ⟨H5, I5, q5⟩
def TruV (K : PySem.W.Frag) (x : V) (H : Hp) (k : Bool) : Prop :=
  match x with
  | .non => k = false
  | .bl b => k = b
  | .int i => k = (i != 0)
  | .str y => y.length ≤ sizeLine ∧ k = ((y.length : Int) != 0)
  | .byt y => y.size ≤ sizeLine ∧ k = ((y.size : Int) != 0)
  | .ref p => (∃ xs, SqL K H p xs ∧ k = !xs.isEmpty) ∨ (∃ xs, SqT K H p xs ∧ k = !xs.isEmpty) ∨ ∃ kvs, H p = some (.dK kvs) ∧ k = !kvs.isEmpty
  | _ => False
theorem isEmpty_kv {κ : Type} {kvs : List (κ × V)} {vs : List (κ × Value)} (r : KV kvs vs) : (!vs.isEmpty) = !kvs.isEmpty := by
  cases r <;> rfl
theorem isEmpty_of {xs : List V} {its : List Value} (r : Vals xs its) : (!its.toArray.isEmpty) = !xs.isEmpty := by
  cases r <;> simp
theorem line63 : (sizeLine : Nat) < 2 ^ 63 := by rw [sizeLine_eq]; decide
theorem tru_ok : TruR X (fun x H Q => ∃ k, TruV X.K x H k ∧ Q k H) := by
  intro pins s σ H x v Q I rx h
  obtain ⟨k, e, q⟩ := h
  have hl := line63
  have hs : sizeLine = 16777216 := sizeLine_eq
  cases x with
  | non =>
    cases rx
    have e' : k = false := e
    subst e'
    exact truthy_none ⟨H, I, q⟩
  | bl b =>
    cases rx
    have e' : k = b := e
    subst e'
    exact wpAny_truthy_bool ⟨H, I, q⟩
  | int i =>
    obtain ⟨t, rfl⟩ := rx
    have e' : k = (i != 0) := e
    subst e'
    exact PySem.P.truthy_int ⟨H, I, q⟩
  | str y =>
    obtain ⟨t, rfl⟩ := rx
    obtain ⟨hy, e'⟩ : y.length ≤ sizeLine ∧ k = ((y.length : Int) != 0) := e
    subst e'
    exact PySem.P.truthy_str (by omega) ⟨H, I.tok _, q⟩
  | byt y =>
    obtain ⟨t, rfl⟩ := rx
    obtain ⟨hy, e'⟩ : y.size ≤ sizeLine ∧ k = ((y.size : Int) != 0) := e
    subst e'
    exact PySem.W.truthy_bytes (by omega) ⟨H, I.tok _, q⟩
  | ref p =>
    cases rx
    have e' : (∃ xs, SqL X.K H p xs ∧ k = !xs.isEmpty) ∨ (∃ xs, SqT X.K H p xs ∧ k = !xs.isEmpty) ∨ ∃ kvs, H p = some (.dK kvs) ∧ k = !kvs.isEmpty := e
    rcases e' with ⟨xs, hx, e'⟩ | ⟨xs, hx, e'⟩ | ⟨kvs, hx, e'⟩
    · subst e'
      obtain ⟨its, r, pl, hz⟩ := I.list hx
      have hlen := r.length
      exact wpAny_truthy_list pl.isList (by simp only [List.size_toArray]; omega) ⟨H, I.tok _, by rw [isEmpty_of r]; exact q⟩
    · subst e'
      obtain ⟨its, r, pl, hz⟩ := I.tuple hx
      have hlen := r.length
      exact truthy_tuple pl (by simp only [List.size_toArray]; omega) ⟨H, I.tok _, by rw [isEmpty_of r]; exact q⟩
    · subst e'
      obtain ⟨hz, hS, vs, r, m⟩ : kvs.length ≤ sizeLine ∧ (p == sysModules) = false ∧ ∃ vs, KV kvs vs ∧ s.heap.DictOf (mixKind X.prog X.w) p vs := I.hok p _ hx
      have hlen : kvs.length = vs.length := Paired.length r
      exact wpAny_truthy_dict hS m (by omega) ⟨H, I.tok _, by rw [isEmpty_kv r]; exact q⟩
  | _ => exact (show False from e).elim
theorem pt_truth (ha : PE X a ta) (he : ∀ whole, isTrue a X.env whole = (do let v ← whole; standAt a.pos; holding [v] (truthy v))) :
    PT X a (fun σ H Q => ta σ H fun x H' => ∃ k, TruV X.K x H' k ∧ Q k H') := by
  intro pins s σ H Q I h
  exact isTrue_plain (thn (ha pins s σ H _ I h) fun v s1 ⟨x, H1, I1, r1, q1⟩ => tru_ok pins s1 σ H1 x v Q I1 r1 q1) (he _)
theorem vals1 {x : V} {us : List Value} (r : Vals [x] us) : ∃ u, us = [u] ∧ RelV x u := by
  cases r with
  | cons r1 r2 => cases r2; exact ⟨_, rfl, r1⟩
theorem vals2 {x y : V} {us : List Value} (r : Vals [x, y] us) : ∃ u w', us = [u, w'] ∧ RelV x u ∧ RelV y w' := by
  cases r with
  | cons r1 r2 =>
    cases r2 with
    | cons r3 r4 => cases r4; exact ⟨_, _, rfl, r1, r3⟩
theorem call_max2 (hc : X.calm = true) : CallR X (.builtin "max") (fun xs H Q => ∃ i j, xs = [.int i, .int j] ∧ Q (.int (if j > i then j else i)) H) := by
  intro pins s σ H xs us Q I r h
  obtain ⟨i, j, rfl, q⟩ := h
  obtain ⟨u, w', rfl, ⟨t, rfl⟩, ⟨t', rfl⟩⟩ := vals2 r
  refine max_two_ints (I.ok.hd hc) fun h' tk k => ⟨_, H, I.kept k, ?_, q⟩
  by_cases hj : j > i
  · rw [if_pos hj, if_pos hj]; exact ⟨_, rfl⟩
  · rw [if_neg hj, if_neg hj]; exact ⟨_, rfl⟩
theorem call_min2 (hc : X.calm = true) : CallR X (.builtin "min") (fun xs H Q => ∃ i j, xs = [.int i, .int j] ∧ Q (.int (if j < i then j else i)) H) := by
  intro pins s σ H xs us Q I r h
  obtain ⟨i, j, rfl, q⟩ := h
  obtain ⟨u, w', rfl, ⟨t, rfl⟩, ⟨t', rfl⟩⟩ := vals2 r
  refine min_two_ints (I.ok.hd hc) fun h' tk k => ⟨_, H, I.kept k, ?_, q⟩
  by_cases hj : j < i
  · rw [if_pos hj, if_pos hj]; exact ⟨_, rfl⟩
  · rw [if_neg hj, if_neg hj]; exact ⟨_, rfl⟩
end
end L2
namespace L2
open PySem PySem.Spec PyProof.Rows
section
variable {prog : Program} {w : World} {A : Around} {E : Value → Shared → Prop} {s : Shared} {K : PySem.W.Frag} {x dx C f : Addr} {mA : Str → Option Value} {name : Str} {v : Value}
end
def putF (f : Str) (v : V) : List (Str × V) → List (Str × V)
  | [] => [(f, v)]
  | (g, x) :: r => if g = f then (g, v) :: r else (g, x) :: putF f v r
section
variable {P : Program} {w : World} {H H' : Hp} {h h' : Heap} {a C dx : Addr} {fs fs' : List (Str × V)}
end
structure Cls (K : PySem.W.Frag) (C : Addr) : Prop where
  pg : PySem.W.plainGet K C Str.empty = true
  hd : PySem.W.hasDictIn K C = true
  po : PySem.W.plainOver K C = true
  sa : PySem.W.findIn K (.ref C) "__setattr__" = some (some (.builtin "object.__setattr__"))
theorem Cls.get {K : PySem.W.Frag} {C : Addr} (c : Cls K C) (f : Str) : PySem.W.plainGet K C f = true := c.pg
structure Meth (K : PySem.W.Frag) (C : Addr) (m : Str) (f : Addr) : Prop where
  at_ : PySem.W.findIn K (.ref C) m = some (some (.ref f))
  fn : PySem.W.isFn K (.ref f) = true
  kp : PySem.W.keepIn K (.ref f) = true
section
variable {X : Cx} {pins : List (Addr × Obj)} {σ : St} {H : Hp} {s : Shared} {a C dx : Addr} {fs : List (Str × V)} {f : Str} {v : V} {A : Around} {E : Value → Shared → Prop}
end
section
variable {X : Cx} {o e value : Expr} {f : Str} {pos pos' tpos : Pos} {ta tv : TE}
end
section
variable {X : Cx} {pins : List (Addr × Obj)} {σ : St} {H : Hp} {s : Shared} {A : Around} {E : Value → Shared → Prop} {Q : Value → Shared → Prop} {c : Value} {b : Bool}
end
end L2
namespace L2
open PySem PySem.Spec PyProof.Rows
structure Room (k : Nat) (A : Around) : Prop where
  hd : A.handled = none
  dp : A.depth + 3 * k + 5 < recursionLimit
  un : A.units + 16 * k + 200 < cLine
theorem Room.mono {j k : Nat} {A : Around} (r : Room k A) (h : j ≤ k) : Room j A := ⟨r.hd, by have := r.dp; omega, by have := r.un; omega⟩
theorem Room.deeper {k : Nat} {A : Around} (r : Room (k + 1) A) (env : Env) : Room k (A.deeper env) :=
  ⟨r.hd, by have := r.dp; show A.depth + 1 + 3 * k + 5 < _; omega, by have := r.un; show A.units + 3 + 16 * k + 200 < _; omega⟩
theorem Room.in1 {k : Nat} {A : Around} (r : Room (k + 1) A) : Room k A.in1 :=
  ⟨r.hd, by have := r.dp; show A.depth + 3 * k + 5 < _; omega, by have := r.un; show A.units + 1 + 16 * k + 200 < _; omega⟩
theorem Room.depth {k : Nat} {A : Around} (r : Room k A) : A.depth < recursionLimit := by have := r.dp; omega
theorem Room.units {k : Nat} {A : Around} (r : Room k A) : A.units + 64 < cLine := by have := r.un; omega
def tNil : TA := fun _ H Q => Q [] H
def tCons (ta : TE) (tr : TA) : TA := fun σ H Q => ta σ H fun x H1 => tr σ H1 fun xs H2 => Q (x :: xs) H2
section
variable {X : Cx} {e : Expr} {es : List Expr} {te : TE} {t : TA} {pos : Pos}
theorem pa_nil : PA X [] tNil := fun _ _ _ _ H Q I h => Calls.spliced_nil ⟨[], H, I, .nil, h⟩
theorem pa_cons (ha : PE X e te) (hr : PA X es t) (hs : starEach (e :: es) X.env = (false, eval e X.env) :: starEach es X.env := by rfl) : PA X (e :: es) (tCons te t) := by
  intro pos pins s σ H Q I h
  rw [hs]
  show wpAny _ _ (spliced ((false, eval e X.env) :: backTo pos (starEach es X.env))) _ _ s
  refine Calls.spliced_cons (thn (ha pins s σ H _ I h) fun u s1 ⟨x, H1, I1, r1, q1⟩ => ?_)
  exact thn (hr pos pins s1 σ H1 _ I1 q1) fun us s2 ⟨xs, H2, I2, r2, q2⟩ => ⟨x :: xs, H2, I2, .cons r1 r2, q2⟩
def tTup (t : TA) : TE := fun σ H Q => t σ H fun xs H1 => xs.length ≤ sizeLine ∧ ∀ p, H1 p = none → Q (.ref p) (upd H1 p (.tup xs))
def tLst (t : TA) : TE := fun σ H Q => t σ H fun xs H1 => xs.length ≤ sizeLine ∧ ∀ p, H1 p = none → Q (.ref p) (upd H1 p (.lst xs))
theorem pe_tup {x1} (h : PA X es t) : PE X (.Tuple es x1 pos) (tTup t) := by
  intro pins s σ H Q I hq
  refine wpAny_Tuple_spliced (thn (h pos pins s σ H _ I hq) fun us s1 ⟨xs, H1, I1, r, z, q⟩ => ⟨by rw [← r.length]; exact z, ?_⟩)
  have hf : H1 s1.heap.objs.size = none := I1.hok.fresh (Nat.le_refl _)
  refine ⟨.ref s1.heap.objs.size, upd H1 s1.heap.objs.size (.tup xs), I1.laid (t' := s1.toks) (fun b u e => Heap.get?_push_of_some _ e) (Nat.le_refl _) ?_, rfl, q _ hf⟩
  exact ⟨z, us, r, ⟨_, Heap.get?_push_size _ rfl, rfl, _, rfl⟩⟩
theorem pe_lst (h : PA X es t) : PE X (.List es pos) (tLst t) := by
  intro pins s σ H Q I hq
  refine wpAny_List_spliced (thn (h pos pins s σ H _ I hq) fun us s1 ⟨xs, H1, I1, r, z, q⟩ => ⟨by rw [← r.length]; exact z, ?_⟩)
  have hf : H1 s1.heap.objs.size = none := I1.hok.fresh (Nat.le_refl _)
  refine ⟨.ref s1.heap.objs.size, upd H1 s1.heap.objs.size (.lst xs), I1.laid (t' := s1.toks) (fun b u e => Heap.get?_push_of_some _ e) (Nat.le_refl _) ?_, rfl, q _ hf⟩
  exact ⟨z, us, 0, r, Heap.get?_push_size _ rfl⟩
end
abbrev Sp := List V → Hp → VK → XK → Prop
abbrev CXT := List Env → Hp → Shared → XK → Value → Shared → Prop
structure Env0 (P : Program) (w : World) (K : PySem.W.Frag) (mg : Str → Option Value) (base : Heap) (A : Around) (outer : List Env) (s : Shared) (H : Hp) : Prop where
  frames : A.frames = some outer
  mod : Mod K mg base
  bs : ∀ b o, base.get? b = some o → s.heap.get? b = some o ∧ H b = none
  bsz : base.objs.size ≤ s.heap.objs.size
  funs : s.heap.FunFrames base outer
  frf : ∀ b ∈ frs outer, H b = none
  hok : HOk P w H s.heap
  bare : AllBare s.gens
def CE (outer : List Env) (P : Program) (w : World) (H : Hp) (s : Shared) (Q : VK) (u : Value) (s' : Shared) : Prop :=
  ∃ v H', s'.os = s.os ∧ AllBare s'.gens ∧ Un (frs outer) [] H H' s.heap s'.heap ∧ HOk P w H' s'.heap ∧ RelV v u ∧ Q v H'
def CR (CX : CXT) (outer : List Env) (P : Program) (w : World) (H : Hp) (s : Shared) (Q : VK) (E : XK) (r : Result) (s' : Shared) : Prop :=
  match r with
  | .ok (.ret u) => CE outer P w H s Q u s'
  | .ok _ => False
  | .error e => CX outer H s E e s'
structure FnOk (P : Program) (w : World) (K : PySem.W.Frag) (mg : Str → Option Value) (base : Heap) (CX : CXT) (k : Nat) (f : Addr) (fd : FuncData) (ps : List Str) (sp : Sp) : Prop where
  len : ∀ vs H Q E, sp vs H Q E → vs.length = ps.length
  run : ∀ (A : Around) (outer : List Env) (s : Shared) (H : Hp) (args : Args) (us : List Value) (vs : List V) (Q : VK) (E : XK), Room k A → Env0 P w K mg base A outer s H → BindsTo s fd args (ps.zip us) → Vals vs us → sp vs H Q E →
    codeAny (model P w) A (.call (.ref f) args) (CR CX outer P w H s Q E) s
theorem FnOk.mono {P : Program} {w : World} {K : PySem.W.Frag} {mg : Str → Option Value} {base : Heap} {CX : CXT} {j k : Nat} {f : Addr} {fd : FuncData} {ps : List Str} {sp : Sp} (F : FnOk P w K mg base CX j f fd ps sp) (h : j ≤ k) :
    FnOk P w K mg base CX k f fd ps sp := ⟨F.len, fun A outer s H args us vs Q E hr => F.run A outer s H args us vs Q E (hr.mono h)⟩
theorem FnOk.imp {P : Program} {w : World} {K : PySem.W.Frag} {mg : Str → Option Value} {base : Heap} {CX : CXT} {k : Nat} {f : Addr} {fd : FuncData} {ps : List Str} {sp sp' : Sp} (F : FnOk P w K mg base CX k f fd ps sp)
    (h : ∀ vs H Q E, sp' vs H Q E → sp vs H Q E) : FnOk P w K mg base CX k f fd ps sp' :=
  ⟨fun vs H Q E q => F.len vs H Q E (h _ _ _ _ q), fun A outer s H args us vs Q E hr he hb hv hs => F.run A outer s H args us vs Q E hr he hb hv (h _ _ _ _ hs)⟩
theorem Env0.in1 {P : Program} {w : World} {K : PySem.W.Frag} {mg : Str → Option Value} {base : Heap} {A : Around} {outer : List Env} {s : Shared} {H : Hp} (e : Env0 P w K mg base A outer s H) :
    Env0 P w K mg base A.in1 outer s H := ⟨e.frames, e.mod, e.bs, e.bsz, e.funs, e.frf, e.hok, e.bare⟩
section
variable {X : Cx} {pins : List (Addr × Obj)} {σ : St} {H : Hp} {s s' : Shared}
theorem Inv.env0 (I : Inv X pins σ H s) : Env0 X.prog X.w X.K X.mg X.base X.A X.stack s H :=
  ⟨I.ok.frames, I.ok.mod, I.bs, Nat.le_trans I.ok.bsz I.sz, I.stack, I.stkFree, I.hok, I.bare⟩
theorem Inv.after {Q : VK} {u : Value} (I : Inv X pins σ H s) (h : CE X.stack X.prog X.w H s Q u s') : EP X pins σ Q u s' := by
  obtain ⟨v, H', os, bare, un, hok, r, q⟩ := h
  obtain ⟨hh, g, d, t, os'⟩ := s'
  obtain rfl : os' = s.os := os
  exact ⟨v, H', I.call (h' := hh) (g' := g) (d' := d) (t' := t) (ch := []) un hok bare (fun b z => absurd z (by simp)), r, q⟩
end
def tCall (sp : Sp) (dvs : List V) (E : XK) (t : TA) : TE := fun σ H Q => t σ H fun vs H1 => sp (vs ++ dvs) H1 Q E
def Binds (K : PySem.W.Frag) (fd : FuncData) (ps : List Str) (ds : List Value) : Prop :=
  ∀ (s : Shared) (us : List Value), K.In s.heap → (us ++ ds).length = ps.length → BindsTo s fd ⟨us, []⟩ (ps.zip (us ++ ds))
theorem Binds.all {K : PySem.W.Frag} {fd : FuncData} {ps : List Str} (h : ∀ us : List Value, us.length = ps.length → bindArgs fd ⟨us, []⟩ = pure (ps.zip us)) : Binds K fd ps [] := fun s us _ hl => by
  rw [List.append_nil] at hl ⊢
  exact .of_eq (h us hl)
def Passes (CX : CXT) (X : Cx) (E : XK) : Prop := ∀ (pins : List (Addr × Obj)) (σ : St) (H : Hp) (s : Shared) (e : Value) (s' : Shared), Inv X pins σ H s → CX X.stack H s E e s' → X.xe e s'
section
variable {X : Cx} {CX : CXT} {k : Nat} {f C : Addr} {fd : FuncData} {ps : List Str} {sp : Sp} {dvs : List V} {ds : List Value} {E : XK} {x m : Str} {p pos apos : Pos} {e o : Expr} {es : List Expr} {ta : TE} {t : TA}
theorem run_fn {pins : List (Addr × Obj)} {σ : St} {H : Hp} {s : Shared} {Q : VK} {us : List Value} {vs : List V} (F : FnOk X.prog X.w X.K X.mg X.base CX k f fd ps sp) (hr : Room k X.A) (hb : Binds X.K fd ps ds) (hd : Vals dvs ds) (hx : Passes CX X E)
    (I : Inv X pins σ H s) (r : Vals vs us) (h : sp (vs ++ dvs) H Q E) : wpAny (model X.prog X.w) X.A (call (.ref f) us) (EP X pins σ Q) X.xe s := by
  have r2 : Vals (vs ++ dvs) (us ++ ds) := r.append hd
  have hl : (us ++ ds).length = ps.length := by rw [← r2.length]; exact F.len _ _ _ _ h
  refine wpAny_call (codeAny_mono (F.run X.A X.stack s H ⟨us, []⟩ (us ++ ds) (vs ++ dvs) Q E hr I.env0 (hb s us I.kIn hl) r2 h) fun r s' hq => ?_)
  cases r with
  | error e => exact hx pins σ H s e s' I hq
  | ok fl =>
    cases fl with
    | ret u => exact I.after hq
    | next => exact False.elim hq
    | brk => exact False.elim hq
    | cont => exact False.elim hq
theorem pe_call (F : FnOk X.prog X.w X.K X.mg X.base CX k f fd ps sp) (hr : Room k X.A) (hg : Gl X x) (hm : X.mg x = some (.ref f)) (hk : PySem.W.keepIn X.K (.ref f) = true) (hb : Binds X.K fd ps ds) (hd : Vals dvs ds) (hx : Passes CX X E)
    (ha : PA X (e :: es) t) (hdb : (x == ("__debug__" : Str)) = false := by decide) (he : starEach (e :: es) X.env = (false, eval e X.env) :: starEach es X.env := by rfl) (hpl : (backTo pos (starEach es X.env)).any (·.1) = false := by rfl) :
    PE X (.Call (.Name x p) (e :: es) [] pos) (tCall sp dvs E t) := by
  intro pins s σ H Q I h
  refine wpAny_Call_Name_kw (ld_glob I hg hm ?_ hdb)
  refine PySem.W.callWith_K (h₀ := X.base) I.ok.mod.kin hk (thn (ha pos pins s σ H _ I h) fun us s1 ⟨vs, H1, I1, r, q⟩ => ⟨I1.kIn, ?_⟩) he hpl
  exact run_fn F hr hb hd hx I1 r q
structure Mk (K : PySem.W.Frag) (C f : Addr) : Prop where
  makes : PySem.W.makesIn K C = true
  init : PySem.W.findIn K (.ref C) "__init__" = some (some (.ref f))
  fn : PySem.W.isFn K (.ref f) = true
  kp : PySem.W.keepIn K (.ref C) = true
end
section
variable {X : Cx} {CX : CXT} {k : Nat} {f C : Addr} {fd : FuncData} {ps ks : List Str} {sp : Sp} {E : XK} {x m : Str} {p pos apos kpos : Pos} {e o : Expr} {es : List Expr} {kws : List Keyword} {te ta : TE} {t tk : TA} {nm : Option Str}
variable {g : List Value → List Value → List Value} {gV : List V → List V → List V}
end
structure FnScope (N P : List Str) (sc : Scope) : Prop where
  kind : sc.kind = .function
  co : sc.isCoroutine = false
  gen : sc.isGenerator = false
  nd : N.Nodup
  pre : N.take P.length = P
  par : ∀ x ∈ P, sc.names.lookup x = some .local ∨ sc.names.lookup x = some .cell
  nofree : ∀ y ∈ sc.names, y.2 ≠ .free
theorem bindL_out {kindOf : Str → Option NameKind} {x : Str} : ∀ {binds : List (Str × Value)} {m : Str → Option Value}, (∀ v, (x, v) ∉ binds) → bindL kindOf binds m x = m x
  | [], _, _ => rfl
  | (n, v) :: r, m, h => by
    unfold bindL
    rw [bindL_out fun w hw => h w (List.mem_cons_of_mem _ hw)]
    split
    · have : x ≠ n := by rintro rfl; exact h v List.mem_cons_self
      simp [this]
    · rfl
theorem bindC_out {kindOf : Str → Option NameKind} {x : Str} : ∀ {binds : List (Str × Value)} {m : Str → Option Value}, (∀ v, (x, v) ∉ binds) → bindC kindOf binds m x = m x
  | [], _, _ => rfl
  | (n, v) :: r, m, h => by
    unfold bindC
    rw [bindC_out fun w hw => h w (List.mem_cons_of_mem _ hw)]
    split
    · rfl
    · have : x ≠ n := by rintro rfl; exact h v List.mem_cons_self
      simp [this]
theorem bindL_get {kindOf : Str → Option NameKind} {x : Str} {v : Value} : ∀ {P : List Str} {vs : List Value} {i : Nat} {m : Str → Option Value}, P.Nodup → P[i]? = some x → vs[i]? = some v → kindOf x = some .local →
    bindL kindOf (P.zip vs) m x = some v
  | [], _, _, _, _, h, _, _ => by simp at h
  | _ :: _, [], _, _, _, _, h, _ => by simp at h
  | p :: P, w :: vs, 0, m, nd, h1, h2, hk => by
    simp at h1 h2; subst h1; subst h2
    show bindL kindOf ((p, w) :: P.zip vs) m p = _
    unfold bindL
    rw [bindL_out fun v hv => (List.nodup_cons.mp nd).1 (List.of_mem_zip hv).1, if_pos hk]
    simp
  | p :: P, w :: vs, i + 1, m, nd, h1, h2, hk => by
    show bindL kindOf ((p, w) :: P.zip vs) m x = _
    unfold bindL
    exact bindL_get (i := i) (List.nodup_cons.mp nd).2 (by simpa using h1) (by simpa using h2) hk
theorem bindC_get {kindOf : Str → Option NameKind} {x : Str} {v : Value} : ∀ {P : List Str} {vs : List Value} {i : Nat} {m : Str → Option Value}, P.Nodup → P[i]? = some x → vs[i]? = some v → kindOf x ≠ some .local →
    bindC kindOf (P.zip vs) m x = some v
  | [], _, _, _, _, h, _, _ => by simp at h
  | _ :: _, [], _, _, _, _, h, _ => by simp at h
  | p :: P, w :: vs, 0, m, nd, h1, h2, hk => by
    simp at h1 h2; subst h1; subst h2
    show bindC kindOf ((p, w) :: P.zip vs) m p = _
    unfold bindC
    rw [bindC_out fun v hv => (List.nodup_cons.mp nd).1 (List.of_mem_zip hv).1, if_neg hk]
    simp
  | p :: P, w :: vs, i + 1, m, nd, h1, h2, hk => by
    show bindC kindOf ((p, w) :: P.zip vs) m x = _
    unfold bindC
    exact bindC_get (i := i) (List.nodup_cons.mp nd).2 (by simpa using h1) (by simpa using h2) hk
def start (N : List Str) (vs : List V) : St := vs.map some ++ List.replicate (N.length - vs.length) none
def cxOf (CX : CXT) (P : Program) (w : World) (K : PySem.W.Frag) (mg : Str → Option Value) (base : Heap) (N : List Str) (qual : Str) (scope : Scope) (f : Addr) (cd : Value) (A : Around) (outer : List Env) (s : Shared) (H : Hp) (E : XK) : Cx where
  prog := P
  w := w
  K := K
  mg := mg
  base := base
  A := A.deeper (envOfC qual scope s.heap.objs.size f cd)
  N := N
  s₀ := s
  H₀ := H
  env := envOfC qual scope s.heap.objs.size f cd
  outer := outer
  stack := envOfC qual scope s.heap.objs.size f cd :: outer
  ex := []
  calm := true
  fn := fun _ => true
  pn := []
  xe := fun e s' => wpAny (model P w) (A.deeper (envOfC qual scope s.heap.objs.size f cd)) (leaving (envOfC qual scope s.heap.objs.size f cd) e) (fun _ s'' => CX outer H s E e s'') (fun e' s'' => CX outer H s E e' s'') s'
theorem cell_has {sc : Scope} {n : Nat} {x : Str} (h : sc.names.lookup x = some .cell) : ∃ c, (cellsFrom n sc.names []).lookup x = some c := by
  have q := PySem.W.cellsFrom_some sc.names n [] (.inl h)
  exact Option.isSome_iff_exists.mp q
theorem inv_start {CX : CXT} {P : Program} {w : World} {K : PySem.W.Frag} {mg : Str → Option Value} {base : Heap} {N ps : List Str} {qual : Str} {scope : Scope} {f : Addr} {cd : Value} {A : Around} {outer : List Env} {s s1 : Shared} {H : Hp} {E : XK} {us : List Value} {vs : List V}
    (S : FnScope N ps scope) (hd : A.handled = none) (e0 : Env0 P w K mg base A outer s H) (hl : vs.length = ps.length) (r : Vals vs us)
    (x : InCallC s s.heap.objs.size (bindL (envOfC qual scope s.heap.objs.size f cd).kindOf (ps.zip us) fun _ => none) (cellsFrom (s.heap.objs.size + 1) scope.names []) (bindC (envOfC qual scope s.heap.objs.size f cd).kindOf (ps.zip us) fun _ => none) s1) :
    Inv (cxOf CX P w K mg base N qual scope f cd A outer s H E) [] (start N vs) H s1 := by
  have hpl : ps.length ≤ N.length := by have := congrArg List.length S.pre; rw [List.length_take] at this; omega
  obtain ⟨h1, tk, rfl, hk⟩ := x.done
  have noA : ∀ b : Addr, b ∉ (cxOf CX P w K mg base N qual scope f cd A outer s H E).ex := fun b z => absurd (show b ∈ ([] : List Addr) from z) (by simp)
  refine ⟨⟨e0.mod, S.kind, rfl, rfl, Nat.le_refl _, fun y z c h1 h2 => ?_, fun y hy => ?_, fun y c _ h => ?_, fun _ => hd, Around.frames_deeper e0.frames, .inr ⟨rfl, rfl⟩, fun b z => absurd z (noA b), e0.bs, e0.bsz, fun b _ _ => noA b, fun b z => absurd z (noA b), e0.funs, e0.frf⟩,
    rfl, e0.bare, Un.kept hk, ⟨_, x.toInCall.ns, fun i y v h1 h2 h3 => ?_⟩, fun y c h => ⟨_, x.cell y c h⟩, e0.hok.fresh (Nat.le_refl _), fun y c h => ?_, fun p hp => absurd (show p ∈ ([] : List (Addr × Obj)) from hp) (by simp), e0.hok.kept hk, ?_⟩
  · exact name_of_addr x.apart (PySem.mem_of_lookup h1) (PySem.mem_of_lookup h2)
  · have hy : scope.names.lookup y = some .cell ∨ scope.names.lookup y = some .free := hy
    rcases hy with hy | hy
    · exact cell_has hy
    · exact absurd rfl (S.nofree _ (PySem.mem_of_lookup hy))
  · exact Nat.le_of_lt (x.above y c (PySem.mem_of_lookup h))
  · have hi : i < vs.length := by
      unfold start at h2
      by_cases hi : i < vs.length
      · exact hi
      · rw [List.getElem?_append_right (by simpa using hi)] at h2
        rw [List.getElem?_replicate] at h2
        split at h2 <;> cases h2
    have ha : vs[i]? = some v := by
      unfold start at h2
      rw [List.getElem?_append_left (by simpa using hi), List.getElem?_map] at h2
      cases e : vs[i]? with
      | none => rw [e] at h2; cases h2
      | some a => rw [e] at h2; cases h2; rfl
    obtain ⟨u, hu, rv⟩ := r.get ha
    have hp : ps[i]? = some y := by
      rw [← S.pre, List.getElem?_take_of_lt (by omega)]; exact h1
    have ndP : ps.Nodup := by rw [← S.pre]; exact S.nd.sublist (List.take_sublist _ _)
    refine ⟨u, rv, ?_⟩
    rcases S.par y (List.mem_of_getElem? hp) with k | k
    · exact .inl ⟨k, bindL_get ndP hp hu k⟩
    · obtain ⟨c, e⟩ := cell_has (n := s.heap.objs.size + 1) k
      refine .inr ⟨.inl k, c, e, ?_⟩
      have q := x.cell y c e
      rw [bindC_get ndP hp hu (by show scope.names.lookup y ≠ _; rw [k]; decide)] at q
      exact q
  · exact e0.hok.fresh (Nat.le_of_lt (x.above y c (PySem.mem_of_lookup h)))
  · unfold start
    show _ = N.length
    rw [List.length_append, List.length_map, List.length_replicate]
    omega
theorem fn_of {CX : CXT} {P : Program} {w : World} {K : PySem.W.Frag} {mg : Str → Option Value} {base : Heap} {k : Nat} {f : Addr} {name qual : Str} {params : Arguments} {body : List Stmt} {scope : Scope} {dV kV doc pm cdv ct oc : Value} {an od : Option Addr}
    {osl : Array (Option Value)} {N ps : List Str} {sp : Sp} (lk : K.lookup f = some ⟨oc, od, .func (PySem.W.fnOf name qual params body scope dV kV doc pm an cdv ct), osl⟩) (hcd : PySem.W.codeIn K cdv qual = true) (S : FnScope N ps scope)
    (len : ∀ vs H Q E, sp vs H Q E → vs.length = ps.length)
    (hbody : ∀ (A : Around) (outer : List Env) (s : Shared) (H : Hp) (vs : List V) (Q : VK) (E : XK), Room k (A.deeper (envOfC qual scope s.heap.objs.size f cdv)) → sp vs H Q E →
      ∃ t, PSs (cxOf CX P w K mg base N qual scope f cdv A outer s H E) body t ∧ t { nx := fun _ H' => Q .non H', rt := Q } (start N vs) H) :
    FnOk P w K mg base CX (k + 1) f (PySem.W.fnOf name qual params body scope dV kV doc pm an cdv ct) ps sp := by
  refine ⟨len, fun A outer s H args us vs Q E hr e0 hb r hsp => ?_⟩
  have hl := len _ _ _ _ hsp
  have KX : K.In s.heap := e0.mod.kin.keeps fun b o e => (e0.bs b o e).1
  have lim : s.heap.NoLimit := e0.mod.nolimit.keeps fun b o e => (e0.bs b o e).1
  have hkind : ∀ y ∈ ps.zip us, scope.names.lookup y.1 = some .local ∨ (scope.names.lookup y.1 = some .cell ∧ ((cellsFrom (s.heap.objs.size + 1) scope.names []).lookup y.1).isSome = true) := fun ⟨n, v⟩ hy => by
    rcases S.par n (List.of_mem_zip hy).1 with q | q
    · exact .inl q
    · exact .inr ⟨q, PySem.W.cellsFrom_some _ _ _ (.inl q)⟩
  refine codeAny_call_function hr.depth (KX _ _ lk) rfl S.co S.gen rfl (PySem.W.codeRec_of KX hcd) (hb _ _ _ _ ?_)
  refine wpAny_newFunctionEnv_cells S.kind hkind fun env he s1 x => ?_
  subst he
  refine ⟨lim.keeps x.toInCall.keep, codeAny_func ?_⟩
  obtain ⟨t, ht, hq⟩ := hbody A outer s H vs Q E (hr.deeper _) hsp
  have I : Inv (cxOf CX P w K mg base N qual scope f cdv A outer s H E) [] (start N vs) H s1 := inv_start S hr.hd e0 hl r x
  refine wpAny_mono (ht [] s1 (start N vs) H _ I hq) (fun fl s' hs => ?_) fun e s' hs => hs
  have fin : ∀ {σ' : St} {H' : Hp} {v : V} {u : Value}, Inv (cxOf CX P w K mg base N qual scope f cdv A outer s H E) [] σ' H' s' → RelV v u → Q v H' → CE outer P w H s Q u s' :=
    fun {σ' H' v u} J rv q => ⟨v, H', J.os, J.bare, J.base, J.hok, rv, q⟩
  cases fl with
  | ret u =>
    obtain ⟨v, σ', H', J, rv, q⟩ := hs
    exact fin J rv q
  | next =>
    obtain ⟨σ', H', J, q⟩ := hs
    exact fin (v := V.non) (u := Value.none) J rfl q
  | brk =>
    obtain ⟨_, _, _, q⟩ := hs
    exact False.elim q
  | cont =>
    obtain ⟨_, _, _, q⟩ := hs
    exact False.elim q
end L2
namespace L2
open PySem PySem.Spec PyProof.Rows
section
variable {X : Cx} {x : Str} {p pos : Pos} {e : Expr} {es : List Expr} {t : TA} {id T : String} {r : List V → Hp → VK → Prop}
def tCB (r : List V → Hp → VK → Prop) (t : TA) : TE := fun σ H Q => t σ H fun vs H1 => r vs H1 Q
theorem pe_callB (hc : CallR X (.builtin id) r) (hg : Gl X x) (hm : X.mg x = none) (hv : bootBuiltins x = some (.builtin id)) (ha : PA X (e :: es) t) (hn : x ≠ "__name__" := by decide) (hdb : (x == ("__debug__" : Str)) = false := by decide)
    (he : starEach (e :: es) X.env = (false, eval e X.env) :: starEach es X.env := by rfl) (hpl : (backTo pos (starEach es X.env)).any (·.1) = false := by rfl) : PE X (.Call (.Name x p) (e :: es) [] pos) (tCB r t) := by
  intro pins s σ H Q I h
  refine wpAny_Call_Name_kw (ld_blt I hg hm hv ?_ hn hdb)
  exact PyProof.Rows.callWith_builtin1 (thn (ha pos pins s σ H _ I h) fun us s1 ⟨vs, H1, I1, r1, q1⟩ => hc pins s1 σ H1 vs us Q I1 r1 q1) he hpl
theorem pe_callTy (hc : CallR X (.type T) r) (hg : Gl X x) (hm : X.mg x = none) (hv : bootBuiltins x = some (.type T)) (ha : PA X (e :: es) t) (hn : x ≠ "__name__" := by decide) (hdb : (x == ("__debug__" : Str)) = false := by decide)
    (he : starEach (e :: es) X.env = (false, eval e X.env) :: starEach es X.env := by rfl) (hpl : (backTo pos (starEach es X.env)).any (·.1) = false := by rfl) : PE X (.Call (.Name x p) (e :: es) [] pos) (tCB r t) := by
  intro pins s σ H Q I h
  refine wpAny_Call_Name_kw (ld_blt I hg hm hv ?_ hn hdb)
  exact PyProof.Rows.callWith_type1 (thn (ha pos pins s σ H _ I h) fun us s1 ⟨vs, H1, I1, r1, q1⟩ => hc pins s1 σ H1 vs us Q I1 r1 q1) he hpl
end
end L2
namespace HT
open PySem PyProof.Rows
theorem eqAt_int (A : Around) (s : Shared) (a : Int) (t : Tok) (c : Int) (u : Tok) : ∃ e, SeqAt.EqAt A s (.int a t) (.int c u) e ∧ (e = true ↔ a = c) :=
  ⟨(a == c), SeqAt.EqAt.int_int a t c u, by simp⟩
section
open PySem.SeqAt
open PySem.AutoSeq1 (wpAny_loadPart')
open PySem.MeetsSeq PySem.MeetsSeq2 PySem.MeetsSeq3
end
section
variable {prog : Program} {w : World} {A : Around} {E : Value → Shared → Prop} {s : Shared}
theorem cat_tup {t b : Addr} {vs ws : List Value} {Q : Value → Shared → Prop} (ht : IsTup s.heap t vs.toArray) (hb : IsTup s.heap b ws.toArray) (hv : vs ≠ [])
    (h1 : ws = [] → Q (.ref t) s) (h2 : ws ≠ [] → Q (.ref s.heap.objs.size) { s with heap := s.heap.push { cls := .type "tuple", data := .seq (vs ++ ws).toArray } })
    (hsz : vs.length + ws.length ≤ sizeLine) : wpAny (model prog w) A (binaryOp .Add (.ref t) (.ref b)) Q E s := by
  obtain ⟨⟨cls, dd, data, sl⟩, ho, hc, n, hd⟩ := id ht
  obtain ⟨⟨cls2, dd2, data2, sl2⟩, ho2, hc2, n2, hd2⟩ := id hb
  simp only at hc hd hc2 hd2
  subst hc hd hc2 hd2
  have e : vs.toArray ++ ws.toArray = (vs ++ ws).toArray := by simp
  by_cases hw : ws = []
  · exact concat_meets ⟨_, ho, rfl⟩ ⟨_, ho2, rfl⟩ noFill_tuple_add seq_tuple_add PySem.F.slot_tuple_add PySem.F.entry_tuple_add (PySem.F.args_tuple_add_2 _ _)
      (tuple_addW1 t b vs.toArray ws.toArray n n2 dd dd2 sl sl2 (by simpa using hv) (by simp [hw])) ⟨ho, ho2, h1 hw⟩
  · refine concat_meets ⟨_, ho, rfl⟩ ⟨_, ho2, rfl⟩ noFill_tuple_add seq_tuple_add PySem.F.slot_tuple_add PySem.F.entry_tuple_add (PySem.F.args_tuple_add_2 _ _)
      (tuple_addW2 t b vs.toArray ws.toArray n n2 dd dd2 sl sl2 (by simpa using hv) (by simpa using hw) (by rw [List.size_toArray, List.size_toArray]; exact hsz)) ⟨ho, ho2, ?_⟩
    rw [e]
    exact h2 hw
def sIx (n d : Nat) : Option Int → Nat
  | none => d
  | some v => if v < 0 then (v + (n : Int)).toNat else min v.toNat n
theorem sIx_none (n d : Nat) : sIx n d none = d := rfl
theorem sIx_nat (n d k : Nat) : sIx n d (some (k : Int)) = min k n := by
  show (if (k : Int) < 0 then ((k : Int) + (n : Int)).toNat else min (k : Int).toNat n) = min k n
  rw [if_neg (by omega), Int.toNat_natCast]
theorem sIx_le (n d : Nat) (hd : d ≤ n) (o : Option Int) : sIx n d o ≤ n := by
  cases o with
  | none => exact hd
  | some v =>
    show (if v < 0 then (v + (n : Int)).toNat else min v.toNat n) ≤ n
    by_cases hv : v < 0
    · rw [if_pos hv]; omega
    · rw [if_neg hv]; exact Nat.min_le_right _ _
theorem clip_eq (v : Int) (n d : Nat) : (if v < 0 then max (v + (n : Int)) 0 else min v (n : Int)) = ((sIx n d (some v) : Nat) : Int) := by
  show (if v < 0 then max (v + (n : Int)) 0 else min v (n : Int)) = (((if v < 0 then (v + (n : Int)).toNat else min v.toNat n) : Nat) : Int)
  by_cases hv : v < 0
  · simp only [if_pos hv]; omega
  · simp only [if_neg hv]; omega
theorem adjust_gen (lo hi : Option Int) (n : Nat) : Builtin.Slice.sliceAdjust lo hi 1 (n : Int) = (((sIx n 0 lo : Nat) : Int), ((sIx n n hi : Nat) : Int)) := by
  have h1 : ¬ ((1 : Int) < 0) := by omega
  unfold Builtin.Slice.sliceAdjust
  simp only [h1, if_false]
  refine Prod.ext ?_ ?_
  · cases lo with
    | none => rfl
    | some v => exact clip_eq v n 0
  · cases hi with
    | none => rfl
    | some v => exact clip_eq v n n
theorem places_gen (i j : Nat) : Builtin.Slice.slicePlaces (i : Int) (j : Int) 1 = j - i := by
  unfold Builtin.Slice.slicePlaces
  have h1 : (1 : Int) > 0 := by omega
  simp only [h1, if_true, Int.ediv_one]
  split <;> omega
theorem slicePart_ {v : Value} {o : Option Int} {Q : Option Int → Shared → Prop} (p : IsPart v o) (h : Q o s) : wpAny (model prog w) A (Builtin.Slice.slicePartIndex v) Q E s := by
  cases p with
  | none => exact slicePart_none h
  | int i t => exact slicePart_int h
theorem sliceApplied_gen {sl : Addr} {vl vu : Value} {lo hi : Option Int} {n : Nat} {Q : Int × Int × Nat → Shared → Prop} (hs : s.heap.IsSliceOf sl vl vu .none) (pl : IsPart vl lo) (pu : IsPart vu hi)
    (h : Q (((sIx n 0 lo : Nat) : Int), 1, sIx n n hi - sIx n 0 lo) s) : wpAny (model prog w) A (Builtin.Slice.sliceApplied (.ref sl) (pure (n : Int))) Q E s := by
  obtain ⟨os, hos, hcs, hds⟩ := id hs
  unfold Builtin.Slice.sliceApplied Builtin.Slice.sliceFields
  refine wpAny_bind (wpAny_bind (wpAny_field hos hds (x := vl) rfl (wpAny_bind (wpAny_field hos hds (x := vu) rfl (wpAny_bind (wpAny_field hos hds (x := .none) rfl (wpAny_pure ?_)))))))
  refine wpAny_bind (slicePart_none ?_)
  show wpAny _ _ (if ((1 : Int) == 0) = true then _ else _) _ _ s
  rw [if_neg (by decide)]
  refine wpAny_bind (slicePart_ pl (wpAny_bind (slicePart_ pu (wpAny_bind (wpAny_pure ?_)))))
  show wpAny _ _ (match Builtin.Slice.sliceAdjust lo hi 1 (n : Int) with | (lo, hi) => pure (lo, (1 : Int), Builtin.Slice.slicePlaces lo hi 1)) _ _ s
  rw [adjust_gen lo hi n]
  show wpAny _ _ (pure (((sIx n 0 lo : Nat) : Int), (1 : Int), Builtin.Slice.slicePlaces ((sIx n 0 lo : Nat) : Int) ((sIx n n hi : Nat) : Int) 1)) _ _ s
  rw [places_gen]
  exact wpAny_pure h
theorem pick_gen (xs : Array Value) (i k : Nat) : ((List.range k).filterMap fun (m : Nat) => xs[((i : Int) + (m : Int) * 1).toNat]?).toArray = ((xs.toList.drop i).take k).toArray := by
  have e : (fun (m : Nat) => xs[((i : Int) + (m : Int) * 1).toNat]?) = fun m => xs[i + m]? := by
    funext m
    have : ((i : Int) + (m : Int) * 1).toNat = i + m := by omega
    rw [this]
  rw [e]
  have := pick_run xs i k
  rw [List.filterMap_map] at this
  have e2 : ((fun x => xs[x]?) ∘ fun x => i + x) = fun m => xs[i + m]? := rfl
  rw [e2] at this
  rw [this]
theorem getItem_tuple_cut {t sl : Addr} {items : Array Value} {vl vu : Value} {lo hi : Option Int} {Q : Value → Shared → Prop} (ht : IsTup s.heap t items) (hs : s.heap.IsSliceOf sl vl vu .none) (pl : IsPart vl lo) (pu : IsPart vu hi)
    (hw : ¬ (sIx items.size 0 lo = 0 ∧ sIx items.size items.size hi = items.size))
    (h : Q (.ref s.heap.objs.size) { s with heap := s.heap.push { cls := .type "tuple", data := .seq ((items.toList.drop (sIx items.size 0 lo)).take (sIx items.size items.size hi - sIx items.size 0 lo)).toArray } })
    (hsz : items.size ≤ sizeLine) : wpAny (model prog w) A (getItem (.ref t) (.ref sl)) Q E s := by
  have htake : sizeOk (.seq ((items.toList.drop (sIx items.size 0 lo)).take (sIx items.size items.size hi - sIx items.size 0 lo)).toArray) := by
    show ((items.toList.drop (sIx items.size 0 lo)).take (sIx items.size items.size hi - sIx items.size 0 lo)).toArray.size ≤ sizeLine
    rw [List.size_toArray, List.length_take, List.length_drop, Array.length_toList]
    omega
  have hj : sIx items.size items.size hi ≤ items.size := sIx_le _ _ (Nat.le_refl _) hi
  obtain ⟨os, hos, hcs, hds⟩ := id hs
  have hTs : s.TypeIs (.ref sl) "slice" := ⟨os, hos, hcs⟩
  unfold getItem
  try with_reducible refine wpAny_holding ?_
  first | refine wpAny_bind (wpAny_pure ?_) | skip
  refine wpAny_bind (wpAny_sequenceKey ht.typeIs (by decide) ?_)
  refine wpAny_bind (wpAny_callSpecial?_slot (name := Str.ofString "__getitem__") ht.typeIs PyProof.Rows.slot_tuple_getitem
    (wpAny_call_entry PyProof.Rows.slot_tuple_getitem ht.typeIs entry_tuple_getitem ?_ (args_tuple_getitem _ _)))
  show wpAny _ _ (Builtin.Tuple.tupleItemsOf (.ref t) >>= _) _ _ s
  refine wpAny_bind (tupleItemsOf_ ht ?_)
  refine wpAny_bind (wpAny_typeOf hTs ?_)
  rw [if_pos (by decide)]
  refine wpAny_bind (sliceApplied_gen hs pl pu ?_)
  have hno : ¬ ((((sIx items.size 0 lo : Nat) : Int) == 0 && (1 : Int) == 1 && (sIx items.size items.size hi - sIx items.size 0 lo) == items.size) = true) := by
    intro q
    rw [Bool.and_eq_true, Bool.and_eq_true] at q
    have q1 : ((sIx items.size 0 lo : Nat) : Int) = 0 := eq_of_beq q.1.1
    have q2 : sIx items.size items.size hi - sIx items.size 0 lo = items.size := eq_of_beq q.2
    exact hw ⟨by omega, by omega⟩
  show wpAny _ _ (if (((sIx items.size 0 lo : Nat) : Int) == 0 && (1 : Int) == 1 && (sIx items.size items.size hi - sIx items.size 0 lo) == items.size) = true then _ else _) _ _ s
  rw [if_neg hno, pick_gen]
  first
    | exact wpAny_bind (m := Builtin.Tuple.tupleExact _) (wpAny_newObj_type (wpAny_pure ⟨_, rfl, wpAny_pure h⟩) htake)
    | exact wpAny_bind (m := Builtin.Tuple.tupleExact _) (wpAny_newObj_type (wpAny_bind (wpAny_pure (wpAny_pure ⟨_, rfl, wpAny_pure h⟩))) htake)
    | exact wpAny_bind (wpAny_bind (m := Builtin.Tuple.tupleExact _) (wpAny_newObj_type (wpAny_pure (wpAny_pure ⟨_, rfl, wpAny_pure h⟩)) htake))
    | exact wpAny_bind (wpAny_bind (m := Builtin.Tuple.tupleExact _) (wpAny_newObj_type (wpAny_pure ⟨_, rfl, wpAny_pure h⟩) htake))
end
end HT
namespace L2
open PySem PySem.Spec PyProof.Rows
abbrev TO := St → Hp → (Option Int → Hp → Prop) → Prop
def PO (X : Cx) (e : Option Expr) (t : TO) : Prop :=
  ∀ (pins : List (Addr × Obj)) (s : Shared) (σ : St) (H : Hp) (Q : Option Int → Hp → Prop), Inv X pins σ H s → t σ H Q →
    wpAny (model X.prog X.w) X.A (evalPart e X.env) (fun u s' => ∃ o H', Inv X pins σ H' s' ∧ IsPart u o ∧ Q o H') X.xe s
def tNoPart : TO := fun _ H Q => Q none H
def tPart (t : TE) : TO := fun σ H Q => t σ H fun x H1 => ∃ i, x = .int i ∧ Q (some i) H1
theorem intsAre_of {ns : List Int} : ∀ {us : List Value}, Vals (ns.map V.int) us → IntsAre us ns := by
  induction ns with
  | nil => intro us r; rw [List.map_nil] at r; cases r; exact .nil
  | cons n ns ih =>
    intro us r
    rw [List.map_cons] at r
    cases r with
    | cons r1 r2 =>
      obtain ⟨t, e⟩ := r1
      subst e
      exact .cons n t (ih r2)
section
variable {X : Cx} {e : Expr} {te : TE} {lo hi : Option Expr} {tl th : TO} {pos p2 : Pos}
theorem po_none : PO X none tNoPart := by
  intro pins s σ H Q I h
  rw [evalPart_none]
  exact wpAny_pure ⟨none, H, I, .none, h⟩
theorem po_some (h : PE X e te) : PO X (some e) (tPart te) := by
  intro pins s σ H Q I hw
  rw [evalPart_some]
  refine thn (h pins s σ H _ I hw) fun u s1 ⟨x, H1, I1, r1, q1⟩ => ?_
  obtain ⟨i, rfl, q⟩ := q1
  obtain ⟨t, rfl⟩ := r1
  exact ⟨some i, H1, I1, .int i t, q⟩
def SlR (X : Cx) (r : V → Option Int → Option Int → Hp → VK → Prop) : Prop :=
  ∀ (pins : List (Addr × Obj)) (s : Shared) (σ : St) (H : Hp) (x : V) (v vl vu : Value) (lo hi : Option Int) (sl : Addr) (Q : VK), Inv X pins σ H s → RelV x v → s.heap.IsSliceOf sl vl vu .none → IsPart vl lo → IsPart vu hi → r x lo hi H Q →
    ∃ T id, typeLookup (.type T) "__getitem__" = pure (some (.builtin id)) ∧ s.TypeIs v T ∧ wpAny (model X.prog X.w) X.A (getItem v (.ref sl)) (EP X pins σ Q) X.xe s
theorem SlR.or {r r' : V → Option Int → Option Int → Hp → VK → Prop} (h : SlR X r) (h' : SlR X r') : SlR X (fun x lo hi H Q => r x lo hi H Q ∨ r' x lo hi H Q) := by
  intro pins s σ H x v vl vu lo hi sl Q I rx hs pl pu q
  rcases q with q | q
  · exact h pins s σ H x v vl vu lo hi sl Q I rx hs pl pu q
  · exact h' pins s σ H x v vl vu lo hi sl Q I rx hs pl pu q
def tSl (r : V → Option Int → Option Int → Hp → VK → Prop) (te : TE) (tl th : TO) : TE := fun σ H Q => te σ H fun x H1 => tl σ H1 fun l H2 => th σ H2 fun u H3 => r x l u H3 Q
theorem pe_slice {r : V → Option Int → Option Int → Hp → VK → Prop} (hr : SlR X r) (he : PE X e te) (hl : PO X lo tl) (hu : PO X hi th) : PE X (.Subscript e (.Slice lo hi none p2) pos) (tSl r te tl th) := by
  intro pins s σ H Q I h
  refine Subscript_ (thn (he pins s σ H _ I h) fun v s1 ⟨x, H1, I1, r1, q1⟩ => ?_)
  refine wpAny_Slice (thn (hl pins s1 σ H1 _ I1 q1) fun vl s2 ⟨l, H2, I2, pl, q2⟩ => thn (hu pins s2 σ H2 _ I2 q2) fun vu s3 ⟨u, H3, I3, pu, q3⟩ => ?_)
  rw [evalPart_none]
  refine wpAny_pure ?_
  have I4 : Inv X pins σ H3 { s3 with heap := s3.heap.push { cls := .type "slice", data := .fields #[vl, vu, .none] } } := I3.kept (t' := s3.toks) fun b ob q => Heap.get?_push_of_some _ q
  obtain ⟨T, id, hT, ht, hg⟩ := hr pins { s3 with heap := s3.heap.push { cls := .type "slice", data := .fields #[vl, vu, .none] } } σ H3 x v vl vu l u s3.heap.objs.size Q I4 r1 (Heap.IsSliceOf.new ..) pl pu q3
  show wpAny (model X.prog X.w) X.A (subscriptTail e (.Slice lo hi none p2) v (.ref s3.heap.objs.size)) (EP X pins σ Q) X.xe { s3 with heap := s3.heap.push { cls := .type "slice", data := .fields #[vl, vu, .none] } }
  exact tail_any (ops := [.ref s3.heap.objs.size, v]) ht hT hg (by with_unfolding_all rfl)
def cutV (xs : List V) (lo hi : Option Int) : List V := (xs.drop (HT.sIx xs.length 0 lo)).take (HT.sIx xs.length xs.length hi - HT.sIx xs.length 0 lo)
theorem cutV_length (xs : List V) (lo hi : Option Int) : (cutV xs lo hi).length ≤ xs.length := by
  unfold cutV
  rw [List.length_take, List.length_drop]
  omega
def rSlT (K : PySem.W.Frag) : V → Option Int → Option Int → Hp → VK → Prop := fun x lo hi H Q => ∃ a xs, x = .ref a ∧ SqT K H a xs ∧
  ¬ (HT.sIx xs.length 0 lo = 0 ∧ HT.sIx xs.length xs.length hi = xs.length) ∧ ∀ p, H p = none → Q (.ref p) (upd H p (.tup (cutV xs lo hi)))
theorem sl_tup : SlR X (rSlT X.K) := by
  intro pins s σ H x v vl vu lo hi sl Q I rx hs pl pu h
  obtain ⟨a, xs, rfl, hx, hw, q⟩ := h
  cases rx
  obtain ⟨its, r, ht, hz⟩ := I.tuple hx
  have hlen : its.toArray.size = xs.length := by rw [List.size_toArray]; exact r.length.symm
  refine ⟨"tuple", _, PyProof.Rows.slot_tuple_getitem.lookup, ht.typeIs, ?_⟩
  refine HT.getItem_tuple_cut ht hs pl pu (by rw [hlen]; exact hw) ?_ (by rw [hlen]; exact hz)
  rw [hlen]
  refine ⟨.ref s.heap.objs.size, _, I.laid (t' := s.toks) (o := .tup (cutV xs lo hi)) (fun b ob q => Heap.get?_push_of_some _ q) (Nat.le_refl _) ?_, rfl, q _ (I.hok.fresh (Nat.le_refl _))⟩
  exact ⟨Nat.le_trans (cutV_length xs lo hi) hz, _, (r.drop (HT.sIx xs.length 0 lo)).take (HT.sIx xs.length xs.length hi - HT.sIx xs.length 0 lo), IsTup.new _ _⟩
def rCatT (K : PySem.W.Frag) : R2 := fun x y H Q => ∃ a b xs ys, x = .ref a ∧ y = .ref b ∧ SqT K H a xs ∧ SqT K H b ys ∧ xs ≠ [] ∧ xs.length + ys.length ≤ sizeLine ∧
  (ys = [] → Q (.ref a) H) ∧ (ys ≠ [] → ∀ p, H p = none → Q (.ref p) (upd H p (.tup (xs ++ ys))))
theorem Vals.nil_iff {xs : List V} {us : List Value} (r : Vals xs us) : us = [] ↔ xs = [] := by
  cases r with
  | nil => simp
  | cons _ _ => simp
theorem op_catT : OpR X (binaryOp .Add) (rCatT X.K) := by
  intro pins s σ H x y v u Q I rx ry h
  obtain ⟨a, b, xs, ys, rfl, rfl, ha, hb, hx, hz, q1, q2⟩ := h
  cases rx
  cases ry
  obtain ⟨its, r1, p1, _⟩ := I.tuple ha
  obtain ⟨its2, r2, p2, _⟩ := I.tuple hb
  refine HT.cat_tup p1 p2 (fun z => hx (r1.nil_iff.mp z)) (fun z => ⟨.ref a, H, I, rfl, q1 (r2.nil_iff.mp z)⟩) (fun z => ?_) (by rw [← r1.length, ← r2.length]; exact hz)
  refine ⟨.ref s.heap.objs.size, _, I.laid (t' := s.toks) (o := .tup (xs ++ ys)) (fun b ob q => Heap.get?_push_of_some _ q) (Nat.le_refl _) ?_, rfl, q2 (fun w => z (r2.nil_iff.mpr w)) _ (I.hok.fresh (Nat.le_refl _))⟩
  exact ⟨by rw [List.length_append]; exact hz, _, r1.append r2, IsTup.new _ _⟩
end
end L2
namespace L2
open PySem PySem.Spec PyProof.Rows
def ixN (n : Nat) (i : Int) : Option Nat := if 0 ≤ i then (if i < n then some i.toNat else none) else if -(n : Int) ≤ i then some (i + n).toNat else none
def atI {α : Type} (xs : List α) (i : Int) : Option α := (ixN xs.length i).bind fun j => xs[j]?
theorem ixN_seq {n : Nat} {i : Int} {j : Nat} (h : ixN n i = some j) : seqIndex? i n = some j ∧ j < n ∧ -(n : Int) ≤ i ∧ i < n := by
  unfold ixN at h
  by_cases h0 : 0 ≤ i
  · rw [if_pos h0] at h
    by_cases h1 : i < n
    · rw [if_pos h1] at h
      have e : i.toNat = j := Option.some.inj h
      exact ⟨by rw [seqIndex_of h0 h1, e], by omega, by omega, h1⟩
    · rw [if_neg h1] at h; cases h
  · rw [if_neg h0] at h
    by_cases h1 : -(n : Int) ≤ i
    · rw [if_pos h1] at h
      have e : (i + n).toNat = j := Option.some.inj h
      exact ⟨by rw [seqIndex_neg (by omega) h1, e], by omega, h1, by omega⟩
    · rw [if_neg h1] at h; cases h
theorem atI_get {α : Type} {xs : List α} {i : Int} {v : α} (h : atI xs i = some v) : ∃ j, seqIndex? i xs.length = some j ∧ xs[j]? = some v ∧ j < xs.length ∧ -(xs.length : Int) ≤ i ∧ i < xs.length := by
  unfold atI at h
  cases e : ixN xs.length i with
  | none => rw [e] at h; cases h
  | some j =>
    rw [e] at h
    obtain ⟨h1, h2, h3, h4⟩ := ixN_seq e
    exact ⟨j, h1, h, h2, h3, h4⟩
theorem atI_nat {α : Type} {xs : List α} {j : Nat} {v : α} (h : xs[j]? = some v) : atI xs (j : Int) = some v := by
  have hj : j < xs.length := (List.getElem?_eq_some_iff.mp h).1
  have e : ixN xs.length (j : Int) = some j := by
    unfold ixN
    rw [if_pos (by omega), if_pos (by omega)]; simp
  unfold atI; rw [e]; exact h
def PlainIx (b : Expr) : Prop := ∀ o i, subscripted b false o i = operate [o, i] (getItem o i)
def IxR (X : Cx) (r : R2) : Prop :=
  ∀ (value slice : Expr) (pins : List (Addr × Obj)) (s : Shared) (σ : St) (H : Hp) (x y : V) (v u : Value) (Q : VK), Inv X pins σ H s → RelV x v → RelV y u → r x y H Q →
    subscripted slice false v u = operate [v, u] (getItem v u) → wpAny (model X.prog X.w) X.A (subscriptTail value slice v u) (EP X pins σ Q) X.xe s
def MtR (X : Cx) (id : String) (r : V → List V → Hp → VK → Prop) : Prop :=
  ∀ (pins : List (Addr × Obj)) (s : Shared) (σ : St) (H : Hp) (x : V) (xs : List V) (v : Value) (us : List Value) (Q : VK), Inv X pins σ H s → RelV x v → Vals xs us → r x xs H Q →
    wpAny (model X.prog X.w) X.A (call (.builtin id) (v :: us)) (EP X pins σ Q) X.xe s
section
variable {X : Cx} {a b : Expr} {ta tb : TE} {pos : Pos}
theorem IxR.or {r r' : R2} (h : IxR X r) (h' : IxR X r') : IxR X (fun x y H Q => r x y H Q ∨ r' x y H Q) := by
  intro value slice pins s σ H x y v u Q I rx ry q hs
  rcases q with q | q
  · exact h value slice pins s σ H x y v u Q I rx ry q hs
  · exact h' value slice pins s σ H x y v u Q I rx ry q hs
theorem MtR.or {id : String} {r r' : V → List V → Hp → VK → Prop} (h : MtR X id r) (h' : MtR X id r') : MtR X id (fun x xs H Q => r x xs H Q ∨ r' x xs H Q) := by
  intro pins s σ H x xs v us Q I rx rs q
  rcases q with q | q
  · exact h pins s σ H x xs v us Q I rx rs q
  · exact h' pins s σ H x xs v us Q I rx rs q
theorem pe_ix {r : R2} (hr : IxR X r) (ha : PE X a ta) (hb : PE X b tb) (hs : PlainIx b) : PE X (.Subscript a b pos) (tOp r ta tb) := by
  intro pins s σ H Q I h
  exact Subscript_ (binT ha hb I h fun v u s2 x y H2 I2 rx ry q => hr a b pins s2 σ H2 x y v u Q I2 rx ry q (hs _ _))
def rIxL (K : PySem.W.Frag) : R2 := fun x y H Q => ∃ p xs i v, x = .ref p ∧ y = .int i ∧ SqL K H p xs ∧ atI xs i = some v ∧ Q v H
def rIxT (K : PySem.W.Frag) : R2 := fun x y H Q => ∃ p xs i v, x = .ref p ∧ y = .int i ∧ SqT K H p xs ∧ atI xs i = some v ∧ Q v H
def rIxS : R2 := fun x y H Q => ∃ z i c, x = .str z ∧ y = .int i ∧ z.length ≤ sizeLine ∧ atI z.cps.toList i = some c ∧ Q (.str ⟨#[c]⟩) H
theorem ix_list : IxR X (rIxL X.K) := by
  intro value slice pins s σ H x y v u Q I rx ry h hs
  obtain ⟨p, xs, i, z, rfl, rfl, hq, he, q⟩ := h
  cases rx
  obtain ⟨t, rfl⟩ := ry
  obtain ⟨its, r, pl, hz⟩ := I.list hq
  obtain ⟨j, h1, h2, h3, h4, h5⟩ := atI_get he
  obtain ⟨w, ew, rw'⟩ := r.get h2
  have hl := r.length
  have hn := line63
  have fin : EP X pins σ Q w s := ⟨z, H, I, rw', q⟩
  by_cases h0 : 0 ≤ i
  · have hj : i.toNat = j := by
      rw [seqIndex_of h0 h5] at h1
      exact Option.some.inj h1
    exact item_listR pl.isList h0 (by omega) (by rw [hj]; simpa using ew) fin hs
  · have hj : (i + (its.toArray.size : Int)).toNat = j := by
      rw [seqIndex_neg (by omega) h4] at h1
      rw [List.size_toArray, ← hl]
      exact Option.some.inj h1
    exact subscriptTail_builtinR (x := w) pl.isList.typeIs slot_list_getitem.lookup
      (wpAny_getItem_list_neg (Q := fun r s' => r = w ∧ EP X pins σ Q r s') pl.isList (by omega) (by rw [List.size_toArray] <;> omega) (by omega) (by rw [hj]; simpa using ew) ⟨rfl, fin⟩) hs
theorem ix_tup : IxR X (rIxT X.K) := by
  intro value slice pins s σ H x y v u Q I rx ry h hs
  obtain ⟨p, xs, i, z, rfl, rfl, hq, he, q⟩ := h
  cases rx
  obtain ⟨t, rfl⟩ := ry
  obtain ⟨its, r, pl, hz⟩ := I.tuple hq
  obtain ⟨j, h1, h2, h3, h4, h5⟩ := atI_get he
  obtain ⟨w, ew, rw'⟩ := r.get h2
  have hl := r.length
  have hn := line63
  have fin : EP X pins σ Q w s := ⟨z, H, I, rw', q⟩
  exact subscriptTail_builtinR (x := w) pl.typeIs slot_tuple_getitem.lookup
    (getItem_tuple (j := j) (Q := fun r s' => r = w ∧ EP X pins σ Q r s') pl (by omega) (by omega) (by rw [List.size_toArray, ← hl]; exact h1) (by simpa using ew) ⟨rfl, fin⟩) hs
theorem ix_str : IxR X rIxS := by
  intro value slice pins s σ H x y v u Q I rx ry h hs
  obtain ⟨z, i, c, rfl, rfl, hz, he, q⟩ := h
  obtain ⟨t, rfl⟩ := rx
  obtain ⟨t', rfl⟩ := ry
  obtain ⟨j, h1, h2, h3, h4, h5⟩ := atI_get he
  have hl : z.cps.toList.length = z.length := by simp [Str.length]
  rw [hl] at h1 h4 h5
  have hn := line63
  exact tail_any (typeIs_str s z t) slot_str_getitem.lookup (getItem_str (c := c) (by
    have e1 : decide (i < -(2 ^ 63 : Int)) = false := decide_eq_false (by omega)
    have e2 : decide (i ≥ 2 ^ 63) = false := decide_eq_false (by omega)
    rw [e1, e2, Bool.or_false]) (by rw [h1]; simpa using h2) ⟨.str ⟨#[c]⟩, H, I.tok _, ⟨_, rfl⟩, q⟩) hs
def rIx (K : PySem.W.Frag) : R2 := fun x y H Q => rIxL K x y H Q ∨ rIxT K x y H Q ∨ rIxS x y H Q
theorem ix_seq : IxR X (rIx X.K) := ix_list.or (ix_tup.or ix_str)
theorem mapSeq_set (its : List Value) (n j : Nat) (u : Value) : Obj.mapSeq (·.setIfInBounds j u) { cls := .type "list", data := .seq its.toArray n } = { cls := .type "list", data := .seq (its.set j u).toArray n } := by
  simp [Obj.mapSeq]
theorem Inv.lst {pins : List (Addr × Obj)} {σ : St} {H : Hp} {s : Shared} {p : Addr} {xs : List V} (I : Inv X pins σ H s) (h : H p = some (.lst xs)) :
    ∃ (its : List Value) (n : Nat), Vals xs its ∧ s.heap.get? p = some { cls := .type "list", data := .seq its.toArray n } ∧ xs.length ≤ sizeLine := by
  obtain ⟨z, its, n, r, e⟩ := I.hok p _ h
  exact ⟨its, n, r, e, z⟩
theorem Inv.lstUpd {pins : List (Addr × Obj)} {σ : St} {H : Hp} {s : Shared} {p : Addr} {xs ys : List V} {its its' : List Value} {n n' : Nat} {f : Obj → Obj} (I : Inv X pins σ H s) (h : H p = some (.lst xs))
    (ho : s.heap.get? p = some { cls := .type "list", data := .seq its.toArray n }) (hf : f { cls := .type "list", data := .seq its.toArray n } = { cls := .type "list", data := .seq its'.toArray n' }) (r : Vals ys its') (hz : ys.length ≤ sizeLine) (t : Nat) :
    Inv X pins σ (upd H p (.lst ys)) { s with heap := s.heap.update p f, toks := t } := by
  have e : (s.heap.update p f).get? p = some { cls := .type "list", data := .seq its'.toArray n' } := by
    rw [Heap.get?_update_self f ho (by rw [hf] <;> rfl), hf]
  refine I.write (x := p) (e := p) (by rw [h]; trivial) (.inl rfl) (fun b u hb q => (Heap.get?_update_other _ _ (Ne.symm hb)).trans q) ⟨_, e⟩ ?_
  exact ⟨hz, its', n', r, e⟩
def rSetL : V → V → V → Hp → (Hp → Prop) → Prop := fun o i v H Q => ∃ p xs k j, o = .ref p ∧ i = .int k ∧ H p = some (.lst xs) ∧ ixN xs.length k = some j ∧ Q (upd H p (.lst (xs.set j v)))
theorem set_list : PSet X rSetL := by
  intro pins s σ H o i v ov iv u Q I ro ri rv h
  obtain ⟨p, xs, k, j, rfl, rfl, hp, hj, q⟩ := h
  cases ro
  obtain ⟨t, rfl⟩ := ri
  obtain ⟨its, n, r, ho, hz⟩ := I.lst hp
  obtain ⟨h1, h2, h3, h4⟩ := ixN_seq hj
  have hl := r.length
  have hn := line63
  have I' : Inv X pins σ (upd H p (.lst (xs.set j v))) { s with heap := s.heap.update p (Obj.mapSeq (·.setIfInBounds j u)) } :=
    I.lstUpd hp ho (mapSeq_set its n j u) (r.set rv j) (by rw [List.length_set]; exact hz) s.toks
  by_cases h0 : 0 ≤ k
  · have hk : k.toNat = j := by
      rw [seqIndex_of h0 h4] at h1
      exact Option.some.inj h1
    exact PySem.W.ki_setAt ho h0 (by omega) (by rw [List.size_toArray, ← hl]; exact h4) (by rw [hk]; exact ⟨_, I', q⟩)
  · have hk : (k + (its.toArray.size : Int)).toNat = j := by
      rw [seqIndex_neg (by omega) h3] at h1
      rw [List.size_toArray, ← hl]
      exact Option.some.inj h1
    exact PySem.W.ki_setBack ho (by omega) (by rw [List.size_toArray, ← hl]; exact h3) (by omega) (by rw [hk]; exact ⟨_, I', q⟩)
theorem slice_bounds (lo hi : Option Int) (n : Nat) : (sliceBounds lo hi none n).1 = ((HT.sIx n 0 lo : Nat) : Int) ∧ (sliceBounds lo hi none n).2.1 = ((HT.sIx n n hi : Nat) : Int) ∧ (sliceBounds lo hi none n).2.2 = 1 := by
  refine ⟨?_, ?_, rfl⟩
  · cases lo with
    | none => simp [sliceBounds, HT.sIx]
    | some i =>
      simp only [sliceBounds, HT.sIx, Option.getD_none, show (1 : Int) > 0 by decide, if_true]
      by_cases h : i < 0
      · simp only [h, if_true] <;> omega
      · simp only [h, if_false] <;> omega
  · cases hi with
    | none => simp [sliceBounds, HT.sIx]
    | some i =>
      simp only [sliceBounds, HT.sIx, Option.getD_none, show (1 : Int) > 0 by decide, if_true]
      by_cases h : i < 0
      · simp only [h, if_true] <;> omega
      · simp only [h, if_false] <;> omega
theorem slicePick_cut (its : List Value) (lo hi : Option Int) : slicePick its.toArray lo hi none = ((its.drop (HT.sIx its.length 0 lo)).take (HT.sIx its.length its.length hi - HT.sIx its.length 0 lo)).toArray := by
  obtain ⟨h1, h2, h3⟩ := slice_bounds lo hi its.toArray.size
  unfold slicePick
  rw [h1, h2, h3]
  simp only [sliceRange_one, pick_run, List.size_toArray] <;> rfl
def rSlL (K : PySem.W.Frag) : V → Option Int → Option Int → Hp → VK → Prop := fun x lo hi H Q => ∃ a xs, x = .ref a ∧ SqL K H a xs ∧ ∀ p, H p = none → Q (.ref p) (upd H p (.lst (cutV xs lo hi)))
theorem sl_list : SlR X (rSlL X.K) := by
  intro pins s σ H x v vl vu lo hi sl Q I rx hs pl pu h
  obtain ⟨a, xs, rfl, hx, q⟩ := h
  cases rx
  obtain ⟨its, r, ht, hz⟩ := I.list hx
  have hlen := r.length
  refine ⟨"list", _, slot_list_getitem.lookup, ht.isList.typeIs, ?_⟩
  refine wpAny_getItem_list_slice ht.isList hs pl pu .none (by simp) ?_ (by rw [List.size_toArray] <;> omega)
  rw [slicePick_cut, ← hlen]
  refine ⟨.ref s.heap.objs.size, _, I.laid (t' := s.toks) (o := .lst (cutV xs lo hi)) (fun b ob q => Heap.get?_push_of_some _ q) (Nat.le_refl _) ?_, rfl, q _ (I.hok.fresh (Nat.le_refl _))⟩
  exact ⟨Nat.le_trans (cutV_length xs lo hi) hz, _, 0, (r.drop (HT.sIx xs.length 0 lo)).take (HT.sIx xs.length xs.length hi - HT.sIx xs.length 0 lo), Heap.get?_push_size _ rfl⟩
def flatV : V → Bool
  | .non => true
  | .bl _ => true
  | .int _ => true
  | .str _ => true
  | _ => false
def eqV : V → V → Bool
  | .non, .non => true
  | .bl a, .bl b => a == b
  | .bl a, .int b => (if a then 1 else 0) == b
  | .int a, .bl b => a == (if b then 1 else 0)
  | .int a, .int b => a == b
  | .str a, .str b => a == b
  | _, _ => false
theorem eqAt_V {A : Around} {s : Shared} {y x : V} {u v : Value} (ry : RelV y u) (rx : RelV x v) (fy : flatV y = true) (fx : flatV x = true) : SeqAt.EqAt A s u v (eqV y x) := by
  cases y with
  | non =>
    cases ry
    cases x with
    | non => cases rx; exact SeqAt.EqAt.same _
    | bl b => cases rx; exact SeqAt.EqAt.none_bool b
    | int b => obtain ⟨t, rfl⟩ := rx; exact SeqAt.EqAt.none_int b t
    | str b => obtain ⟨t, rfl⟩ := rx; exact SeqAt.EqAt.none_str b t
    | _ => exact absurd (show false = true from fx) Bool.false_ne_true
  | bl a =>
    cases ry
    cases x with
    | non => cases rx; exact SeqAt.EqAt.bool_none a
    | bl b => cases rx; exact SeqAt.EqAt.bool_bool a b
    | int b => obtain ⟨t, rfl⟩ := rx; exact SeqAt.EqAt.bool_int a b t
    | str b => obtain ⟨t, rfl⟩ := rx; exact SeqAt.EqAt.bool_str a b t
    | _ => exact absurd (show false = true from fx) Bool.false_ne_true
  | int a =>
    obtain ⟨t', rfl⟩ := ry
    cases x with
    | non => cases rx; exact SeqAt.EqAt.int_none a t'
    | bl b => cases rx; exact SeqAt.EqAt.int_bool a t' b
    | int b => obtain ⟨t, rfl⟩ := rx; exact SeqAt.EqAt.int_int a t' b t
    | str b => obtain ⟨t, rfl⟩ := rx; exact SeqAt.EqAt.int_str a t' b t
    | _ => exact absurd (show false = true from fx) Bool.false_ne_true
  | str a =>
    obtain ⟨t', rfl⟩ := ry
    cases x with
    | non => cases rx; exact SeqAt.EqAt.str_none a t'
    | bl b => cases rx; exact SeqAt.EqAt.str_bool a t' b
    | int b => obtain ⟨t, rfl⟩ := rx; exact SeqAt.EqAt.str_int a t' b t
    | str b => obtain ⟨t, rfl⟩ := rx; exact SeqAt.EqAt.str_str a t' b t
    | _ => exact absurd (show false = true from fx) Bool.false_ne_true
  | _ => exact absurd (show false = true from fy) Bool.false_ne_true
def eqU (x : V) (u : Value) : Bool := match u with
  | .none => eqV .non x
  | .bool b => eqV (.bl b) x
  | .int i _ => eqV (.int i) x
  | .str z _ => eqV (.str z) x
  | _ => false
theorem eqU_of {x y : V} {u : Value} (r : RelV y u) (f : flatV y = true) : eqU x u = eqV y x := by
  cases y with
  | non => cases r; rfl
  | bl b => cases r; rfl
  | int i => obtain ⟨t, rfl⟩ := r; rfl
  | str z => obtain ⟨t, rfl⟩ := r; rfl
  | _ => exact absurd (show false = true from f) Bool.false_ne_true
theorem any_eqU {x : V} : ∀ {xs : List V} {us : List Value}, Vals xs us → xs.all flatV = true → us.any (eqU x) = xs.any fun y => eqV y x
  | _, _, .nil, _ => rfl
  | y :: xs, u :: us, .cons r t, f => by
    rw [List.all_cons, Bool.and_eq_true] at f
    rw [List.any_cons, List.any_cons, eqU_of r f.1, any_eqU t f.2]
theorem mem_eqAt {A : Around} {s : Shared} {x : V} {v : Value} (rx : RelV x v) (fx : flatV x = true) : ∀ {xs : List V} {us : List Value}, Vals xs us → xs.all flatV = true → ∀ u ∈ us, SeqAt.EqAt A s u v (eqU x u)
  | _, _, .nil, _ => fun u hu => by cases hu
  | y :: xs, u :: us, .cons r t, f => fun u' hu => by
    rw [List.all_cons, Bool.and_eq_true] at f
    rcases List.mem_cons.mp hu with rfl | hu
    · rw [eqU_of r f.1]; exact eqAt_V r rx f.1 fx
    · exact mem_eqAt rx fx t f.2 u' hu
def inV (x : V) (xs : List V) : Bool := xs.any fun y => eqV y x
def rIn (K : PySem.W.Frag) (neg : Bool) : R2 := fun x y H Q => ∃ p xs, y = .ref p ∧ (SqL K H p xs ∨ SqT K H p xs) ∧ flatV x = true ∧ xs.all flatV = true ∧ Q (.bl (if neg then !inV x xs else inV x xs)) H
theorem op_in_seq : OpR X (compareOp .In) (rIn X.K false) := by
  intro pins s σ H x y v u Q I rx ry h
  obtain ⟨p, xs, rfl, hq, fx, fs, q⟩ := h
  cases ry
  rcases hq with hq | hq
  · obtain ⟨its, r, pl, hz⟩ := I.list hq
    refine SeqAt.in_listAt (eqU x) pl.isList (fun w hw => mem_eqAt rx fx r fs w (by simpa using hw)) ⟨.bl _, H, I, rfl, ?_⟩
    rw [show its.toArray.any (eqU x) = its.any (eqU x) by simp, any_eqU r fs]
    exact q
  · obtain ⟨its, r, pl, hz⟩ := I.tuple hq
    refine SeqAt.in_tupleAt (eqU x) pl (fun w hw => mem_eqAt rx fx r fs w (by simpa using hw)) ⟨.bl _, H, I, rfl, ?_⟩
    rw [show its.toArray.any (eqU x) = its.any (eqU x) by simp, any_eqU r fs]
    exact q
theorem call_len_seq : CallR X (.builtin "len") (fun xs H Q => ∃ p ys, xs = [.ref p] ∧ (SqL X.K H p ys ∨ SqT X.K H p ys) ∧ Q (.int ys.length) H) := by
  intro pins s σ H xs us Q I r h
  obtain ⟨p, ys, rfl, hq, q⟩ := h
  obtain ⟨u, rfl, rx⟩ := vals1 r
  cases rx
  have hn := line63
  rcases hq with hq | hq
  · obtain ⟨its, r', pl, hz⟩ := I.list hq
    have hlen := r'.length
    exact Calls.call_len_list pl.isList (by simp only [List.size_toArray] <;> omega) ⟨.int ys.length, H, I.tok _, ⟨s.toks + 1, by rw [List.size_toArray, hlen]⟩, q⟩
  · obtain ⟨its, r', pl, hz⟩ := I.tuple hq
    have hlen := r'.length
    exact len_tuple pl (by simp only [List.size_toArray] <;> omega) ⟨.int ys.length, H, I.tok _, ⟨s.toks + 1, by rw [List.size_toArray, hlen]⟩, q⟩
theorem CallR.or {f : Value} {r r' : List V → Hp → VK → Prop} (h : CallR X f r) (h' : CallR X f r') : CallR X f (fun xs H Q => r xs H Q ∨ r' xs H Q) := by
  intro pins s σ H xs us Q I rs q
  rcases q with q | q
  · exact h pins s σ H xs us Q I rs q
  · exact h' pins s σ H xs us Q I rs q
def tyV (K : PySem.W.Frag) (T : String) (x : V) (H : Hp) : Prop := match x with
  | .str _ => T = "str"
  | .int _ => T = "int"
  | .ref p => (T = "list" ∧ ∃ xs, SqL K H p xs) ∨ (T = "tuple" ∧ ∃ o, K.lookup p = some o ∧ o.cls = .type "tuple" ∧ o.dict = none) ∨
      (T = "dict" ∧ ((∃ kvs, H p = some (.dK kvs)) ∨ ∃ kvs, H p = some (.dT kvs))) ∨ (T = "set" ∧ ∃ S n, H p = some (.set S n))
  | _ => False
theorem tyV_is {pins : List (Addr × Obj)} {σ : St} {H : Hp} {s : Shared} {T : String} {x : V} {v : Value} (I : Inv X pins σ H s) (r : RelV x v) (ty : tyV X.K T x H) :
    s.TypeIs v T ∧ ∀ a, v = .ref a → ∃ ob, s.heap.get? a = some ob ∧ ob.dict = none := by
  cases x with
  | str z =>
    obtain ⟨t, rfl⟩ := r
    cases (show T = "str" from ty)
    exact ⟨typeIs_str s z t, fun _ e => nomatch e⟩
  | int i =>
    obtain ⟨t, rfl⟩ := r
    cases (show T = "int" from ty)
    exact ⟨typeIs_int s i t, fun _ e => nomatch e⟩
  | ref p =>
    cases r
    rcases ty with ⟨rfl, xs, hq⟩ | ⟨rfl, o, hk, hc, hd⟩ | ⟨rfl, hk⟩ | ⟨rfl, S, n, hk⟩
    · obtain ⟨its, _, pl, _⟩ := I.list hq
      refine ⟨pl.isList.typeIs, fun a e => ?_⟩
      cases e
      obtain ⟨o, n, e, c, hd, _⟩ := pl
      exact ⟨o, e, hd⟩
    · refine ⟨⟨o, I.kIn p o hk, hc⟩, fun a e => ?_⟩
      cases e
      exact ⟨o, I.kIn _ o hk, hd⟩
    · have z : ∃ o, s.heap.get? p = some o ∧ o.ExactDict := by
        rcases hk with ⟨kvs, hk⟩ | ⟨kvs, hk⟩
        · obtain ⟨_, _, _, _, o, _, _, e, ex, _⟩ := I.hok p _ hk
          exact ⟨o, e, ex⟩
        · obtain ⟨_, _, _, _, o, _, _, e, ex, _⟩ := I.hok p _ hk
          exact ⟨o, e, ex⟩
      obtain ⟨o, e, ex⟩ := z
      refine ⟨⟨o, e, ex.1⟩, fun a e2 => ?_⟩
      cases e2
      exact ⟨o, e, ex.2.1⟩
    · obtain ⟨o, _, _, _, e, ex, _⟩ := I.hok p _ hk
      refine ⟨⟨o, e, ex.1⟩, fun a e2 => ?_⟩
      cases e2
      exact ⟨o, e, ex.2.1⟩
  | _ => exact False.elim ty
def tBM (K : PySem.W.Frag) (T : String) (r : V → List V → Hp → VK → Prop) (to : TE) (t : TA) : TE := fun σ H Q => to σ H fun x H1 => tyV K T x H1 ∧ t σ H1 fun xs H2 => r x xs H2 Q
variable {o e : Expr} {es : List Expr} {to : TE} {t : TA} {name : Str} {apos cpos : Pos} {T id : String} {r : V → List V → Hp → VK → Prop}
theorem pe_bm (pa : PlainAttrs T) (slot : Slot T name id) (hty : typeOf (.builtin id) = pure (.type "method_descriptor")) (hm : MtR X id r) (ho : PE X o to) (ha : PA X (e :: es) t)
    (hbase : attributeBase o name X.env (eval o X.env) = eval o X.env := by rfl)
    (hfew : ((backTo cpos (starEach (e :: es) X.env)).all (fun x => !x.1) && (backToKw cpos (keywordEach [] X.env)).all (fun x => x.1.isSome)
      && decide ((e :: es).length + ([] : List Keyword).length + (if ([] : List Keyword).isEmpty then 0 else 1) < 30)) = true := by rfl)
    (hline : (apos.endLine == cpos.line) = true := by rfl) (hs : starEach (e :: es) X.env = (false, eval e X.env) :: starEach es X.env := by rfl) (hplain : (backTo cpos (starEach es X.env)).any (·.1) = false := by rfl) :
    PE X (.Call (.Attribute o name apos) (e :: es) [] cpos) (tBM X.K T r to t) := by
  intro pins s σ H Q I h
  refine wpAny_Call_method_late hbase hfew hline rfl (thn (ho pins s σ H _ I h) fun v s1 ⟨x, H1, I1, r1, ty, q1⟩ => ?_)
  obtain ⟨h1, h2⟩ := tyV_is I1 r1 ty
  refine ⟨T, id, pa, slot, hty, h1, h2, ?_⟩
  have hA := ha cpos pins s1 σ H1 _ I1 q1
  rw [hs] at hA ⊢
  refine Calls.callWith_builtin (by show (false || (backTo cpos (starEach es X.env)).any (·.1)) = false; rw [hplain] <;> rfl) (Calls.evalArgs_plain ?_)
  exact thn hA fun us s2 ⟨vs, H2, I2, r2, q2⟩ => hm pins s2 σ H2 x vs v us Q I2 r1 r2 q2
end
end L2
namespace L2
open PySem PySem.Spec PyProof.Rows
def MtM (X : Cx) (id : String) (r : V → List V → Hp → VK → Prop) : Prop :=
  ∀ (pins : List (Addr × Obj)) (s : Shared) (σ : St) (H : Hp) (x : V) (xs : List V) (v : Value) (us : List Value) (Q : VK), Inv X pins σ H s → RelV x v → Vals xs us → r x xs H Q →
    wpAny (model X.prog X.w) X.A (call (.builtin id) (v :: us)) (EP X pins σ Q) X.xe s
theorem Vals.one : ∀ {x : V} {us : List Value}, Vals [x] us → ∃ u, us = [u] ∧ RelV x u
  | _, _, .cons r .nil => ⟨_, rfl, r⟩
theorem Vals.zero : ∀ {us : List Value}, Vals [] us → us = []
  | _, .nil => rfl
theorem Vals.reverse {xs : List V} {us : List Value} (h : Vals xs us) : Vals xs.reverse us.reverse := by
  induction h with
  | nil => exact .nil
  | cons r t ih => rw [List.reverse_cons, List.reverse_cons]; exact Vals.append ih (.cons r .nil)
theorem Vals.rep {xs : List V} {us : List Value} (h : Vals xs us) : ∀ k : Nat, Vals (List.replicate k xs).flatten (List.replicate k us).flatten
  | 0 => .nil
  | k + 1 => by
    rw [List.replicate_succ, List.replicate_succ, List.flatten_cons, List.flatten_cons]
    exact Vals.append h (Vals.rep h k)
theorem foldl_rep (its : List Value) : ∀ (k : Nat) (acc : List Value),
    List.foldl (fun x1 x2 => x1 ++ x2) acc.toArray (List.replicate k its.toArray) = (acc ++ (List.replicate k its).flatten).toArray
  | 0, acc => by simp
  | k + 1, acc => by
    have e : acc.toArray ++ its.toArray = (acc ++ its).toArray := by simp
    have e2 : (acc ++ its) ++ (List.replicate k its).flatten = acc ++ (List.replicate (k + 1) its).flatten := by
      rw [List.replicate_succ, List.flatten_cons, List.append_assoc]
    rw [← e2, ← foldl_rep its k (acc ++ its), ← e, List.replicate_succ, List.foldl_cons]
section
variable {X : Cx} {pins : List (Addr × Obj)} {σ : St} {H : Hp} {s : Shared} {l b : Addr} {xs ys zs : List V}
theorem Inv.lset {its its' : List Value} {n : Nat} {f : Array Value → Array Value} {t' : Nat} (I : Inv X pins σ H s) (hH : H l = some (.lst xs))
    (e : s.heap.get? l = some { cls := .type "list", data := .seq its.toArray n }) (hf : f its.toArray = its'.toArray) (hv : Vals ys its') (hz : ys.length ≤ sizeLine) :
    Inv X pins σ (upd H l (.lst ys)) { s with heap := s.heap.update l (Obj.mapSeq f), toks := t' } := by
  have q := PySem.IsL.update e f
  rw [hf] at q
  refine I.write (x := l) (e := l) (by rw [hH]; exact trivial) (.inl rfl) (fun b' u hb hu => (Heap.get?_update_other s.heap (Obj.mapSeq f) (Ne.symm hb)).trans hu) ⟨_, q⟩ ?_
  exact ⟨hz, its', _, hv, q⟩
theorem Inv.lnew {its : List Value} {t' : Nat} (I : Inv X pins σ H s) (hv : Vals ys its) (hz : ys.length ≤ sizeLine) :
    Inv X pins σ (upd H s.heap.objs.size (.lst ys)) { s with heap := s.heap.push { cls := .type "list", data := .seq its.toArray }, toks := t' } :=
  I.laid (fun _ _ q => Heap.get?_push_of_some _ q) (Nat.le_refl _) ⟨hz, its, 0, hv, Heap.get?_push_size _ rfl⟩
theorem Inv.fresh (I : Inv X pins σ H s) : H s.heap.objs.size = none := I.hok.fresh (Nat.le_refl _)
theorem Inv.lstM (I : Inv X pins σ H s) (hH : H l = some (.lst xs)) : xs.length ≤ sizeLine ∧ ∃ (its : List Value) (n : Nat), Vals xs its ∧ xs.length = its.length ∧ s.heap.get? l = some { cls := .type "list", data := .seq its.toArray n } := by
  obtain ⟨z, its, n, r, e⟩ := I.hok l _ hH
  exact ⟨z, its, n, r, r.length, e⟩
theorem notLongL {n : Nat} (h : n ≤ sizeLine) : Builtin.List.listTooLong n = false := by
  unfold Builtin.List.listTooLong
  exact decide_eq_false (by omega)
end
section
variable {X : Cx}
def rAppend : V → List V → Hp → VK → Prop := fun x vs H Q => ∃ l xs y, x = .ref l ∧ vs = [y] ∧ H l = some (.lst xs) ∧ xs.length < sizeLine ∧ Q .non (upd H l (.lst (xs ++ [y])))
theorem mt_append : MtM X "list.append" rAppend := by
  intro pins s σ H x vs v us Q I rx rv h
  obtain ⟨l, xs, y, rfl, rfl, hH, hz, q⟩ := h
  cases rx
  obtain ⟨u, rfl, ru⟩ := rv.one
  obtain ⟨z, its, n, r, hl, e⟩ := I.lstM hH
  refine call_meets F.slot_list_append ⟨_, e, rfl⟩ F.entry_list_append (F.args_list_append_2 _ _) (PySem.list_append l its.toArray n u (by rw [List.size_toArray]; omega)) ⟨e, ?_⟩
  refine ⟨.non, _, I.lset (its' := its ++ [u]) hH e (by simp) (r.append (.cons ru .nil)) ?_, rfl, q⟩
  rw [List.length_append, List.length_singleton]
  omega
def rCat : R2 := fun x y H Q => ∃ l b xs zs, x = .ref l ∧ y = .ref b ∧ H l = some (.lst xs) ∧ H b = some (.lst zs) ∧ xs.length + zs.length ≤ sizeLine ∧ ∀ p, H p = none → Q (.ref p) (upd H p (.lst (xs ++ zs)))
theorem op_cat : OpR X (binaryOp .Add) rCat := by
  intro pins s σ H x y v u Q I rx ry h
  obtain ⟨l, b, xs, zs, rfl, rfl, hH, hB, hz, q⟩ := h
  cases rx
  cases ry
  obtain ⟨z, its, n, r, hl, e⟩ := I.lstM hH
  obtain ⟨z2, its2, n2, r2, hl2, e2⟩ := I.lstM hB
  refine PySem.P.add_list e e2 ?_ (by rw [List.size_toArray, List.size_toArray]; omega)
  have ea : its.toArray ++ its2.toArray = (its ++ its2).toArray := by simp
  rw [ea]
  exact ⟨.ref _, _, I.lnew (t' := s.toks) (r.append r2) (by rw [List.length_append]; omega), rfl, q _ I.fresh⟩
def rRep : R2 := fun x y H Q => ∃ l k xs, x = .ref l ∧ y = .int k ∧ H l = some (.lst xs) ∧ -(2 ^ 63) ≤ k ∧ k < 2 ^ 63 ∧ xs.length * k.toNat ≤ sizeLine ∧
  ∀ p, H p = none → Q (.ref p) (upd H p (.lst (List.replicate k.toNat xs).flatten))
theorem len_rep {α : Type} (xs : List α) (k : Nat) : (List.replicate k xs).flatten.length = k * xs.length := by
  induction k with
  | zero => simp
  | succ k ih => rw [List.replicate_succ, List.flatten_cons, List.length_append, ih, Nat.succ_mul, Nat.add_comm]
theorem op_rep : OpR X (binaryOp .Mult) rRep := by
  intro pins s σ H x y v u Q I rx ry h
  obtain ⟨l, k, xs, rfl, rfl, hH, h1, h2, hz, q⟩ := h
  cases rx
  obtain ⟨t, rfl⟩ := ry
  obtain ⟨z, its, n, r, hl, e⟩ := I.lstM hH
  have hlen : its.toArray.size * k.toNat ≤ sizeLine := by rw [List.size_toArray, ← hl]; exact hz
  have hcap : ¬ its.toArray.size * k.toNat > (2 ^ 63 - 1) / 8 := by
    have : (sizeLine : Nat) ≤ (2 ^ 63 - 1) / 8 := by decide
    omega
  have hfit : ¬ (!Builtin.List.listFitsIndex k) = true := by
    rw [fitsIndex_both h1 h2]
    exact Bool.false_ne_true
  have hlong : ¬ Builtin.List.listTooLong (its.toArray.size * k.toNat) = true := by
    rw [notLongL hlen]
    exact Bool.false_ne_true
  have hnew : List.foldl (fun x1 x2 => x1 ++ x2) #[] (List.replicate (if its.toArray.isEmpty = true then 0 else k.toNat) its.toArray) = (List.replicate k.toNat its).flatten.toArray := by
    have f0 : ∀ m : Nat, List.foldl (fun x1 x2 => x1 ++ x2) #[] (List.replicate m its.toArray) = (List.replicate m its).flatten.toArray := fun m => by
      have := foldl_rep its m []
      rw [List.nil_append] at this
      exact this
    rw [f0]
    cases its with
    | nil => simp
    | cons a r' => rw [if_neg (by simp)]
  refine wpAny_binaryOp_repeat_ref (T := "list") (U := "int") (by decide) ⟨_, e, rfl⟩ (fun s' => typeIs_int s' k t) noFill_list_mul F.fills_int_mul F.slot_int_rmul repeat_list F.slot_int_index.lookup
    (call_meets F.slot_int_rmul (typeIs_int s k t) F.entry_int_rmul (F.args_int_rmul_2 _ _) (int___rmul___int_list k t l its.toArray n)
      ⟨e, rfl, ⟨_, e, rfl⟩, call_meets F.slot_list_mul ⟨_, e, rfl⟩ F.entry_list_mul (F.args_list_mul_2 _ _) (AutoListH.list___mul___list_int_3 l its.toArray n k t hfit hcap hlong) ⟨e, ?_⟩⟩)
  rw [hnew]
  exact ⟨.ref _, _, I.lnew (t' := s.toks) (r.rep k.toNat) (by rw [len_rep, Nat.mul_comm]; exact hz), rfl, q _ I.fresh⟩
end
section
variable {prog : Program} {w : World} {A : Around} {E : Value → Shared → Prop} {s : Shared}
end
section
variable {X : Cx}
end
end L2
namespace L2
open PySem PySem.Spec PyProof.Rows
section
variable {κ : Type} [DecidableEq κ]
def valV (kvs : List (κ × V)) (k : κ) : Option V := (kvs.find? fun kv => decide (kv.1 = k)).map (·.2)
def putK (kvs : List (κ × V)) (k : κ) (v : V) : List (κ × V) :=
  if (kvs.any fun kv => decide (kv.1 = k)) = true then kvs.map (fun kv => if kv.1 = k then (kv.1, v) else kv) else kvs ++ [(k, v)]
def dropK (kvs : List (κ × V)) (k : κ) : List (κ × V) := kvs.filter fun kv => decide (kv.1 ≠ k)
theorem valV_pos {p : κ × V} {r : List (κ × V)} {k : κ} (e : p.1 = k) : valV (p :: r) k = some p.2 := by simp [valV, List.find?_cons, e]
theorem valV_neg {p : κ × V} {r : List (κ × V)} {k : κ} (e : ¬ p.1 = k) : valV (p :: r) k = valV r k := by simp [valV, List.find?_cons, e]
theorem valV_any (k : κ) : ∀ kvs : List (κ × V), (kvs.any fun kv => decide (kv.1 = k)) = (valV kvs k).isSome
  | [] => rfl
  | p :: r => by
    rw [List.any_cons]
    by_cases e : p.1 = k
    · simp only [valV_pos e, decide_eq_true e, Bool.true_or, Option.isSome_some]
    · rw [valV_neg e, decide_eq_false e, Bool.false_or]; exact valV_any k r
theorem RelO.isSome_eq {o : Option V} {u : Option Value} (r : RelO o u) : o.isSome = u.isSome := by
  cases o with
  | none => cases u with
    | none => rfl
    | some _ => exact (show False from r).elim
  | some _ => cases u with
    | none => exact (show False from r).elim
    | some _ => rfl
theorem RelO.getD {o : Option V} {u : Option Value} {d : V} {d' : Value} (r : RelO o u) (rd : RelV d d') : RelV (o.getD d) (u.getD d') := by
  cases o with
  | none => cases u with
    | none => exact rd
    | some _ => exact (show False from r).elim
  | some _ => cases u with
    | none => exact (show False from r).elim
    | some _ => exact r
theorem KV.val {kvs : List (κ × V)} {vs : List (κ × Value)} (r : KV kvs vs) (k : κ) : RelO (valV kvs k) (valueAt vs k) := by
  unfold KV at r
  induction r with
  | nil => exact True.intro
  | @cons p q ps qs h t ih =>
    obtain ⟨h1, h2⟩ := h
    by_cases e : p.1 = k
    · have e' : q.1 = k := h1.symm.trans e
      have b : valueAt (q :: qs) k = some q.2 := by simp [valueAt, List.find?_cons, e']
      rw [valV_pos e, b]; exact h2
    · have e' : ¬ q.1 = k := fun z => e (h1.trans z)
      have b : valueAt (q :: qs) k = valueAt qs k := by simp [valueAt, List.find?_cons, e']
      rw [valV_neg e, b]; exact ih
theorem KV.any {kvs : List (κ × V)} {vs : List (κ × Value)} (r : KV kvs vs) (k : κ) : (kvs.any fun kv => decide (kv.1 = k)) = vs.any fun kv => decide (kv.1 = k) := by
  unfold KV at r
  induction r with
  | nil => rfl
  | cons h t ih => rw [List.any_cons, List.any_cons, ih, h.1]
theorem KV.repl {kvs : List (κ × V)} {vs : List (κ × Value)} (r : KV kvs vs) (k : κ) {y : V} {u : Value} (ry : RelV y u) :
    KV (kvs.map fun kv => if kv.1 = k then (kv.1, y) else kv) (vs.map fun kv => if kv.1 = k then (kv.1, u) else kv) := by
  unfold KV at r ⊢
  induction r with
  | nil => exact .nil
  | @cons p q ps qs h t ih =>
    rw [List.map_cons, List.map_cons]
    refine .cons ?_ ih
    obtain ⟨h1, h2⟩ := h
    by_cases e : p.1 = k
    · rw [if_pos e, if_pos (h1.symm.trans e)]; exact ⟨h1, ry⟩
    · rw [if_neg e, if_neg (fun z => e (h1.trans z))]; exact ⟨h1, h2⟩
theorem KV.put {kvs : List (κ × V)} {vs : List (κ × Value)} (r : KV kvs vs) (k : κ) {y : V} {u : Value} (ry : RelV y u) : KV (putK kvs k y) (stored vs k u) := by
  unfold putK stored
  rw [r.any k]
  by_cases e : (vs.any fun kv => decide (kv.1 = k)) = true
  · rw [if_pos e, if_pos e]; exact r.repl k ry
  · rw [if_neg e, if_neg e]; exact Paired.snoc r ⟨rfl, ry⟩
theorem KV.drop {kvs : List (κ × V)} {vs : List (κ × Value)} (r : KV kvs vs) (k : κ) : KV (dropK kvs k) (without vs k) := by
  unfold KV at r ⊢
  unfold dropK without
  induction r with
  | nil => exact .nil
  | @cons p q ps qs h t ih =>
    obtain ⟨h1, h2⟩ := h
    rw [List.filter_cons, List.filter_cons]
    by_cases e : p.1 = k
    · have a : ¬ decide (p.1 ≠ k) = true := by simp [e]
      have b : ¬ decide (q.1 ≠ k) = true := by simp [h1.symm.trans e]
      rw [if_neg a, if_neg b]; exact ih
    · have e' : ¬ q.1 = k := fun z => e (h1.trans z)
      have a : decide (p.1 ≠ k) = true := by simp [e]
      have b : decide (q.1 ≠ k) = true := by simp [e']
      rw [if_pos a, if_pos b]; exact .cons ⟨h1, h2⟩ ih
theorem KV.length {kvs : List (κ × V)} {vs : List (κ × Value)} (r : KV kvs vs) : kvs.length = vs.length := Paired.length r
end
abbrev KT (H : Hp) : List (List Key × V) → List (List Key × Addr × Value) → Prop := Paired fun p q => p.1 = q.1 ∧ H q.2.1 = some (.tup (p.1.map kV)) ∧ RelV p.2 q.2.2
theorem KT.val {H : Hp} {kvs : List (List Key × V)} {xs : List (List Key × Addr × Value)} (r : KT H kvs xs) (k : List Key) : RelO (valV kvs k) ((atKey xs k).map (·.2)) := by
  induction r with
  | nil => exact True.intro
  | @cons p q ps qs h t ih =>
    obtain ⟨h1, _, h2⟩ := h
    by_cases e : p.1 = k
    · have e' : q.1 = k := h1.symm.trans e
      have b : atKey (q :: qs) k = some q.2 := by simp [atKey, List.find?_cons, e']
      rw [valV_pos e, b]; exact h2
    · have e' : ¬ q.1 = k := fun z => e (h1.trans z)
      have b : atKey (q :: qs) k = atKey qs k := by simp [atKey, List.find?_cons, e']
      rw [valV_neg e, b]; exact ih
theorem KT.repl {H : Hp} {kvs : List (List Key × V)} {xs : List (List Key × Addr × Value)} (r : KT H kvs xs) (k : List Key) {y : V} {u : Value} (ry : RelV y u) :
    KT H (kvs.map fun kv => if kv.1 = k then (kv.1, y) else kv) (xs.map (putAt k u)) := by
  induction r with
  | nil => exact .nil
  | @cons p q ps qs h t ih =>
    rw [List.map_cons, List.map_cons]
    refine .cons ?_ ih
    obtain ⟨h1, h2, h3⟩ := h
    unfold putAt
    by_cases e : p.1 = k
    · rw [if_pos e, if_pos (h1.symm.trans e)]; exact ⟨h1, h2, ry⟩
    · rw [if_neg e, if_neg (fun z => e (h1.trans z))]; exact ⟨h1, h2, h3⟩
theorem KT.put {H : Hp} {kvs : List (List Key × V)} {xs : List (List Key × Addr × Value)} (r : KT H kvs xs) (k : List Key) {b : Addr} {y : V} {u : Value} (hb : H b = some (.tup (k.map kV))) (ry : RelV y u) :
    KT H (putK kvs k y) (storedH xs k b u) := by
  have e : (kvs.any fun kv => decide (kv.1 = k)) = (atKey xs k).isSome := by
    rw [valV_any, (r.val k).isSome_eq, Option.isSome_map]
  unfold putK storedH
  rw [e]
  by_cases q : (atKey xs k).isSome = true
  · rw [if_pos q, if_pos q]; exact r.repl k ry
  · rw [if_neg q, if_neg q]; exact Paired.snoc r ⟨rfl, hb, ry⟩
theorem KT.keeps {H H' : Hp} {kvs : List (List Key × V)} {xs : List (List Key × Addr × Value)} (r : KT H kvs xs) (ht : ∀ b ys, H b = some (.tup ys) → H' b = some (.tup ys)) : KT H' kvs xs :=
  Paired.mapP r fun _ _ z => ⟨z.1, ht _ _ z.2.1, z.2.2⟩
section
variable {P : Program} {w : World} {H : Hp} {h : Heap} {a : Addr}
end
def DGet (H : Hp) (a : Addr) (y : V) (r : Option V) : Prop :=
  (∃ kvs k, Rd H a (.dK kvs) ∧ y = kV k ∧ r = valV kvs k) ∨ ∃ kvs k b, Rd H a (.dT kvs) ∧ y = .ref b ∧ H b = some (.tup (k.map kV)) ∧ r = valV kvs k
def DPut (H : Hp) (a : Addr) (y v : V) (H' : Hp) : Prop :=
  (∃ kvs k, H a = some (.dK kvs) ∧ y = kV k ∧ kvs.length < sizeLine ∧ H' = upd H a (.dK (putK kvs k v))) ∨
  ∃ kvs k b, H a = some (.dT kvs) ∧ y = .ref b ∧ H b = some (.tup (k.map kV)) ∧ kvs.length < sizeLine ∧ H' = upd H a (.dT (putK kvs k v))
theorem DGet.k {H : Hp} {a : Addr} {kvs : List (Key × V)} {k : Key} (e : H a = some (.dK kvs)) : DGet H a (kV k) (valV kvs k) := .inl ⟨kvs, k, .inl e, rfl, rfl⟩
theorem DGet.t {H : Hp} {a b : Addr} {kvs : List (List Key × V)} {k : List Key} (e : H a = some (.dT kvs)) (eb : H b = some (.tup (k.map kV))) : DGet H a (.ref b) (valV kvs k) := .inr ⟨kvs, k, b, .inl e, rfl, eb, rfl⟩
theorem DPut.k {H : Hp} {a : Addr} {kvs : List (Key × V)} {k : Key} {v : V} (e : H a = some (.dK kvs)) (hl : kvs.length < sizeLine) : DPut H a (kV k) v (upd H a (.dK (putK kvs k v))) := .inl ⟨kvs, k, e, rfl, hl, rfl⟩
theorem DPut.t {H : Hp} {a b : Addr} {kvs : List (List Key × V)} {k : List Key} {v : V} (e : H a = some (.dT kvs)) (eb : H b = some (.tup (k.map kV))) (hl : kvs.length < sizeLine) :
    DPut H a (.ref b) v (upd H a (.dT (putK kvs k v))) := .inr ⟨kvs, k, b, e, rfl, eb, hl, rfl⟩
section
variable {X : Cx} {pins : List (Addr × Obj)} {σ : St} {H : Hp} {s : Shared} {a : Addr} {y v : V} {u r : Value} {o : Option V} {A : Around} {E : Value → Shared → Prop}
end
section
variable {X : Cx} {pins : List (Addr × Obj)} {σ : St} {H : Hp} {s : Shared} {a : Addr} {kvs : List (Key × V)} {k : Key} {u : Value} {A : Around} {E : Value → Shared → Prop}
end
section
variable {X : Cx} {o i e value : Expr} {pos pos' tpos : Pos} {td ty tv : TE}
end
section
variable {X : Cx} {pos : Pos}
end
section
variable {X : Cx} {pins : List (Addr × Obj)} {σ : St} {H : Hp} {s : Shared} {a : Addr} {y d : V} {u r : Value} {o : Option V} {A : Around} {E : Value → Shared → Prop}
end
section
variable {X : Cx} {o e f : Expr} {apos cpos : Pos} {td ty tx : TE}
end
section
variable {X : Cx} {pins : List (Addr × Obj)} {σ : St} {H : Hp} {s : Shared} {a : Addr} {kvs : List (Key × V)} {A : Around} {E : Value → Shared → Prop}
end
section
variable {X : Cx} {pins : List (Addr × Obj)} {σ : St} {H : Hp} {s : Shared} {a : Addr} {y : V} {u : Value} {A : Around} {E : Value → Shared → Prop}
end
end L2
namespace Att
open PySem PySem.W PySem.Calls PyProof.Rows
theorem ints_of_wellAll {P : Params} {h : Heap} : ∀ (ns : List Int) (vs : List Value), WellAll P h vs (ns.map WData.int) → IntsAre vs ns := by
  intro ns
  induction ns with
  | nil =>
    intro vs w
    rw [List.map_nil] at w
    cases w
    exact .nil
  | cons n ns ih =>
    intro vs w
    rw [List.map_cons] at w
    cases w with
    | cons a b =>
      cases a
      exact .cons _ _ (ih _ b)
theorem script_of {l : OpenLaw} {n : Nat} (hn : l.most = some n) {P : Params} {h : Heap} {args : List WData} {vals : List Value}
    (hpre : l.row.toRowW.claim.pre args = true) (hwl : WellAll P h vals args) :
    ∃ a vs ns, vals = [Value.ref a] ∧ args = [WData.list (ns.map WData.int)] ∧ h.get? a = some { cls := .type "list", data := .seq vs.toArray } ∧ IntsAre vs ns ∧ ns.length ≤ n := by
  have hsh : WShape.hasAll [] args [.list .int] = true := (pre_splitW hpre).1
  have hc : l.pre.holds [] { args := args } = true := (pre_splitW hpre).2
  obtain ⟨d, r, rfl, h1, h2⟩ := hasAllW_cons hsh
  obtain rfl := hasAllW_nil h2
  obtain ⟨xs, rfl, h3⟩ := hasW_list h1
  obtain ⟨ns, rfl⟩ := items_int h3
  have hlen : ns.length ≤ n := by
    unfold OpenLaw.pre at hc
    have h4 : (WTm.not (.lt (.lit (.int (n : Int))) (.len (.arg 0)))).holds [] { args := [.list (ns.map .int)] } = true := by
      have h4 := (holds_andW hc).1
      rw [hn] at h4
      exact h4
    have h5 := condW_of h4 (w_not (w_lt w_lit (w_len_list (w_arg rfl))))
    rw [List.length_map] at h5
    refine Nat.le_of_not_lt fun q => ?_
    have q' : (n : Int) < ((ns.length : Nat) : Int) := by omega
    first
      | (rw [decide_eq_true q'] at h5; exact absurd h5 (by decide))
      | (simp at h5; omega)
  cases hwl with
  | cons w1 w2 =>
    cases w2
    cases w1 with
    | list ho hall => exact ⟨_, _, ns, rfl, rfl, ho, ints_of_wellAll ns _ hall, hlen⟩
theorem post_true (l : OpenLaw) (args : List WData) : l.row.toRowW.claim.post args (.bool true) args = true :=
  postW_of (r := l.row.toRowW) (X := (true == true))
    (show WShape.has [] (.bool true) .bool = true by first | rfl | decide | simp [WShape.has, WShape.arms, WShape.armsAll])
    (show (WTm.eq .res (.lit (.bool true))).value [] { args := args, res := some (.bool true), after := args } = some (.bool (true == true)) from w_eq_bool (w_res rfl) w_lit) rfl
theorem attach_call {l : OpenLaw} {n : Nat} {q : Program} {loose : List Str} {XP : (Str → Option Value) → Heap → Prop} {YP : World → Heap → Prop} {d : DefRec}
    (hn : l.most = some n) (hdf : d.params.defaults = [])
    (call : ∀ (w : World) (s₀ s₁ : Shared) (mg mb : Str → Option Value) (fa : Addr) (o : Obj) (pm cd doc : Value) (a : Addr) (vs : List Value) (ns : List Int),
      Ground q loose [] XP w s₀ mg mb s₁.heap → YP w s₁.heap →
      s₁.heap.get? fa = some o → o.data = .func (docDef d.name d.params d.body d.scope pm cd doc) → s₁.heap.CodeRec cd d.name → mg d.name = some (.ref fa) →
      s₁.heap.get? a = some { cls := .type "list", data := .seq vs.toArray } → IntsAre vs ns → ns.length ≤ n → s₁.gens = #[] →
      codeAny (model l.prog w) callerA (.call (.ref fa) ⟨[.ref a], []⟩) (fun r s' => r = .ok (.ret (.bool true)) ∧ OldK s₁.heap s'.heap ∧ s'.os = s₁.os ∧ AllBare s'.gens) s₁) :
    WalkO q loose XP YP l.row.toRowW d [] (fun f vs => PySem.call f vs) := by
  intro w s₀ s₁ mg mb G Y fa o pm cd doc dV kV ho hd hcd hD hmg hg args vals as hpre hlay hrd hwl hlo
  obtain rfl : dV = .none := Dflts.none hD hdf
  obtain rfl : kV = .none := Dflts.noKw hD
  obtain ⟨a, vs, ns, rfl, rfl, hobj, hints, hlen⟩ := script_of hn hpre hwl
  refine enter_call (codeAny_mono (call w s₀ s₁ mg mb fa o pm cd doc a vs ns G Y ho (fd_plain hd) hcd hmg hobj hints hlen hg) fun r s' hq => ?_)
  obtain ⟨rfl, h2, h3, h4⟩ := hq
  exact ⟨.inl ⟨.bool true, .bool true, [], rfl, fun _ => rfl, .bool true, post_true l _, fun _ => ⟨List.Pairwise.nil, fun _ hm => (nomatch hm)⟩⟩, h2, h3, h4⟩
section
variable {prog : Program} {w : World} {A : Around} {E : Value → Shared → Prop} {s : Shared} {K : Frag}
end
end Att
namespace L2
open PySem PySem.Spec PyProof.Rows
theorem vals_ints : ∀ {vs : List Value} {ns : List Int}, IntsAre vs ns → Vals (ns.map V.int) vs
  | _, _, .nil => .nil
  | _, _, .cons n t h => .cons ⟨t, rfl⟩ (vals_ints h)
def Only (H : Hp) : Prop := ∀ b, H b = none ∨ ∃ o xs, H b = some (.frz o (.lst xs))
theorem law_call {P : Program} {w : World} {K : PySem.W.Frag} {mg mb : Str → Option Value} {CX : CXT} {k : Nat} {fa a : Addr} {fd : FuncData} {x : Str} {sp : Sp} {s₁ : Shared} {vs : List Value} {ns : List Int}
    (KX : K.In s₁.heap) (hns : s₁.heap.Ns mainGlobals mg) (hb : s₁.heap.Ns builtinsNs mb) (hbb : ∀ x : Str, x ≠ "__name__" → mb x = bootBuiltins x) (hlim : s₁.heap.NoLimit) (hg : s₁.gens = #[])
    (ha : s₁.heap.get? a = some { cls := .type "list", data := .seq vs.toArray }) (hi : IntsAre vs ns) (hl : ns.length ≤ sizeLine) (hr : Room k callerA)
    (F : ∀ base : Heap, K.In base → base.Ns mainGlobals mg → FnOk P w K mg base CX k fa fd [x] sp) (hbind : ∀ (s : Shared) (u : Value), BindsTo s fd ⟨[u], []⟩ [(x, u)])
    (hsp : ∀ H : Hp, Only H → SqL K H a (ns.map V.int) → sp [.ref a] H (fun v _ => v = .bl true) fun _ _ _ => False)
    (hCX : ∀ H e s', CX [] H s₁ (fun _ _ _ => False) e s' → False) :
    codeAny (model P w) callerA (.call (.ref fa) ⟨[.ref a], []⟩) (fun r s' => r = .ok (.ret (.bool true)) ∧ OldK s₁.heap s'.heap ∧ s'.os = s₁.os ∧ AllBare s'.gens) s₁ := by
  have rv := vals_ints hi
  have lenV := hi.length
  have core : ∀ H : Hp, Only H → SqL K H a (ns.map V.int) → HOk P w H s₁.heap → (∀ b, H b ≠ none → b = a) → (H a ≠ none → K.lookup a = none) →
      codeAny (model P w) callerA (.call (.ref fa) ⟨[.ref a], []⟩) (fun r s' => r = .ok (.ret (.bool true)) ∧ OldK s₁.heap s'.heap ∧ s'.os = s₁.os ∧ AllBare s'.gens) s₁ := by
    intro H hO hS hok hA hK
    have base_of : ∀ {b : Addr} {o : Obj}, s₁.heap.get? b = some o → H b = none → (hidT s₁.heap H).get? b = some o := fun e n => hidT_get e n
    have noA : ∀ {b : Addr} {o : Obj} {es : Array DictEntry} {ep : Nat}, s₁.heap.get? b = some o → o.data = .dict es ep → H b = none := fun {b o es ep} e d => by
      cases q : H b with
      | none => rfl
      | some u =>
        have e' : b = a := hA b (by rw [q]; simp)
        subst e'
        rw [ha] at e; cases e
        have d' : Data.seq vs.toArray _ = Data.dict es ep := d
        cases d'
    have nsK : ∀ {b : Addr} {m : Str → Option Value}, s₁.heap.Ns b m → (hidT s₁.heap H).Ns b m := fun {b m} ⟨o, es, ep, e, d, r⟩ => ⟨o, es, ep, base_of e (noA e d), d, r⟩
    have hKb : K.In (hidT s₁.heap H) := fun b o e => base_of (KX b o e) (by
      cases q : H b with
      | none => rfl
      | some u =>
        have e' : b = a := hA b (by rw [q]; simp)
        subst e'
        rw [hK (by rw [q]; simp)] at e; cases e)
    have hM : Mod K mg (hidT s₁.heap H) := ⟨hKb, nsK hns, ⟨mb, nsK hb, hbb⟩, let ⟨mc, h1, h2⟩ := hlim; ⟨mc, nsK h1, h2⟩⟩
    have e0 : Env0 P w K mg (hidT s₁.heap H) callerA [] s₁ H := ⟨rfl, hM, fun b o e => of_hidT e, Nat.le_of_eq (hidT_size _ _), trivial, fun b hb => absurd (show b ∈ ([] : List Addr) from hb) (by simp), hok, .of_eq hg⟩
    refine codeAny_mono ((F _ hKb (nsK hns)).run callerA [] s₁ H ⟨[.ref a], []⟩ [.ref a] [.ref a] _ _ hr e0 (hbind s₁ (.ref a)) (.cons rfl .nil) (hsp H hO hS)) fun r s' h => ?_
    cases r with
    | error e => exact (hCX H e s' h).elim
    | ok fl =>
      cases fl with
      | next => exact False.elim h
      | brk => exact False.elim h
      | cont => exact False.elim h
      | ret u =>
        obtain ⟨v, H', os, bare, un, hok', r', q⟩ := h
        have q' : v = .bl true := q
        subst q'
        obtain rfl : u = Value.bool true := r'
        refine ⟨rfl, OldK.of_keep fun b o e => ?_, os, bare⟩
        cases q : H b with
        | none => exact un.keep b o e q (by intro z; exact absurd (show b ∈ ([] : List Addr) from z) (by simp)) (by simp)
        | some u =>
          rcases hO b with z | ⟨ob, xs, z⟩
          · rw [q] at z; cases z
          · have z2 := un.frzs b ob _ z
            obtain ⟨e1, _⟩ := hok b _ z
            obtain ⟨e2, _⟩ := hok' b _ z2
            rw [e] at e1; cases e1
            exact e2
  cases hk : K.lookup a with
  | some o =>
    have e := KX a o hk
    rw [ha] at e
    cases e
    refine core (fun _ => none) (fun _ => .inl rfl) (.inr ⟨_, vs.toArray, _, hk, rfl, rfl, rfl, by rw [List.size_toArray, lenV]; exact hl, by simpa using rv⟩) (fun b u z => by have z' : (none : Option HO) = some u := z; cases z') (fun b z => absurd rfl z) fun z => absurd rfl z
  | none =>
    refine core (fun b => if b = a then some (.frz { cls := .type "list", data := .seq vs.toArray } (.lst (ns.map V.int))) else none) (fun b => ?_) (.inl (.inr ⟨{ cls := .type "list", data := .seq vs.toArray }, if_pos rfl⟩)) (fun b u z => ?_) (fun b z => ?_) fun _ => hk
    · by_cases hb : b = a
      · exact .inr ⟨_, _, if_pos hb⟩
      · exact .inl (if_neg hb)
    · by_cases hb : b = a
      · have z' := (if_pos hb).symm.trans z
        cases z'
        subst hb
        exact ⟨ha, by rw [List.length_map]; exact hl, vs, _, rv, ha⟩
      · have z' := (if_neg hb).symm.trans z
        cases z'
    · by_cases hb : b = a
      · exact hb
      · exact absurd (if_neg hb) z
end L2
namespace L2
open PySem PySem.Spec PyProof.Rows
theorem walk_of {l : PySem.W.OpenLaw} {n k : Nat} {q : Program} {loose : List Str} {XP : (Str → Option Value) → Heap → Prop} {YP : World → Heap → Prop} {d : DefRec} {K : Params → PySem.W.Frag} {CX : World → CXT} {sp : World → Sp} {x : Str}
    (hn : l.most = some n) (hn2 : n ≤ sizeLine) (hdf : d.params.defaults = []) (hr : Room k callerA)
    (hY : ∀ (w : World) (h : Heap), YP w h → (K w.params).In h)
    (F : ∀ (w : World) (mg : Str → Option Value) (fa : Addr) (h : Heap), (K w.params).In h → h.Ns mainGlobals mg → mg d.name = some (.ref fa) →
      ∃ fd : FuncData, (∀ (s : Shared) (u : Value), BindsTo s fd ⟨[u], []⟩ [(x, u)]) ∧
        ∀ base : Heap, (K w.params).In base → base.Ns mainGlobals mg → FnOk l.prog w (K w.params) mg base (CX w) k fa fd [x] (sp w))
    (hsp : ∀ (w : World) (H : Hp) (a : Addr) (ns : List Int), ns.length ≤ n → Only H → SqL (K w.params) H a (ns.map V.int) → sp w [.ref a] H (fun v _ => v = .bl true) fun _ _ _ => False)
    (hCX : ∀ (w : World) (H : Hp) (s : Shared) (e : Value) (s' : Shared), CX w [] H s (fun _ _ _ => False) e s' → False) :
    PySem.W.WalkO q loose XP YP l.row.toRowW d [] (fun f vs => PySem.call f vs) := by
  refine Att.attach_call hn hdf fun w s₀ s₁ mg mb fa o pm cd doc a vs ns G Y ho hd hcd hmg hobj hints hlen hg => ?_
  have KX := hY w _ Y
  obtain ⟨fd, hb, hF⟩ := F w mg fa _ KX G.T.g hmg
  exact law_call KX G.T.g G.T.b G.T.builtins G.T.nolimit hg hobj hints (Nat.le_trans hlen hn2) hr hF hb (fun H hO hS => hsp w H a ns hlen hO hS) fun H e s' => hCX w H s₁ e s'
end L2
namespace L2
open PySem PySem.Spec PyProof.Rows
def defArgs (s : Stmt) : Arguments := match s with
  | .FunctionDef _ a _ _ _ _ _ _ _ _ => a
  | _ => { posonlyargs := [], args := [], vararg := none, kwonlyargs := [], kw_defaults := [], kwarg := none, defaults := [] }
def defBody (s : Stmt) : List Stmt := match s with
  | .FunctionDef _ _ b _ _ _ _ _ _ _ => b
  | _ => []
def defScope (s : Stmt) : Scope := match s with
  | .FunctionDef _ _ _ _ _ _ sc _ _ _ => sc
  | _ => { kind := .function, names := [], isGenerator := false, isCoroutine := false }
abbrev CX0 : CXT := fun _ _ _ _ _ _ => False
abbrev E0 : XK := fun _ _ _ => False
theorem pass0 {X : Cx} : Passes CX0 X E0 := fun _ _ _ _ _ _ _ h => h.elim
structure Fun (K : PySem.W.Frag) (x qual : Str) (st : Stmt) (f : Addr) (fd : FuncData) : Prop where
  ex : ∃ (oc : Value) (od : Option Addr) (kV doc pm : Value) (an : Option Addr) (cdv ct : Value) (osl : Array (Option Value)),
    fd = PySem.W.fnOf x qual (defArgs st) (defBody st) (defScope st) .none kV doc pm an cdv ct ∧ K.lookup f = some ⟨oc, od, .func fd, osl⟩ ∧ PySem.W.codeIn K cdv qual = true
  kp : PySem.W.keepIn K (.ref f) = true
section
variable {P : Program} {w : World} {K : PySem.W.Frag} {mg : Str → Option Value} {base : Heap}
theorem Fun.ok {x qual : Str} {st : Stmt} {f : Addr} {fd : FuncData} {N ps : List Str} {k : Nat} {sp : Sp} (F : Fun K x qual st f fd) (S : FnScope N ps (defScope st)) (len : ∀ vs H Q E, sp vs H Q E → vs.length = ps.length)
    (hbody : ∀ (cdv : Value) (A : Around) (outer : List Env) (s : Shared) (H : Hp) (vs : List V) (Q : VK) (E : XK), Room k (A.deeper (envOfC qual (defScope st) s.heap.objs.size f cdv)) → sp vs H Q E →
      ∃ t, PSs (cxOf CX0 P w K mg base N qual (defScope st) f cdv A outer s H E).nox (defBody st) t ∧ t { nx := fun _ H' => Q .non H', rt := Q } (start N vs) H) : FnOk P w K mg base CX0 (k + 1) f fd ps sp := by
  obtain ⟨oc, od, kV, doc, pm, an, cdv, ct, osl, rfl, lk, hcd⟩ := F.ex
  refine fn_of lk hcd S len fun A outer s H vs Q E hr hsp => ?_
  obtain ⟨t, h, q⟩ := hbody cdv A outer s H vs Q E hr hsp
  exact ⟨t, h.nox, q⟩
theorem Fun.binds {x qual : Str} {st : Stmt} {f : Addr} {fd : FuncData} {ps : List Str} (F : Fun K x qual st f fd)
    (h : ∀ (kV doc pm : Value) (an : Option Addr) (cdv ct : Value) (us : List Value), us.length = ps.length → bindArgs (PySem.W.fnOf x qual (defArgs st) (defBody st) (defScope st) .none kV doc pm an cdv ct) ⟨us, []⟩ = pure (ps.zip us)) : Binds K fd ps [] := by
  obtain ⟨oc, od, kV, doc, pm, an, cdv, ct, osl, rfl, lk, hcd⟩ := F.ex
  exact .all (h kV doc pm an cdv ct)
theorem fun_mk {x qual : Str} {st : Stmt} {f : Addr} {oc : Value} {od an : Option Addr} {osl : Array (Option Value)} {kV doc pm cdv ct : Value} (l : K.lookup f = some ⟨oc, od, .func (PySem.W.fnOf x qual (defArgs st) (defBody st) (defScope st) .none kV doc pm an cdv ct), osl⟩)
    (c : PySem.W.codeIn K cdv qual = true) (k : PySem.W.keepIn K (.ref f) = true) : Fun K x qual st f (PySem.W.fnOf x qual (defArgs st) (defBody st) (defScope st) .none kV doc pm an cdv ct) := ⟨⟨oc, od, kV, doc, pm, an, cdv, ct, osl, rfl, l, c⟩, k⟩
end
section
variable {X : Cx}
theorem pv (i : Nat) {x : Str} {pos : Pos} (hN : X.N[i]? = some x := by rfl) (hv : Vis X.env.scope x := by first | exact Or.inl rfl | exact Or.inr (Or.inl rfl) | exact Or.inr (Or.inr rfl)) (hd : (x == ("__debug__" : Str)) = false := by decide)
    (hcd : (x == ("__classdict__" : Str)) = false := by decide) : PE X (.Name x pos) (tVar i) := pe_var hN hv hd hcd
end
theorem iteF {A B : Prop} (h : B) : if false = true then A else B := by
  rw [if_neg Bool.false_ne_true]
  exact h
theorem iteT {A B : Prop} (h : A) : if true = true then A else B := by
  rw [if_pos rfl]
  exact h
theorem ite2 {c A B : Prop} [Decidable c] (h1 : c → A) (h2 : ¬ c → B) : if c then A else B := by
  by_cases h : c
  · rw [if_pos h]
    exact h1 h
  · rw [if_neg h]
    exact h2 h
def Same (H H' : Hp) : Prop := ∀ b o, H b = some o → H' b = some o
theorem Same.refl (H : Hp) : Same H H := fun _ _ h => h
theorem Same.trans {H H1 H2 : Hp} (a : Same H H1) (b : Same H1 H2) : Same H H2 := fun c o h => b c o (a c o h)
theorem Same.free {H H' : Hp} (e : Same H H') {l : Addr} (h : H' l = Option.none) : H l = Option.none := by
  cases q : H l with
  | none => rfl
  | some o =>
    rw [e l o q] at h
    cases h
theorem Same.seq {K : PySem.W.Frag} {H H' : Hp} {a : Addr} {xs : List V} (e : Same H H') (h : SqL K H a xs) : SqL K H' a xs := by
  rcases h with (h | ⟨o, h⟩) | h
  · exact .inl (.inl (e _ _ h))
  · exact .inl (.inr ⟨o, e _ _ h⟩)
  · exact .inr h
end L2
namespace L2
open PySem PySem.Spec PyProof.Rows
section
variable {X : Cx}
end
end L2
namespace L2
open PySem PySem.Spec PyProof.Rows
section
variable {κ : Type} [DecidableEq κ]
end
end L2
set_option Elab.async false
set_option linter.all false
set_option maxRecDepth 100000
namespace Tim
open PySem PyProof.Rows
def Good (p : Keyed) : Prop := ∃ n t, p.1 = .int n t ∧ p.2 = p.1
section
variable {prog : Program} {w : World} {A : Around} {E : Value → Shared → Prop} {s : Shared} {n : Nat} {pe : Array (Nat × Nat × Nat)} {st : SortSt}
end
end Tim
set_option Elab.async false
set_option linter.all false
set_option maxRecDepth 100000
namespace Tim
open PySem PyProof.Rows
section
variable {prog : Program} {w : World} {A : Around} {E : Value → Shared → Prop} {s : Shared} {st : SortSt}
end
end Tim
set_option Elab.async false
set_option linter.all false
set_option maxRecDepth 100000
namespace Tim
open PySem PyProof.Rows
def AllGood (xs : Array Keyed) : Prop := ∀ p ∈ xs.toList, Good p
theorem AllGood.append {x y : Array Keyed} (hx : AllGood x) (hy : AllGood y) : AllGood (x ++ y) := fun p hp => by
  rw [Array.toList_append] at hp
  exact (List.mem_append.mp hp).elim (hx p) (hy p)
theorem AllGood.push {x : Array Keyed} {q : Keyed} (hx : AllGood x) (hq : Good q) : AllGood (x.push q) := fun p hp => by
  rw [Array.toList_push] at hp
  rcases List.mem_append.mp hp with z | z
  · exact hx p z
  · rw [List.mem_singleton.mp z]; exact hq
theorem AllGood.reverse {x : Array Keyed} (hx : AllGood x) : AllGood x.reverse := fun p hp => hx p (by simpa using hp)
theorem AllGood.one {q : Keyed} (hq : Good q) : AllGood #[q] := fun p hp => by
  have : p = q := by simpa using hp
  rw [this]; exact hq
section
variable {prog : Program} {w : World} {A : Around} {E : Value → Shared → Prop} {s : Shared} {n : Nat} {pe : Array (Nat × Nat × Nat)} {st : SortSt}
end
end Tim
set_option Elab.async false
set_option linter.all false
set_option maxRecDepth 100000
namespace Tim
open PySem PyProof.Rows
section
variable {prog : Program} {w : World} {A : Around} {E : Value → Shared → Prop} {s : Shared} {n : Nat} {pe : Array (Nat × Nat × Nat)} {st : SortSt}
end
end Tim
set_option Elab.async false
set_option linter.all false
set_option maxRecDepth 100000
namespace Tim
open PySem PyProof.Rows
section
variable {prog : Program} {w : World} {A : Around} {E : Value → Shared → Prop} {s : Shared} {n : Nat} {pe : Array (Nat × Nat × Nat)} {st : SortSt}
end
end Tim
set_option Elab.async false
set_option linter.all false
set_option maxRecDepth 100000
namespace Tim
open PySem PyProof.Rows
section
variable {prog : Program} {w : World} {A : Around} {E : Value → Shared → Prop} {s : Shared} {n : Nat} {pe : Array (Nat × Nat × Nat)} {st : SortSt}
end
end Tim
set_option Elab.async false
set_option linter.all false
set_option maxRecDepth 100000
namespace Tim
open PySem PyProof.Rows
section
variable {prog : Program} {w : World} {A : Around} {E : Value → Shared → Prop} {s : Shared}
end
end Tim
set_option Elab.async false
set_option linter.all false
set_option maxRecDepth 100000
namespace L2
open PySem PySem.Spec PyProof.Rows
def compCx (X : Cx) (N' : List Str) (scope : Scope) (cl : List (Str × Addr)) (C : Addr) (s₀ : Shared) (H₀ : Hp) (ex : List Addr) : Cx :=
  { X with N := N', s₀ := s₀, H₀ := H₀, env := compEnvC scope cl C X.env, outer := X.stack, ex := ex, fn := fun x => scope.names.lookup x == some NameKind.cell, pn := [] }
theorem closure_ok {env : Env} : ∀ (names : List (Str × NameKind)) (acc : List (Str × Addr)), (∀ y ∈ names, y.2 = .free → ∃ c, env.cells.lookup y.1 = some c) →
    (∀ y c, acc.lookup y = some c → env.cells.lookup y = some c) →
    ∃ cl, (forIn names acc fun x r => if (x.2 == NameKind.free) = true then do let c ← cellOf env x.1; pure (ForInStep.yield ((x.1, c) :: r)) else pure (ForInStep.yield r) : Sem (List (Str × Addr))) = pure cl ∧
      (∀ y c, cl.lookup y = some c → env.cells.lookup y = some c) ∧ (∀ y, (y, NameKind.free) ∈ names → ∃ c, cl.lookup y = some c) ∧ ∀ y c, acc.lookup y = some c → ∃ c', cl.lookup y = some c'
  | [], acc, _, ha => ⟨acc, by simp, ha, fun _ h => by simp at h, fun y c h => ⟨c, h⟩⟩
  | (n, k) :: r, acc, h, ha => by
    by_cases hk : k = .free
    · subst hk
      obtain ⟨c, hc⟩ := h (n, .free) List.mem_cons_self rfl
      have e : cellOf env n = pure c := by unfold cellOf; rw [hc]
      obtain ⟨cl, e1, h1, h2, h3⟩ := closure_ok r ((n, c) :: acc) (fun y hy => h y (List.mem_cons_of_mem _ hy)) (fun y d hd => by
        rw [List.lookup_cons] at hd
        split at hd
        · rename_i hb
          have : y = n := by simpa using hb
          subst this
          cases hd
          exact hc
        · exact ha y d hd)
      refine ⟨cl, ?_, h1, fun y hy => ?_, fun y d hd => ?_⟩
      · rw [List.forIn_cons, e]
        simpa using e1
      · rcases List.mem_cons.mp hy with z | z
        · cases z
          exact h3 n c (by simp [List.lookup_cons])
        · exact h2 y z
      · by_cases hy : y = n
        · subst hy
          exact h3 y c (by simp [List.lookup_cons])
        · have hb : (y == n) = false := by simpa using hy
          exact h3 y d (by simp only [List.lookup_cons, hb]; exact hd)
    · have hb : (k == NameKind.free) = false := by simpa using hk
      obtain ⟨cl, e1, h1, h2, h3⟩ := closure_ok r acc (fun y hy => h y (List.mem_cons_of_mem _ hy)) ha
      refine ⟨cl, ?_, h1, fun y hy => ?_, h3⟩
      · rw [List.forIn_cons]
        simpa [hb] using e1
      · rcases List.mem_cons.mp hy with z | z
        · cases z
          exact absurd rfl hk
        · exact h2 y z
theorem comp_closure {scope : Scope} {env : Env} (h : ∀ y ∈ scope.names, y.2 = .free → ∃ c, env.cells.lookup y.1 = some c) :
    ∃ cl, closureFor scope env = pure cl ∧ (∀ y c, cl.lookup y = some c → env.cells.lookup y = some c) ∧ ∀ y, (y, NameKind.free) ∈ scope.names → ∃ c, cl.lookup y = some c := by
  obtain ⟨cl, e, h1, h2, _⟩ := closure_ok (env := env) scope.names [] h (fun _ _ z => by simp at z)
  refine ⟨cl, ?_, h1, h2⟩
  unfold closureFor
  show ((forIn scope.names [] fun x r => if (x.2 == NameKind.free) = true then do let c ← cellOf env x.1; pure (ForInStep.yield ((x.1, c) :: r)) else pure (ForInStep.yield r) : Sem (List (Str × Addr))) >>= fun cs => pure cs) = pure cl
  rw [e]
  rfl
section
variable {prog : Program} {w : World} {A : Around} {R : Result → Shared → Prop} {s : Shared}
theorem compLoop_any {elt target iter : Expr} {ifs : List Expr} {scope : Scope} {pos : Pos} {it acc : Value} {env : Env} (I : Nat → Shared → Prop)
    (turn : ∀ n s, I n s → wpAny (model prog w) A (pyNext it) (fun r s₁ => match r with
      | none => R (.ok .next) s₁
      | some v => wpAny (model prog w) A (letOwnedTupleGo target it v) (fun _ s₁' => wpAny (model prog w) A (assign target env v) (fun _ s₂ =>
          wpAny (model prog w) A (forIn ifs true fun c r => if r = true then do let ok ← isTrue c env (eval c env); pure (ForInStep.yield ok) else pure (ForInStep.yield r)) (fun ok s₃ =>
            if ok = true then wpAny (model prog w) A (eval elt env) (fun x s₄ =>
              wpAny (model prog w) A (call (.builtin "list.append") [acc, x]) (fun _ s₅ => ∃ m, m < n ∧ I m s₅) (fun _ _ => False) s₄) (fun _ _ => False) s₃
            else ∃ m, m < n ∧ I m s₃) (fun _ _ => False) s₂) (fun _ _ => False) s₁') (fun _ _ => False) s₁) (fun _ _ => False) s)
    (n : Nat) (h : I n s) : codeAny (model prog w) A (.compLoop (.ListComp elt [⟨target, iter, ifs, 0⟩] scope pos) 0 it acc env) R s := by
  refine codeAny_loop rfl I (fun n s hI => ?_) n h
  show wpAny _ A ((compTurn (.ListComp elt [⟨target, iter, ifs, 0⟩] scope pos) 0 it acc env).onRaise (fun x => do noteFrame x env; theTreesLotGoes x)) _ _ s
  refine wpAny_noted ?_
  rw [compTurn_list]
  refine wpAny_mono (E := fun _ _ => False) ?_ (fun _ _ x => x) fun _ _ x => x.elim
  refine wpAny_bind (wpAny_standAt (wpAny_bind (wpAny_mono (turn n s hI) (fun r s₁ h₁ => ?_) fun _ _ h' => h')))
  cases r with
  | none => exact wpAny_pure h₁
  | some v =>
    refine wpAny_bind (wpAny_mono h₁ (fun _ s₁' h₁' => ?_) fun _ _ h' => h')
    refine wpAny_bind (wpAny_mono h₁' (fun _ s₂ h₂ => wpAny_bind (wpAny_mono h₂ (fun ok s₃ h₃ => ?_) fun _ _ h' => h')) fun _ _ h' => h')
    cases ok with
    | false => exact wpAny_pure ⟨rfl, h₃⟩
    | true =>
      exact wpAny_bind (wpAny_bind (wpAny_mono h₃ (fun x s₄ h₄ => wpAny_bind (wpAny_mono h₄ (fun _ s₅ h₅ => wpAny_pure (wpAny_pure ⟨rfl, h₅⟩)) fun _ _ h' => h')) fun _ _ h' => h'))
end
theorem lookup_relabel {env : Env} {x : Str} : ∀ {names : List (Str × NameKind)}, names.lookup x = some .free →
    (names.map fun (n, k) => if (k == NameKind.free && env.scope.kind == .function && env.kindOf n == some .cell) then (n, NameKind.cell) else (n, k)).lookup x = some .free ∨
    (names.map fun (n, k) => if (k == NameKind.free && env.scope.kind == .function && env.kindOf n == some .cell) then (n, NameKind.cell) else (n, k)).lookup x = some .cell
  | [], h => by simp at h
  | (n, k) :: r, h => by
    have ih := @lookup_relabel env x r
    show List.lookup x ((if (k == NameKind.free && env.scope.kind == .function && env.kindOf n == some .cell) = true then (n, NameKind.cell) else (n, k)) :: _) = _ ∨ List.lookup x ((if (k == NameKind.free && env.scope.kind == .function && env.kindOf n == some .cell) = true then (n, NameKind.cell) else (n, k)) :: _) = _
    cases hx : x == n with
    | true =>
      simp only [List.lookup_cons, hx] at h
      cases h
      by_cases hc : (NameKind.free == NameKind.free && env.scope.kind == .function && env.kindOf n == some .cell) = true
      · rw [if_pos hc]; exact .inr (by simp [List.lookup_cons, hx])
      · rw [if_neg hc]; exact .inl (by simp [List.lookup_cons, hx])
    | false =>
      simp only [List.lookup_cons, hx] at h
      by_cases hc : (k == NameKind.free && env.scope.kind == .function && env.kindOf n == some .cell) = true
      · rw [if_pos hc]; simp only [List.lookup_cons, hx]; exact ih h
      · rw [if_neg hc]; simp only [List.lookup_cons, hx]; exact ih h
theorem relabel_back {env : Env} {x : Str} : ∀ {names : List (Str × NameKind)},
    ((names.map fun (n, k) => if (k == NameKind.free && env.scope.kind == .function && env.kindOf n == some .cell) then (n, NameKind.cell) else (n, k)).lookup x = some .cell ∨
     (names.map fun (n, k) => if (k == NameKind.free && env.scope.kind == .function && env.kindOf n == some .cell) then (n, NameKind.cell) else (n, k)).lookup x = some .free) → names.lookup x = some .free ∨ names.lookup x = some .cell
  | [], h => by simp at h
  | (n, k) :: r, h => by
    have ih := @relabel_back env x r
    have h : List.lookup x ((if (k == NameKind.free && env.scope.kind == .function && env.kindOf n == some .cell) = true then (n, NameKind.cell) else (n, k)) :: (r.map fun (n, k) => if (k == NameKind.free && env.scope.kind == .function && env.kindOf n == some .cell) then (n, NameKind.cell) else (n, k))) = some .cell ∨
      List.lookup x ((if (k == NameKind.free && env.scope.kind == .function && env.kindOf n == some .cell) = true then (n, NameKind.cell) else (n, k)) :: (r.map fun (n, k) => if (k == NameKind.free && env.scope.kind == .function && env.kindOf n == some .cell) then (n, NameKind.cell) else (n, k))) = some .free := h
    cases hx : x == n with
    | true =>
      by_cases hc : (k == NameKind.free && env.scope.kind == .function && env.kindOf n == some .cell) = true
      · have : k = .free := by
          have z := (Bool.and_eq_true_iff.mp (Bool.and_eq_true_iff.mp hc).1).1
          simpa using z
        subst this
        exact .inl (by simp [List.lookup_cons, hx])
      · rw [if_neg hc] at h
        simp only [List.lookup_cons, hx] at h ⊢
        exact h.symm
    | false =>
      have : ∀ p : NameKind, List.lookup x ((if (k == NameKind.free && env.scope.kind == .function && env.kindOf n == some .cell) = true then (n, NameKind.cell) else (n, k)) :: (r.map fun (n, k) => if (k == NameKind.free && env.scope.kind == .function && env.kindOf n == some .cell) then (n, NameKind.cell) else (n, k))) = some p ↔ (r.map fun (n, k) => if (k == NameKind.free && env.scope.kind == .function && env.kindOf n == some .cell) then (n, NameKind.cell) else (n, k)).lookup x = some p := fun p => by
        by_cases hc : (k == NameKind.free && env.scope.kind == .function && env.kindOf n == some .cell) = true
        · rw [if_pos hc]; simp only [List.lookup_cons, hx]
        · rw [if_neg hc]; simp only [List.lookup_cons, hx]
      rw [this .cell, this .free] at h
      have := ih h
      simp only [List.lookup_cons, hx]
      exact this
theorem cells_split : ∀ (names : List (Str × NameKind)) (n : Nat) (acc : List (Str × Addr)), cellsFrom n names acc = cellsFrom n names [] ++ acc
  | [], _, _ => rfl
  | (name, kind) :: r, n, acc => by
    unfold cellsFrom
    split
    · rw [cells_split r (n + 1) ((name, n) :: acc), cells_split r (n + 1) [(name, n)], List.append_assoc]
      rfl
    · exact cells_split r n acc
theorem cells_own {x : Str} {c : Addr} : ∀ (names : List (Str × NameKind)) (n : Nat) (acc : List (Str × Addr)), (x, c) ∈ cellsFrom n names acc → (x, NameKind.cell) ∈ names ∨ (x, c) ∈ acc
  | [], _, _, h => .inr h
  | (name, kind) :: r, n, acc, h => by
    unfold cellsFrom at h
    split at h
    · rename_i hk
      have hk' : kind = .cell := by simpa using hk
      rcases cells_own r (n + 1) _ h with z | z
      · exact .inl (List.mem_cons_of_mem _ z)
      · rcases List.mem_cons.mp z with z | z
        · cases z; rw [hk']; exact .inl List.mem_cons_self
        · exact .inr z
    · rcases cells_own r n acc h with z | z
      · exact .inl (List.mem_cons_of_mem _ z)
      · exact .inr z
structure CompScope (X : Cx) (N' own : List Str) (cap : List (Str × Nat)) (scope : Scope) : Prop where
  kind : scope.kind = .function
  own1 : ∀ y ∈ scope.names, y.2 = .cell → scope.names.lookup y.1 = some .cell
  free1 : ∀ y ∈ scope.names, y.2 = .free → scope.names.lookup y.1 = some .free
  names : ∀ y ∈ scope.names, y.2 = .local → scope.names.lookup y.1 = some .local
  free : ∀ y ∈ scope.names, y.2 = .free → X.env.kindOf y.1 = some .cell ∨ X.env.kindOf y.1 = some .free
  eq : N' = own ++ cap.map (·.1)
  cap : ∀ p ∈ cap, X.N[p.2]? = some p.1 ∧ scope.names.lookup p.1 = some .free ∧ (X.env.kindOf p.1 = some .cell ∨ X.env.kindOf p.1 = some .free)
def capSt (own : List Str) (cap : List (Str × Nat)) (σ : St) : St := own.map (fun _ => none) ++ cap.map fun p => (σ[p.2]?).join
section
variable {X : Cx} {pins : List (Addr × Obj)} {σ : St} {H : Hp} {s : Shared} {N' own : List Str} {cap : List (Str × Nat)} {scope : Scope} {cl : List (Str × Addr)} {fp : List Addr}
structure CellsAre (X : Cx) (scope : Scope) (C : Addr) (cl cs : List (Str × Addr)) : Prop where
  old : ∀ y c, cs.lookup y = some c → (cl.lookup y = some c ∧ scope.names.lookup y ≠ some .cell) ∨ (C < c ∧ scope.names.lookup y = some .cell)
  free : ∀ y c, cl.lookup y = some c → scope.names.lookup y ≠ some .cell → cs.lookup y = some c
  has : ∀ y, scope.names.lookup y = some .cell → ∃ c, cs.lookup y = some c
  inj : ∀ x y c, C < c → cs.lookup x = some c → cs.lookup y = some c → x = y
theorem lookup_app {α : Type} {x : Str} : ∀ {l r : List (Str × α)}, (l ++ r).lookup x = (l.lookup x).or (r.lookup x)
  | [], r => by simp
  | (k, v) :: l, r => by
    have ih := @lookup_app α x l r
    rw [List.cons_append, List.lookup_cons, List.lookup_cons]
    cases x == k with
    | true => rfl
    | false => exact ih
theorem cells_are {h : Heap} {C : Addr} (hC : h.objs.size = C + 1) (S : CompScope X N' own cap scope) (hcl : ∀ y c, cl.lookup y = some c → ¬ C < c) : CellsAre X scope C cl (cellsFrom (C + 1) scope.names cl) := by
  have ok := cellsFrom_ok scope.names h (C + 1) [] ⟨fun _ _ hm => (nomatch hm), List.Pairwise.nil⟩ (by rw [hC]; exact Nat.le_refl _)
  rw [hC] at ok
  have own : ∀ y c, (cellsFrom (C + 1) scope.names []).lookup y = some c → C < c ∧ scope.names.lookup y = some .cell := fun y c e => by
    have m := PySem.mem_of_lookup e
    refine ⟨(ok.empty y c m).2, ?_⟩
    rcases cells_own _ _ _ m with z | z
    · exact S.own1 _ z rfl
    · simp at z
  have no : ∀ y, scope.names.lookup y ≠ some .cell → (cellsFrom (C + 1) scope.names []).lookup y = none := fun y hy => by
    cases e : (cellsFrom (C + 1) scope.names []).lookup y with
    | none => rfl
    | some c => exact absurd (own y c e).2 hy
  have has : ∀ y, scope.names.lookup y = some .cell → ∃ c, (cellsFrom (C + 1) scope.names []).lookup y = some c := fun y hy => Option.isSome_iff_exists.mp (PySem.W.cellsFrom_some scope.names (C + 1) [] (.inl hy))
  refine ⟨fun y c e => ?_, fun y c e hy => ?_, fun y hy => ?_, fun x y c hc e1 e2 => ?_⟩
  · rw [cells_split, lookup_app] at e
    cases q : (cellsFrom (C + 1) scope.names []).lookup y with
    | none =>
      rw [q] at e
      refine .inl ⟨e, fun z => ?_⟩
      obtain ⟨c', e'⟩ := has y z
      rw [q] at e'; cases e'
    | some c' =>
      rw [q] at e
      have : c' = c := Option.some.inj e
      subst this
      exact .inr (own y c' q)
  · rw [cells_split, lookup_app, no y hy]
    exact e
  · obtain ⟨c, e⟩ := has y hy
    exact ⟨c, by rw [cells_split, lookup_app, e]; rfl⟩
  · have pick : ∀ z, (cellsFrom (C + 1) scope.names cl).lookup z = some c → (z, c) ∈ cellsFrom (C + 1) scope.names [] := fun z e => by
      rw [cells_split, lookup_app] at e
      cases q : (cellsFrom (C + 1) scope.names []).lookup z with
      | none => rw [q] at e; exact absurd hc (hcl z c e)
      | some c' =>
        rw [q] at e
        have : c' = c := Option.some.inj e
        subst this
        exact PySem.mem_of_lookup q
    exact PySem.name_of_addr ok.apart (pick x e1) (pick y e2)
theorem comp_ok (I : Inv X pins σ H s) (S : CompScope X N' own cap scope) {cs : List (Str × Addr)} (A : CellsAre X scope s.heap.objs.size cl cs) (c1 : ∀ y c, cl.lookup y = some c → X.env.cells.lookup y = some c) (c2 : ∀ y, (y, NameKind.free) ∈ scope.names → ∃ c, cl.lookup y = some c)
    (hf : ∀ b ∈ fp, FpOk X pins H b) (hlt : ∀ b ∈ fp, b < s.heap.objs.size) : (compCx X N' scope cs s.heap.objs.size s H fp).Ok where
  mod := I.ok.mod
  kind := S.kind
  glob := I.ok.glob
  blt := I.ok.blt
  above := Nat.le_refl _
  inj := fun x y c h1 h2 => by
    rcases A.old x c h1 with ⟨a1, _⟩ | ⟨a1, _⟩
    · rcases A.old y c h2 with ⟨b1, _⟩ | ⟨b1, _⟩
      · exact I.ok.inj x y c (c1 x c a1) (c1 y c b1)
      · obtain ⟨v, o, ho, _⟩ := I.cell x c (c1 x c a1)
        exact absurd (Nat.lt_trans b1 (Heap.lt_size ho)) (Nat.lt_irrefl _)
    · exact A.inj x y c a1 h1 h2
  has := fun x h => by
    rcases relabel_back h with z | z
    · obtain ⟨c, e⟩ := c2 x (PySem.mem_of_lookup z)
      exact ⟨c, A.free x c e (by rw [z]; simp)⟩
    · exact A.has x z
  cab := fun x c h e => by
    have h' : scope.names.lookup x = some .cell := by
      have : (scope.names.lookup x == some NameKind.cell) = true := h
      simpa using this
    rcases A.old x c e with ⟨_, z⟩ | ⟨z, _⟩
    · exact absurd h' z
    · exact Nat.le_of_lt z
  hd := I.ok.hd
  frames := I.ok.frames
  stk := .inl rfl
  exf := fun b hb => ⟨Nat.ne_of_lt (hlt b hb), fun x c h => by
    rcases A.old x c h with ⟨z, _⟩ | ⟨z, _⟩
    · exact (hf b hb).2.2.2.2.1 x c (c1 x c z)
    · exact fun e => absurd (Nat.lt_trans (e ▸ z) (hlt b hb)) (Nat.lt_irrefl _)⟩
  bs := I.bs
  bsz := Nat.le_trans I.ok.bsz I.sz
  noex := fun b o e hb => by
    rcases (hf b hb).2.2.2.1 with z | z
    · exact I.ok.noex b o e z
    · exact absurd (Nat.lt_of_lt_of_le (Heap.lt_size e) (Nat.le_trans I.ok.bsz z)) (Nat.lt_irrefl _)
  exfs := fun b hb z => by
    rcases List.mem_cons.mp (I.stkSub b z) with q | q
    · exact (hf b hb).2.1 q
    · exact (hf b hb).2.2.1 q
  funs := I.stack
  frf := I.stkFree
theorem comp_inv {h' : Heap} {t' : Nat} {cs : List (Str × Addr)} (I : Inv X pins σ H s) (S : CompScope X N' own cap scope) (A : CellsAre X scope s.heap.objs.size cl cs) (hA : ∀ y c, cs.lookup y = some c → s.heap.objs.size < c → h'.IsCell c none)
    (c1 : ∀ y c, cl.lookup y = some c → X.env.cells.lookup y = some c) (c2 : ∀ y, (y, NameKind.free) ∈ scope.names → ∃ c, cl.lookup y = some c)
    (hf : ∀ b ∈ fp, FpOk X pins H b) (hlt : ∀ b ∈ fp, b < s.heap.objs.size) (hk : ∀ b o, s.heap.get? b = some o → h'.get? b = some o) {m : Str → Option Value} (hn : h'.Ns s.heap.objs.size m) :
    Inv (compCx X N' scope cs s.heap.objs.size s H fp) [] (capSt own cap σ) H { s with heap := h', toks := t' } := by
  refine ⟨comp_ok I S A c1 c2 hf hlt, rfl, I.bare, Un.kept hk, ⟨m, hn, fun i x v h1 h2 h3 => ?_⟩, fun x c e => ?_, I.hok.fresh (Nat.le_refl _), fun x c e => ?_, fun p hp => absurd hp (by show p ∉ ([] ++ [] : List (Addr × Obj)); simp), ?_, ?_⟩
  · have hi : own.length ≤ i := by
      by_cases hi : own.length ≤ i
      · exact hi
      · unfold capSt at h2
        rw [List.getElem?_append_left (by rw [List.length_map]; omega), List.getElem?_map] at h2
        cases e : own[i]? with
        | none => rw [e] at h2; cases h2
        | some a => rw [e] at h2; cases h2
    have h1' : (own ++ cap.map (·.1))[i]? = some x := by rw [← S.eq]; exact h1
    rw [List.getElem?_append_right hi, List.getElem?_map] at h1'
    unfold capSt at h2
    rw [List.getElem?_append_right (by rw [List.length_map]; exact hi), List.length_map, List.getElem?_map] at h2
    cases e : cap[i - own.length]? with
    | none => rw [e] at h2; cases h2
    | some p =>
      rw [e] at h1' h2
      have ex : p.1 = x := Option.some.inj h1'
      have ev : (σ[p.2]?).join = some v := Option.some.inj h2
      have ev' : σ[p.2]? = some (some v) := by
        cases q : σ[p.2]? with
        | none => rw [q] at ev; cases ev
        | some z => rw [q] at ev; exact congrArg some ev
      obtain ⟨k1, k2, k3⟩ := S.cap p (List.mem_of_getElem? e)
      subst ex
      obtain ⟨m0, hn0, hl⟩ := I.loc
      obtain ⟨u, ru, lk⟩ := hl p.2 p.1 v k1 ev' (by rcases k3 with z | z; exact .inr (.inl z); exact .inr (.inr z))
      refine ⟨u, ru, ?_⟩
      rcases lk with ⟨z, _⟩ | ⟨_, c, hc, hcell⟩
      · rcases k3 with q | q <;> (rw [z] at q; cases q)
      · refine .inr ⟨?_, c, ?_, ?_⟩
        · rcases lookup_relabel (env := X.env) k2 with q | q
          · exact .inr q
          · exact .inl q
        · obtain ⟨c', e'⟩ := c2 p.1 (PySem.mem_of_lookup k2)
          have := c1 _ _ e'
          rw [hc] at this
          cases this
          exact A.free _ _ e' (by rw [k2]; simp)
        · obtain ⟨o, ho, hd⟩ := hcell
          exact ⟨o, hk _ _ ho, hd⟩
  · rcases A.old x c e with ⟨z, _⟩ | ⟨z, _⟩
    · obtain ⟨v, o, ho, hd⟩ := I.cell x c (c1 x c z)
      exact ⟨v, o, hk _ _ ho, hd⟩
    · exact ⟨none, hA x c e z⟩
  · rcases A.old x c e with ⟨z, _⟩ | ⟨z, _⟩
    · exact I.freeC x c (c1 x c z)
    · exact I.hok.fresh (Nat.le_of_lt z)
  · exact I.hok.kept hk
  · show (capSt own cap σ).length = N'.length
    rw [S.eq]
    unfold capSt
    simp
end
end L2
set_option Elab.async false
set_option linter.all false
set_option maxRecDepth 100000
namespace L2
open PySem PySem.Spec PyProof.Rows
def PIf (X : Cx) (ifs : List Expr) (t : TT) : Prop :=
  ∀ (pins : List (Addr × Obj)) (s : Shared) (σ : St) (H : Hp) (Q : Bool → Hp → Prop), Inv X pins σ H s → t σ H Q →
    wpAny (model X.prog X.w) X.A (forIn ifs true fun c r => if r = true then do let ok ← isTrue c X.env (eval c X.env); pure (ForInStep.yield ok) else pure (ForInStep.yield r)) (TP X pins σ Q) X.xe s
def tYes : TT := fun _ H Q => Q true H
theorem pif_nil {X : Cx} : PIf X [] tYes := fun _ _ _ H _ I h => wpAny_tests_nil ⟨H, I, h⟩
theorem pif_one {X : Cx} {c : Expr} {t : TT} (h : PT X c t) : PIf X [c] t := fun pins s σ H Q I hw => wpAny_tests_one (h pins s σ H Q I hw)
theorem newEnv_around {M : Model} {A : Around} {E : Value → Shared → Prop} {s : Shared} {scope : Scope} {globals : Addr} {cl : List (Str × Addr)} {qual : Str} {env : Env} {Q : Env → Shared → Prop}
    (hQ : ∀ h', h'.Ns s.heap.objs.size (fun _ => none) → (∀ b o, s.heap.get? b = some o → h'.get? b = some o) → (∀ n c, (n, c) ∈ cellsFrom (s.heap.objs.size + 1) scope.names [] → h'.IsCell c none) →
      Q (newEnv scope s.heap.objs.size globals (cellsFrom (s.heap.objs.size + 1) scope.names cl) qual none .none (some env) builtinsNs) { s with heap := h' }) :
    wpAny M A (newFunctionEnv scope globals cl [] qual none .none (some env)) Q E s := by
  simp only [newFunctionEnv, Option.isSome_some, if_true]
  refine wpAny_bind (wpAny_alloc ?_)
  refine wpAny_bind (wpAny_layCells _ (fun name kind cells => by cases hkc : kind == NameKind.cell <;> simp [hkc]) _ _ _ _ ?_)
  have ok := cellsFrom_ok scope.names (s.heap.push { cls := .type "dict", data := .dict #[] }) (s.heap.objs.size + 1) [] ⟨fun _ _ hm => (nomatch hm), List.Pairwise.nil⟩ (by rw [Heap.size_push]; exact Nat.le_refl _)
  rw [Heap.size_push] at ok
  rw [show ({ s with heap := s.heap.push { cls := .type "dict", data := .dict #[] } } : Shared).heap.objs.size = s.heap.objs.size + 1 from Heap.size_push ..]
  rw [List.forIn_nil]
  refine wpAny_bind (wpAny_pure (wpAny_pure ?_))
  exact hQ _ ((Heap.Ns.new s.heap (.type "dict")).keeps (pushCells_keeps _ _)) (fun b o e => pushCells_keeps _ _ b o (Heap.get?_push_of_some _ e)) fun n c hm => (ok.empty n c hm).1
def CompTurns (J : It) (g : TG) (tc : TT) (te : TE) (D : Addr) (σ0 : St) (H0 : Hp) (Z : Hp → Prop) : Prop :=
  ∃ W : Nat → Nat → St → Hp → Prop, (∃ m, W 0 m σ0 (upd H0 D (.lst []))) ∧ ∀ i m σ H, W i m σ H →
    (J.stop i H ∧ Z H) ∨ (J.go i H ∧ ∃ N : St → Hp → Prop, (∀ σ' H', N σ' H' → ∃ m', m' < m ∧ W (i + 1) m' σ' H') ∧ ∀ x H', J.yld i H x H' → g x σ H' fun σ2 H2 => tc σ2 H2 fun b H3 =>
      if b = true then te σ2 H3 fun v H4 => ∃ ys, H4 D = some (.lst ys) ∧ ys.length < sizeLine ∧ N σ2 (upd H4 D (.lst (ys ++ [v]))) else N σ2 H3)
section
variable {X : Cx} {pins : List (Addr × Obj)} {σ : St} {N' own : List Str} {cap : List (Str × Nat)} {scope : Scope} {tg iter elt : Expr} {ifs : List Expr} {pos : Pos} {g : TG} {tc : TT} {te : TE}
theorem comp_core {s2 : Shared} {H2 : Hp} {it : Addr} {fp : List Addr} {tn : Nat → Heap → Prop} {J : It} {cl : List (Str × Addr)} {Z : Addr → Hp → Prop} {RR : Value → Addr → Result → Shared → Prop} {E : Value → Shared → Prop}
    (hx : ∀ e s, X.xe e s → False) (hc : X.calm = true) (S : CompScope X N' own cap scope)
    (hg : ∀ cl C s₀ H₀ ex, PG (compCx X N' scope cl C s₀ H₀ ex) tg g) (ht : ∀ cl C s₀ H₀ ex, PIf (compCx X N' scope cl C s₀ H₀ ex) ifs tc) (he : ∀ cl C s₀ H₀ ex, PE (compCx X N' scope cl C s₀ H₀ ex) elt te)
    (I2 : Inv X pins σ H2 s2) (T : Turn X.prog X.w X.K tg J fp it tn) (st2 : tn 0 s2.heap) (f2 : ∀ b ∈ fp, FpOk X pins H2 b)
    (c1 : ∀ y c, cl.lookup y = some c → X.env.cells.lookup y = some c) (c2 : ∀ y, (y, NameKind.free) ∈ scope.names → ∃ c, cl.lookup y = some c)
    (h : ∀ D, H2 D = none → CompTurns J g tc te D (capSt own cap σ) H2 (Z D))
    (hRR : ∀ D C s' m' H', Inv X pins σ H' s' → s'.heap.Ns C m' → FpOk X pins H' C → Z D H' → RR (.ref D) C (.ok .next) s') :
    wpAny (model X.prog X.w) X.A (newList []) (fun acc s₃ => wpAny (model X.prog X.w) X.A (newFunctionEnv scope X.env.globals cl [] X.env.qual none .none (some X.env)) (fun cenv s₄ =>
      codeAny (model X.prog X.w) X.A (.compStart (.ListComp elt [⟨tg, iter, ifs, 0⟩] scope pos) 0 (.ref it) acc { cenv with scope := relabel scope X.env }) (RR acc cenv.locals) s₄) E s₃) E s2 := by
  have hlt : ∀ b ∈ fp, b < s2.heap.objs.size := fun b hb => by
    obtain ⟨o, e, _⟩ := T.obj _ _ st2 b hb
    exact Heap.lt_size e
  have hD : H2 s2.heap.objs.size = none := I2.hok.fresh (Nat.le_refl _)
  obtain ⟨W, ⟨m0, w0⟩, turn⟩ := h _ hD
  refine wpAny_newObj_type (newEnv_around (fun h₁ hns₁ hk₁ hce₁ => ?_))
  dsimp only at hns₁ hk₁ hce₁ ⊢
  have I3 : Inv X pins σ (upd H2 s2.heap.objs.size (.lst [])) { s2 with heap := s2.heap.push { cls := .type "list", dict := none, data := .seq ([] : List Value).toArray }, toks := s2.toks } :=
    I2.laid (fun b o e => Heap.get?_push_of_some _ e) (Nat.le_refl _) ⟨Nat.zero_le _, [], 0, .nil, Heap.get?_push_size _ rfl⟩
  generalize hs3 : ({ s2 with heap := s2.heap.push { cls := .type "list", dict := none, data := .seq ([] : List Value).toArray }, toks := s2.toks } : Shared) = s3 at I3
  have e3 : s2.heap.push { cls := .type "list", dict := none, data := .seq ([] : List Value).toArray } = s3.heap := by rw [← hs3]
  have hsz : s3.heap.objs.size = s2.heap.objs.size + 1 := by rw [← e3, Heap.size_push]
  rw [e3] at hns₁ hk₁ hce₁ ⊢
  have hk := hk₁
  have hcl : ∀ y c, cl.lookup y = some c → ¬ s3.heap.objs.size < c := fun y c e z => by
    obtain ⟨v, o, ho, _⟩ := I3.cell y c (c1 y c e)
    exact Nat.lt_irrefl _ (Nat.lt_trans z (Heap.lt_size ho))
  have CA : CellsAre X scope s3.heap.objs.size cl (cellsFrom (s3.heap.objs.size + 1) scope.names cl) := cells_are (h := s3.heap.push { cls := .type "dict", data := .dict #[] }) (by rw [Heap.size_push]) S hcl
  have hcell : ∀ y c, (cellsFrom (s3.heap.objs.size + 1) scope.names cl).lookup y = some c → s3.heap.objs.size < c → h₁.IsCell c none := fun y c e z => by
    rw [cells_split, lookup_app] at e
    cases q : (cellsFrom (s3.heap.objs.size + 1) scope.names []).lookup y with
    | none => rw [q] at e; exact absurd z (hcl y c e)
    | some c' =>
      rw [q] at e
      have : c' = c := Option.some.inj e
      subst this
      exact hce₁ y c' (PySem.mem_of_lookup q)
  generalize hcs : cellsFrom (s3.heap.objs.size + 1) scope.names cl = cs at CA hcell ⊢
  have f3 : ∀ b ∈ fp, FpOk X pins (upd H2 s2.heap.objs.size (.lst [])) b := fun b hb => ⟨by rw [upd_ne (Nat.ne_of_lt (hlt b hb))]; exact (f2 b hb).1, (f2 b hb).2⟩
  have hlt3 : ∀ b ∈ fp, b < s3.heap.objs.size := fun b hb => by rw [hsz]; exact Nat.lt_succ_of_lt (hlt b hb)
  have st3 : tn 0 h₁ := T.keep _ _ _ st2 fun b hb o e => hk b o (by rw [← e3]; exact Heap.get?_push_of_some _ e)
  have J0 : Inv (compCx X N' scope cs s3.heap.objs.size s3 (upd H2 s2.heap.objs.size (.lst [])) fp) [] (capSt own cap σ) (upd H2 s2.heap.objs.size (.lst [])) { s3 with heap := h₁, toks := s2.toks } :=
    comp_inv I3 S CA hcell c1 c2 f3 hlt3 hk hns₁
  have stat : ∀ {pl : List (Addr × Obj)} {H' : Hp}, pl = [] → (∀ b ∈ fp, H' b = none) → ∀ b ∈ fp, FpOk (compCx X N' scope cs s3.heap.objs.size s3 (upd H2 s2.heap.objs.size (.lst [])) fp) pl H' b := fun {pl H'} hp hn b hb => by
    subst hp
    refine ⟨hn b hb, Nat.ne_of_lt (hlt3 b hb), J0.ok.exfs b hb, .inl hb, fun x c e => J0.ok.exf b hb |>.2 x c e, fun p hp => absurd hp (by show p ∉ ([] ++ [] : List (Addr × Obj)); simp)⟩
  have noX : ∀ {α : Type} {t : Sem α} {Q : α → Shared → Prop} {s : Shared}, wpAny (model X.prog X.w) X.A t Q X.xe s → wpAny (model X.prog X.w) X.A t Q (fun _ _ => False) s := fun q => wpAny_mono q (fun _ _ z => z) fun e s z => hx e s z
  have loop : codeAny (model X.prog X.w) X.A (.compLoop (.ListComp elt [⟨tg, iter, ifs, 0⟩] scope pos) 0 (.ref it) (.ref s2.heap.objs.size) (compEnvC scope cs s3.heap.objs.size X.env)) (RR (.ref s2.heap.objs.size) s3.heap.objs.size)
      { s3 with heap := h₁, toks := s2.toks } := by
    refine compLoop_any (fun n s' => ∃ i σ' H', Inv (compCx X N' scope cs s3.heap.objs.size s3 (upd H2 s2.heap.objs.size (.lst [])) fp) [] σ' H' s' ∧ tn i s'.heap ∧ (∀ b ∈ fp, H' b = none) ∧ W i n σ' H') ?_ m0
      ⟨0, _, _, J0, st3, fun b hb => (f3 b hb).1, w0⟩
    rintro n s4 ⟨i, σ4, H4, I4, st4, fr4, w4⟩
    rcases turn i n σ4 H4 w4 with ⟨stop, qz⟩ | ⟨go, N, hN, step⟩
    · refine wpAny_mono (T.done (compCx X N' scope cs s3.heap.objs.size s3 (upd H2 s2.heap.objs.size (.lst [])) fp) rfl rfl rfl hc i [] s4 σ4 H4 (fun _ _ => False) I4 (stat rfl fr4) st4 stop) (fun r s5 ⟨hr, I5⟩ => ?_) fun _ _ z => z
      subst hr
      have I6 : Inv X pins σ H4 s5 := I3.call' (ch := fp) I5.os I5.base I5.hok I5.bare fun b hb => ⟨(f3 b hb).2.2.2.1, (f3 b hb).2.1, (f3 b hb).2.2.2.2.1, (f3 b hb).2.2.2.2.2⟩
      obtain ⟨m', hn', _⟩ := I5.loc
      exact hRR _ _ s5 m' H4 I6 hn' (I3.fpOk (Nat.le_refl _) I5.free) qz
    · refine wpAny_mono (T.item (compCx X N' scope cs s3.heap.objs.size s3 (upd H2 s2.heap.objs.size (.lst [])) fp) rfl rfl rfl hc i [] s4 σ4 H4 (fun _ _ => False) I4 (stat rfl fr4) st4 go) (fun r s5 ⟨u, hr, h5⟩ => ?_) fun _ _ z => z
      subst hr
      refine wpAny_mono h5 (fun _ s6 ⟨x, H6, I6, r6, y6, st6, fr6⟩ => ?_) fun _ _ z => z
      have I6' := I6.pinned (stat rfl fr6) (T.obj _ _ st6)
      have again : ∀ {σ7 : St} {H7 : Hp} {s7 : Shared}, Inv (compCx X N' scope cs s3.heap.objs.size s3 (upd H2 s2.heap.objs.size (.lst [])) fp) ([] ++ pinsAt fp s6.heap) σ7 H7 s7 → N σ7 H7 →
          ∃ m, m < n ∧ ∃ i σ' H', Inv (compCx X N' scope cs s3.heap.objs.size s3 (upd H2 s2.heap.objs.size (.lst [])) fp) [] σ' H' s7 ∧ tn i s7.heap ∧ (∀ b ∈ fp, H' b = none) ∧ W i m σ' H' := fun {σ7 H7 s7} I7 n7 => by
        obtain ⟨m', hm, w7⟩ := hN σ7 H7 n7
        refine ⟨m', hm, i + 1, σ7, H7, I7.unpinned, T.keep _ _ _ st6 fun b hb o e => (I7.pin (b, o) (List.mem_append_right _ (List.mem_append_right _ (mem_pinsAt hb e)))).1, fun b hb => ?_, w7⟩
        obtain ⟨o, e, d⟩ := T.obj _ _ st6 b hb
        exact (I7.pin (b, o) (List.mem_append_right _ (List.mem_append_right _ (mem_pinsAt hb e)))).2.1
      refine noX (thn (hg _ _ _ _ _ _ s6 σ4 H6 x u _ I6' r6 (step x H6 y6)) fun _ s7 ⟨σ7, H7, I7, q7⟩ => ?_)
      refine noX (thn (ht _ _ _ _ _ _ s7 σ7 H7 _ I7 q7) fun b s8 ⟨H8, I8, q8⟩ => ?_)
      cases b with
      | false =>
        show ∃ m, _
        exact again I8 q8
      | true =>
        show wpAny _ _ _ _ _ _
        refine noX (thn (he _ _ _ _ _ _ s8 σ7 H8 _ I8 q8) fun y s9 ⟨v, H9, I9, r9, ys, hy, hz, q9⟩ => ?_)
        refine noX (thn (mt_append (X := compCx X N' scope cs s3.heap.objs.size s3 (upd H2 s2.heap.objs.size (.lst [])) fp) _ s9 σ7 H9 (.ref s2.heap.objs.size) [v] (.ref s2.heap.objs.size) [y] (fun _ H' => N σ7 H') I9 rfl (.cons r9 .nil) ⟨_, ys, v, rfl, rfl, hy, hz, q9⟩) fun _ s10 ⟨_, H10, I10, _, q10⟩ => ?_)
        exact again I10 q10
  have lp : codeAny (model X.prog X.w) X.A (.compStart (.ListComp elt [⟨tg, iter, ifs, 0⟩] scope pos) 0 (.ref it) (.ref s2.heap.objs.size) (compEnvC scope cs s3.heap.objs.size X.env)) (RR (.ref s2.heap.objs.size) s3.heap.objs.size)
      { s3 with heap := h₁, toks := s2.toks } := codeAny_compStart_list loop (T.self _ 0 _ _ _ st3 loop)
  subst hs3
  exact lp
end
end L2
set_option Elab.async false
set_option linter.all false
set_option maxRecDepth 100000
namespace L2
open PySem PySem.Spec PyProof.Rows
def tComp (own : List Str) (cap : List (Str × Nat)) (wi : TI) (g : TG) (tc : TT) (te : TE) : TE := fun σ H Q => wi σ H fun J H1 => ∀ D, H1 D = none → CompTurns J g tc te D (capSt own cap σ) H1 (Q (.ref D))
section
variable {X : Cx} {N' own : List Str} {cap : List (Str × Nat)} {scope : Scope} {tg iter elt : Expr} {ifs : List Expr} {pos : Pos} {wi : TI} {g : TG} {tc : TT} {te : TE}
theorem Inv.letgo {pins : List (Addr × Obj)} {σ : St} {H : Hp} {s : Shared} {h' : Heap} {C : Addr} (I : Inv X pins σ H s) (f : FpOk X pins H C) (hs : Heap.SameBut C s.heap h') : Inv X pins σ H { s with heap := h' } :=
  I.turned (t' := s.toks) (it := C) (fun b o hb e => (hs.2 b hb).trans e) f.1 f.2.1 f.2.2.2.1 f.2.2.2.2.1 f.2.2.2.2.2
theorem pe_comp (S : CompScope X N' own cap scope) (hi : PI X tg iter wi)
    (hg : ∀ cl C s₀ H₀ ex, PG (compCx X N' scope cl C s₀ H₀ ex) tg g) (ht : ∀ cl C s₀ H₀ ex, PIf (compCx X N' scope cl C s₀ H₀ ex) ifs tc) (he : ∀ cl C s₀ H₀ ex, PE (compCx X N' scope cl C s₀ H₀ ex) elt te)
    (hx : ∀ e s, X.xe e s → False := by exact fun _ _ z => z) (hc : X.calm = true := by rfl) (hs : ∀ x, foldedSetIterable iter X.env x = pure x := by intro _; rfl) :
    PE X (.ListComp elt [⟨tg, iter, ifs, 0⟩] scope pos) (tComp own cap wi g tc te) := by
  intro pins s σ H Q I h
  rw [eval_ListComp]
  obtain ⟨cl, hcl, c1, c2⟩ := comp_closure (scope := scope) (env := X.env) fun y hy hk => I.ok.has y.1 (S.free y hy hk)
  refine wpAny_comprehension_free (use := none) rfl hs hcl S.kind S.names (thn (hi pins s σ H _ I h) fun v s1 h1 => thn h1 fun itv s2 h2 => ?_)
  obtain ⟨it, fp, tn, J, H2, e, I2, T, st2, f2, q⟩ := h2
  subst e
  refine comp_core (RR := fun acc C => compPost (model X.prog X.w) X.A X.xe none (EP X pins σ Q) acc C) (Z := fun D => Q (.ref D)) hx hc S hg ht he I2 T st2 f2 c1 c2 q ?_
  intro D C s' m' H' I' hn' f' z
  exact ⟨m', hn', fun h'' hs'' => ⟨.ref D, H', I'.letgo f' hs'', rfl, z⟩⟩
end
section
variable {K : PySem.W.Frag} {g : TG} {tc : TT} {te : TE} {D : Addr} {σ0 : St} {H0 : Hp} {Z : Hp → Prop}
end
end L2
set_option Elab.async false
set_option linter.all false
set_option maxRecDepth 100000
namespace L2
open PySem PySem.Spec PyProof.Rows
section
variable {X : Cx} {pins : List (Addr × Obj)} {σ : St} {H : Hp} {s : Shared} {h' : Heap} {ch : List Addr}
end
section
variable {X : Cx}
end
end L2
set_option Elab.async false
set_option linter.all false
set_option maxRecDepth 100000
namespace L2
open PySem PySem.Spec PyProof.Rows
section
variable {X : Cx}
end
end L2
set_option Elab.async false
set_option linter.all false
set_option maxRecDepth 100000
namespace L2
open PySem PySem.Spec PyProof.Rows
def tyNames : List String := ["int", "bool", "str", "NoneType", "list", "tuple", "dict"]
def clNames : List String := ["int", "bool", "str", "list", "tuple", "dict"]
def subT (t c : String) : Bool := t == c || (t == "bool" && c == "int")
theorem kit_tab {K : PySem.W.Frag} {t c : String} (ht : t ∈ tyNames) (hc : c ∈ clNames) : PySem.W.kitOne K (.type t) (.type c) = some (subT t c) := by
  simp only [tyNames, clNames, List.mem_cons, List.not_mem_nil, or_false] at ht hc
  rcases ht with rfl | rfl | rfl | rfl | rfl | rfl | rfl <;> rcases hc with rfl | rfl | rfl | rfl | rfl | rfl <;> first | rfl | decide | (with_unfolding_all rfl)
inductive TyN (K : PySem.W.Frag) (H : Hp) : V → String → Prop where
  | non : TyN K H .non "NoneType"
  | bl (x : Bool) : TyN K H (.bl x) "bool"
  | int (i : Int) : TyN K H (.int i) "int"
  | str (x : Str) : TyN K H (.str x) "str"
  | lst {a : Addr} {xs : List V} (e : SqL K H a xs) : TyN K H (.ref a) "list"
  | tup {a : Addr} {xs : List V} (e : SqT K H a xs) : TyN K H (.ref a) "tuple"
  | dK {a : Addr} {kvs : List (Key × V)} (e : H a = some (.dK kvs)) : TyN K H (.ref a) "dict"
theorem TyN.mem {K : PySem.W.Frag} {H : Hp} {x : V} {t : String} (h : TyN K H x t) : t ∈ tyNames := by cases h <;> simp [tyNames]
section
variable {X : Cx}
theorem call_isi : CallR X (.builtin "isinstance") (fun xs H Q => ∃ (x : V) (t : String) (c : String), xs = [x, .ty c] ∧ TyN X.K H x t ∧ clNames.contains c = true ∧ Q (.bl (subT t c)) H) := by
  intro pins s σ H xs us Q I r h
  obtain ⟨x, t, c, rfl, ty, hc, q⟩ := h
  obtain ⟨u, w', rfl, rx, rc⟩ := vals2 r
  cases (show w' = Value.type c from rc)
  have e := kit_tab (K := X.K) ty.mem (by simpa using hc : c ∈ clNames)
  have fin : ∀ tk, EP X pins σ Q (.bool (subT t c)) { s with toks := tk } := fun tk => ⟨.bl _, H, I.tok _, rfl, q⟩
  cases ty with
  | non => cases (show u = Value.none from rx); exact PySem.W.kia_one PySem.W.kitx_none I.kIn True.intro e (fun z => nomatch z) fin
  | bl y => cases (show u = Value.bool y from rx); exact PySem.W.kia_one PySem.W.kitx_bool I.kIn True.intro e (fun z => nomatch z) fin
  | int i => obtain ⟨t, q⟩ := (show ∃ t, u = Value.int i t from rx); cases q; exact PySem.W.kia_one PySem.W.kitx_int I.kIn True.intro e (fun z => nomatch z) fin
  | str y => obtain ⟨t, q⟩ := (show ∃ t, u = Value.str y t from rx); cases q; exact PySem.W.kia_one PySem.W.kitx_str I.kIn True.intro e (fun z => nomatch z) fin
  | @lst a xs ea =>
    cases (show u = Value.ref a from rx)
    obtain ⟨its, _, ⟨o, n, h1, h2, _⟩, _⟩ := I.list ea
    exact PySem.W.kia_one PySem.W.kitx_list I.kIn ⟨o, h1, h2⟩ e (fun z => nomatch z) fin
  | @tup a xs ea =>
    cases (show u = Value.ref a from rx)
    obtain ⟨its, _, ⟨o, h1, h2, _⟩, _⟩ := I.tuple ea
    exact PySem.W.kia_one PySem.W.kitx_tuple I.kIn ⟨o, h1, h2⟩ e (fun z => nomatch z) fin
  | @dK a kvs ea =>
    cases (show u = Value.ref a from rx)
    obtain ⟨_, _, vs, _, p⟩ := (show ObjOk X.prog X.w H s.heap a (.dK kvs) from I.hok a _ ea)
    obtain ⟨o, es, ep, h1, h2, _⟩ := p
    exact PySem.W.kia_one PySem.W.kitx_dict I.kIn ⟨o, h1, h2.1⟩ e (fun z => nomatch z) fin
end
end L2
set_option Elab.async false
set_option linter.all false
set_option maxRecDepth 100000
namespace L2
open PySem PySem.Spec PyProof.Rows
section
variable {X : Cx}
end
mutual
inductive Dp (K : PySem.W.Frag) (H : Hp) : V → PyData → Prop where
  | non : Dp K H .non .none
  | bl (b : Bool) : Dp K H (.bl b) (.bool b)
  | int (i : Int) : Dp K H (.int i) (.int i)
  | str (x : Str) : Dp K H (.str x) (.str x)
  | lst {a : Addr} {xs : List V} {ds : List PyData} : SqL K H a xs → Dps K H xs ds → Dp K H (.ref a) (.list ds)
  | tup {a : Addr} {xs : List V} {ds : List PyData} : SqT K H a xs → Dps K H xs ds → Dp K H (.ref a) (.tuple ds)
inductive Dps (K : PySem.W.Frag) (H : Hp) : List V → List PyData → Prop where
  | nil : Dps K H [] []
  | cons {x : V} {d : PyData} {xs : List V} {ds : List PyData} : Dp K H x d → Dps K H xs ds → Dps K H (x :: xs) (d :: ds)
end
section
variable {X : Cx} {pins : List (Addr × Obj)} {σ : St} {H : Hp} {s : Shared}
mutual
theorem Dp.reads (I : Inv X pins σ H s) : ∀ {v : V} {d : PyData} {u : Value}, Dp X.K H v d → RelV v u → ∃ as, Reads s.heap u d as
  | _, _, _, .non, r => by cases (show _ = Value.none from r); exact ⟨_, .none⟩
  | _, _, _, .bl b, r => by cases (show _ = Value.bool b from r); exact ⟨_, .bool b⟩
  | _, _, _, .int i, r => by obtain ⟨t, rfl⟩ := r; exact ⟨_, .int i t⟩
  | _, _, _, .str x, r => by obtain ⟨t, rfl⟩ := r; exact ⟨_, .str x t⟩
  | _, _, _, .lst (a := a) h hs, r => by
    cases (show _ = Value.ref a from r)
    obtain ⟨its, rv, ⟨o, n, h1, h2, _, h4⟩, _⟩ := I.list h
    obtain ⟨as, hr⟩ := Dps.reads I hs rv
    exact ⟨_, .list h1 h2 h4 (by simpa using hr)⟩
  | _, _, _, .tup (a := a) h hs, r => by
    cases (show _ = Value.ref a from r)
    obtain ⟨its, rv, ⟨o, h1, h2, n, h4⟩, _⟩ := I.tuple h
    obtain ⟨as, hr⟩ := Dps.reads I hs rv
    exact ⟨_, .tuple h1 h2 h4 (by simpa using hr)⟩
theorem Dps.reads (I : Inv X pins σ H s) : ∀ {vs : List V} {ds : List PyData} {us : List Value}, Dps X.K H vs ds → Vals vs us → ∃ as, ReadsAll s.heap us ds as
  | _, _, _, .nil, r => by cases r; exact ⟨_, .nil⟩
  | _, _, _, .cons h hs, r => by
    cases r with
    | cons r1 r2 =>
      obtain ⟨as, h1⟩ := Dp.reads I h r1
      obtain ⟨bs, h2⟩ := Dps.reads I hs r2
      exact ⟨_, .cons h1 h2⟩
end
theorem op_eqD (hu : X.A.units + 64 < cLine) : OpR X (compareOp .Eq) (fun x y H Q => ∃ d e, Dp X.K H x d ∧ Dp X.K H y e ∧ (d.canLay0 && e.canLay0 && decide (d.depth ≤ 64)) = true ∧ Q (.bl (PyData.eqv d e)) H) := by
  intro pins s σ H x y v u Q I rx ry h
  obtain ⟨d, e, hd, he, hc, q⟩ := h
  simp only [Bool.and_eq_true, decide_eq_true_eq] at hc
  obtain ⟨as, r1⟩ := hd.reads I rx
  obtain ⟨bs, r2⟩ := he.reads I ry
  exact SeqAt.compareEq_reads r1 r2 hc.1.1 hc.1.2 (by omega) ⟨.bl _, H, I, rfl, q⟩
theorem op_neD (hu : X.A.units + 64 < cLine) : OpR X (compareOp .NotEq) (fun x y H Q => ∃ d e, Dp X.K H x d ∧ Dp X.K H y e ∧ (d.canLay0 && e.canLay0 && decide (d.depth ≤ 64)) = true ∧ Q (.bl (!PyData.eqv d e)) H) := by
  intro pins s σ H x y v u Q I rx ry h
  obtain ⟨d, e, hd, he, hc, q⟩ := h
  simp only [Bool.and_eq_true, decide_eq_true_eq] at hc
  obtain ⟨as, r1⟩ := hd.reads I rx
  obtain ⟨bs, r2⟩ := he.reads I ry
  exact SeqAt.compareNe_reads r1 r2 hc.1.1 hc.1.2 (by omega) ⟨.bl _, H, I, rfl, q⟩
end
section
variable {X : Cx}
end
end L2
set_option Elab.async false
set_option linter.all false
set_option maxRecDepth 100000
namespace L2
open PySem PySem.Spec PyProof.Rows
def Df (P : Program) (w : World) (K : PySem.W.Frag) (mg : Str → Option Value) (base : Heap) (k : Nat) (x : Str) (ps : List Str) (sp : Sp) : Prop :=
  ∃ f fd, FnOk P w K mg base CX0 k f fd ps sp ∧ Binds K fd ps [] ∧ PySem.W.keepIn K (.ref f) = true ∧ mg x = some (.ref f)
section
variable {P : Program} {w : World} {K : PySem.W.Frag} {mg : Str → Option Value} {base : Heap} {j k : Nat} {x : Str} {ps : List Str} {sp sp' : Sp}
theorem Df.mono (D : Df P w K mg base j x ps sp) (h : j ≤ k) : Df P w K mg base k x ps sp := let ⟨f, fd, F, r⟩ := D; ⟨f, fd, F.mono h, r⟩
theorem Df.imp (D : Df P w K mg base k x ps sp) (h : ∀ vs H Q E, sp' vs H Q E → sp vs H Q E) : Df P w K mg base k x ps sp' := let ⟨f, fd, F, r⟩ := D; ⟨f, fd, F.imp h, r⟩
end
section
variable {X : Cx} {k : Nat} {x : Str} {ps : List Str} {sp : Sp} {e : Expr} {es : List Expr} {t : TA} {p pos : Pos}
theorem pe_df (D : Df X.prog X.w X.K X.mg X.base k x ps sp) (hr : Room k X.A) (ha : PA X (e :: es) t) (hg : Gl X x := by rfl) (hdb : (x == ("__debug__" : Str)) = false := by decide)
    (he : starEach (e :: es) X.env = (false, eval e X.env) :: starEach es X.env := by rfl) (hpl : (backTo pos (starEach es X.env)).any (·.1) = false := by rfl) :
    PE X (.Call (.Name x p) (e :: es) [] pos) (fun σ H Q => t σ H fun vs H1 => sp vs H1 Q E0) := by
  obtain ⟨f, fd, F, hb, hk, hm⟩ := D
  intro pins s σ H Q I h
  exact pe_call F hr hg hm hk hb .nil pass0 ha hdb he hpl pins s σ H Q I (by unfold tCall; simpa using h)
end
section
variable {X : Cx}
end
def But (p : Addr) (H H' : Hp) : Prop := ∀ b o, b ≠ p → H b = some o → H' b = some o
section
variable {p : Addr} {H H' H'' : Hp}
theorem But.refl : But p H H := fun _ _ _ h => h
theorem But.trans (h : But p H H') (g : But p H' H'') : But p H H'' := fun b o n e => g b o n (h b o n e)
theorem But.upd {o : HO} (h : But p H H') : But p H (L2.upd H' p o) := fun b u n e => by rw [upd_ne n]; exact h b u n e
theorem But.lay {q : Addr} {o : HO} (h : But p H H') (hq : H q = none) : But p H (L2.upd H' q o) := fun b u n e => by rw [upd_ne (ne_of_none e hq)]; exact h b u n e
theorem Same.but (h : Same H H') : But p H H' := fun b o _ e => h b o e
end
theorem le_line {n : Nat} (h : n ≤ 1000000) : n ≤ sizeLine := by rw [sizeLine_eq]; omega
theorem lt_line {n : Nat} (h : n ≤ 1000000) : n < sizeLine := by rw [sizeLine_eq]; omega
def compOk (N : List Str) (names : List (Str × NameKind)) (own : List Str) (cap : List (Str × Nat)) (scope : Scope) : Bool :=
  (scope.kind == .function) && scope.names.all (fun y => (y.2 != .cell || scope.names.lookup y.1 == some .cell) && (y.2 != .local || scope.names.lookup y.1 == some .local) && (y.2 != .free || scope.names.lookup y.1 == some .free) && (y.2 != .free || (names.lookup y.1 == some .cell || names.lookup y.1 == some .free)))
  && cap.all fun p => N[p.2]? == some p.1 && scope.names.lookup p.1 == some .free && (names.lookup p.1 == some .cell || names.lookup p.1 == some .free)
theorem cscope {X : Cx} {own : List Str} {cap : List (Str × Nat)} {scope : Scope} (h : compOk X.N X.env.scope.names own cap scope = true) : CompScope X (own ++ cap.map (·.1)) own cap scope := by
  unfold compOk at h
  simp only [Bool.and_eq_true, List.all_eq_true, Bool.or_eq_true, bne_iff_ne, beq_iff_eq] at h
  obtain ⟨⟨h1, h2⟩, h3⟩ := h
  exact ⟨h1, fun y hy hl => (h2 y hy).1.1.1.resolve_left fun z => z hl, fun y hy hl => (h2 y hy).1.2.resolve_left fun z => z hl, fun y hy hl => (h2 y hy).1.1.2.resolve_left fun z => z hl, fun y hy hl => (h2 y hy).2.resolve_left fun z => z hl, rfl, fun p hp => ⟨(h3 p hp).1.1, (h3 p hp).1.2, (h3 p hp).2⟩⟩
section
variable {X : Cx} {a b e o : Expr} {es : List Expr} {ta tb te to : TE} {t : TA} {p pos : Pos}
theorem eLen (K : PySem.W.Frag) (ml : X.mg "len" = none) (ha : PE X a ta) (hg : Gl X "len" := by rfl) (hs : starEach [a] X.env = [(false, eval a X.env)] := by rfl) (hK : X.K = K := by rfl) :
    PE X (.Call (.Name "len" p) [a] [] pos) (fun σ H Q => ta σ H fun x H1 => ∃ p ys, [x] = [V.ref p] ∧ (SqL K H1 p ys ∨ SqT K H1 p ys) ∧ Q (.int ys.length) H1) := by
  subst hK
  exact pe_callB call_len_seq hg ml PySem.boot_len (pa_cons ha pa_nil hs) (he := hs)
theorem eMin (ml : X.mg "min" = none) (ha : PE X a ta) (hb : PE X b tb) (hc : X.calm = true := by rfl) (hg : Gl X "min" := by rfl) (hs : starEach [a, b] X.env = [(false, eval a X.env), (false, eval b X.env)] := by rfl) (hs2 : starEach [b] X.env = [(false, eval b X.env)] := by rfl) :
    PE X (.Call (.Name "min" p) [a, b] [] pos) (fun σ H Q => ta σ H fun x H1 => tb σ H1 fun y H2 => ∃ i j, [x, y] = [.int i, .int j] ∧ Q (.int (if j < i then j else i)) H2) := by
  exact pe_callB (call_min2 hc) hg ml rfl (pa_cons ha (pa_cons hb pa_nil hs2) (by rw [hs, hs2])) (he := by rw [hs, hs2]) (hpl := by rw [hs2]; rfl)
theorem eMax (ml : X.mg "max" = none) (ha : PE X a ta) (hb : PE X b tb) (hc : X.calm = true := by rfl) (hg : Gl X "max" := by rfl) (hs : starEach [a, b] X.env = [(false, eval a X.env), (false, eval b X.env)] := by rfl) (hs2 : starEach [b] X.env = [(false, eval b X.env)] := by rfl) :
    PE X (.Call (.Name "max" p) [a, b] [] pos) (fun σ H Q => ta σ H fun x H1 => tb σ H1 fun y H2 => ∃ i j, [x, y] = [.int i, .int j] ∧ Q (.int (if j > i then j else i)) H2) := by
  exact pe_callB (call_max2 hc) hg ml rfl (pa_cons ha (pa_cons hb pa_nil hs2) (by rw [hs, hs2])) (he := by rw [hs, hs2]) (hpl := by rw [hs2]; rfl)
theorem iL (K : PySem.W.Frag) {tg : Expr} (ha : PE X a ta) (hK : X.K = K := by rfl) : PI X tg a (iList K ta) := by subst hK; exact pi_list ha
theorem iR (mr : X.mg "range" = none) {tg : Expr} (ha : PE X a ta) (hg : Gl X "range" := by rfl) (hs : starEach [a] X.env = [(false, eval a X.env)] := by rfl) : PI X tg (.Call (.Name "range" p) [a] [] pos) (iRng1 (tCons ta tNil)) := pi_range1 hg mr (pa_cons ha pa_nil hs) hs
theorem eApp (K : PySem.W.Frag) {apos : Pos} (ho : PE X o to) (ha : PE X a ta) (hs : starEach [a] X.env = [(false, eval a X.env)] := by rfl)
    (hbase : attributeBase o "append" X.env (eval o X.env) = eval o X.env := by rfl) (hline : (apos.endLine == pos.line) = true := by rfl) (hK : X.K = K := by rfl)
    (hfew : ((backTo pos (starEach [a] X.env)).all (fun x => !x.1) && (backToKw pos (keywordEach [] X.env)).all (fun x => x.1.isSome)
      && decide ([a].length + ([] : List Keyword).length + (if ([] : List Keyword).isEmpty then 0 else 1) < 30)) = true := by rfl) :
    PE X (.Call (.Attribute o "append" apos) [a] [] pos) (tBM K "list" rAppend to (tCons ta tNil)) := by
  subst hK
  exact pe_bm PySem.F.plainAttrs_list PySem.F.slot_list_append PySem.F.type_list_append mt_append ho (pa_cons ha pa_nil hs) hbase hfew hline hs
end
end L2
set_option Elab.async false
set_option linter.all false
set_option maxRecDepth 100000
namespace L2
open PySem PySem.Spec PyProof.Rows
def Pot (H : Hp) (p : Addr) : Prop := ∃ a b c : Int, H p = some (.lst [.int a, .int b, .int c])
structure Took (p : Addr) (H H' : Hp) : Prop where
  eq : ∀ b, b ≠ p → H' b = H b
  pot : Pot H' p
structure Drawn (p : Addr) (H H' : Hp) : Prop where
  but : But p H H'
  pot : Pot H' p
section
variable {p q : Addr} {H H' H'' : Hp}
theorem Pot.ne (h : Pot H p) (hq : H q = none) : p ≠ q := let ⟨_, _, _, e⟩ := h; ne_of_none e hq
theorem Pot.some (h : Pot H p) : H p ≠ none := let ⟨_, _, _, e⟩ := h; by rw [e]; simp
theorem Drawn.refl (h : Pot H p) : Drawn p H H := ⟨.refl, h⟩
theorem Drawn.trans (h : Drawn p H H') (g : Drawn p H' H'') : Drawn p H H'' := ⟨h.but.trans g.but, g.pot⟩
theorem Drawn.took (h : Drawn p H H') (t : Took p H' H'') : Drawn p H H'' := ⟨fun b o n e => by rw [t.eq b n]; exact h.but b o n e, t.pot⟩
theorem Took.keep {o : HO} (t : Took p H H') (n : q ≠ p) (h : H q = .some o) : H' q = .some o := by rw [t.eq q n]; exact h
theorem Took.free (t : Took p H H') (h : H' q = none) : H q = none := by
  by_cases n : q = p
  · subst n; exact absurd h t.pot.some
  · rw [← t.eq q n]; exact h
theorem Drawn.free (h : Drawn p H H') (hq : H' q = none) : H q = none := by
  cases e : H q with
  | none => rfl
  | some o =>
    by_cases n : q = p
    · subst n; exact absurd hq h.pot.some
    · rw [h.but q o n e] at hq; cases hq
theorem Drawn.ne (h : Drawn p H H') (hp : Pot H p) (hq : H q = none) : q ≠ p := fun e => hp.ne hq e.symm
theorem Drawn.lay {o : HO} (h : Drawn p H H') (hq : H q = none) (hp : Pot H p) : Drawn p H (upd H' q o) :=
  ⟨h.but.lay hq, let ⟨a, b, c, e⟩ := h.pot; ⟨a, b, c, by rw [upd_ne (hp.ne hq)]; exact e⟩⟩
theorem Drawn.keep {o : HO} (h : Drawn p H H') (e : H q = .some o) (n : q ≠ p) : H' q = .some o := h.but q o n e
end
theorem at_get {xs : List V} {r : Int} (h0 : 0 ≤ r) (h1 : r < (xs.length : Int)) : atI xs r = some (xs[r.toNat]'(by omega)) := by
  have hk : r.toNat < xs.length := by omega
  have := atI_nat (xs := xs) (j := r.toNat) (v := xs[r.toNat]) (by simp [hk])
  have er : ((r.toNat : Nat) : Int) = r := by omega
  rw [er] at this
  exact this
section
variable {X : Cx} {a : Expr} {ta : TE} {p pos : Pos}
theorem eIsi (K : PySem.W.Frag) (ml : X.mg "isinstance" = none) {b : Expr} {tb : TE} (ha : PE X a ta) (hb : PE X b tb) (hg : Gl X "isinstance" := by rfl) (hs : starEach [a, b] X.env = [(false, eval a X.env), (false, eval b X.env)] := by rfl) (hs2 : starEach [b] X.env = [(false, eval b X.env)] := by rfl) (hK : X.K = K := by rfl) :
    PE X (.Call (.Name "isinstance" p) [a, b] [] pos) (fun σ H Q => ta σ H fun x H1 => tb σ H1 fun y H2 => ∃ (x' : V) (t : String) (c : String), [x, y] = [x', .ty c] ∧ TyN K H2 x' t ∧ clNames.contains c = true ∧ Q (.bl (subT t c)) H2) := by
  subst hK
  exact pe_callB call_isi hg ml rfl (pa_cons ha (pa_cons hb pa_nil hs2) (by rw [hs, hs2])) (he := by rw [hs, hs2]) (hpl := by rw [hs2]; rfl)
end
section
variable {K : PySem.W.Frag} {g : TG} {te : TE} {D : Addr} {σ0 : St} {H0 : Hp} {Z : Hp → Prop}
end
def AllI (xs : List V) : Prop := ∀ x ∈ xs, ∃ i, x = V.int i
theorem AllI.nil : AllI [] := fun _ h => by simp at h
theorem AllI.snoc {xs : List V} {i : Int} (h : AllI xs) : AllI (xs ++ [.int i]) := fun x hx => by
  rcases List.mem_append.mp hx with z | z
  · exact h x z
  · exact ⟨i, by simpa using z⟩
theorem AllI.app {xs ys : List V} (h : AllI xs) (g : AllI ys) : AllI (xs ++ ys) := fun x hx => (List.mem_append.mp hx).elim (h x) (g x)
theorem AllI.rep {xs : List V} {k : Nat} (h : AllI xs) : AllI (List.replicate k xs).flatten := fun x hx => by
  obtain ⟨l, hl, hx⟩ := List.mem_flatten.mp hx
  rw [List.eq_of_mem_replicate hl] at hx
  exact h x hx
theorem pick {xs : List V} {Pd : V → Prop} {r : Int} (h : ∀ x ∈ xs, Pd x) (h0 : 0 ≤ r) (h1 : r < (xs.length : Int)) : ∃ v, atI xs r = some v ∧ Pd v :=
  ⟨_, at_get h0 h1, h _ (List.getElem_mem _)⟩
structure Laid (q : Addr) (o : HO) (H H' : Hp) : Prop where
  was : H q = none
  eq : ∀ b, b ≠ q → H' b = H b
  new : H' q = some o
theorem Laid.of {q : Addr} {o : HO} {H H' : Hp} (h : H q = none) (e : upd H q o = H') : Laid q o H H' := ⟨h, fun b n => by rw [← e, upd_ne n], by rw [← e, upd_same]⟩
theorem Laid.keep {q b : Addr} {o u : HO} {H H' : Hp} (l : Laid q o H H') (h : H b = some u) : H' b = some u := by rw [l.eq b (ne_of_none h l.was)]; exact h
theorem Laid.same {q : Addr} {o : HO} {H H' : Hp} (l : Laid q o H H') : Same H H' := fun _ _ h => l.keep h
theorem Laid.ne {q b : Addr} {o u : HO} {H H' : Hp} (l : Laid q o H H') (h : H b = some u) : b ≠ q := ne_of_none h l.was
theorem Laid.drawn {p q : Addr} {o : HO} {H H' H'' : Hp} (l : Laid q o H' H'') (h : Drawn p H H') : Drawn p H H'' := by
  obtain ⟨a, b, c, e⟩ := h.pot
  exact ⟨fun b u n z => l.keep (h.but b u n z), a, b, c, l.keep e⟩
end L2
set_option Elab.async false
set_option linter.all false
set_option maxRecDepth 100000
namespace L2
open PySem PySem.Spec PyProof.Rows
section
variable {X : Cx} {a b o : Expr} {ta tb to : TE} {p pos : Pos}
end
abbrev Cel := Int × List Int × Addr
def gs (cs : List Cel) : List (Int × List Int) := cs.map fun c => (c.1, c.2.1)
structure CAt (H : Hp) (cs : List Cel) : Prop where
  nd : (cs.map fun c => c.2.2).Nodup
  at_ : ∀ c ∈ cs, H c.2.2 = some (.lst (c.2.1.map V.int))
theorem CAt.nil {H : Hp} : CAt H [] := ⟨by simp, fun _ h => by simp at h⟩
theorem CAt.same {H H' : Hp} {cs : List Cel} (h : CAt H cs) (s : ∀ c ∈ cs, ∀ o, H c.2.2 = some o → H' c.2.2 = some o) : CAt H' cs := ⟨h.nd, fun c hc => s c hc _ (h.at_ c hc)⟩
theorem CAt.old {H : Hp} {k : Int} {ts ts' : List Int} {a : Addr} {l r : List Cel} (h : CAt H (l ++ (k, ts, a) :: r)) : CAt (upd H a (.lst (ts'.map V.int))) (l ++ (k, ts', a) :: r) := by
  have nd := h.nd
  simp only [List.map_append, List.map_cons] at nd
  refine ⟨by simpa only [List.map_append, List.map_cons] using nd, fun c hc => ?_⟩
  rw [List.nodup_append] at nd
  obtain ⟨n1, n2, n3⟩ := nd
  rw [List.nodup_cons] at n2
  rcases List.mem_append.mp hc with z | z
  · have ne : c.2.2 ≠ a := n3 _ (List.mem_map_of_mem z) a List.mem_cons_self
    rw [upd_ne ne]
    exact h.at_ c (List.mem_append_left _ z)
  · rcases List.mem_cons.mp z with rfl | z
    · exact upd_same
    · have ne : c.2.2 ≠ a := fun e => n2.1 (by rw [← e]; exact List.mem_map_of_mem z)
      rw [upd_ne ne]
      exact h.at_ c (List.mem_append_right _ (List.mem_cons_of_mem _ z))
theorem CAt.snoc {H : Hp} {k : Int} {ts : List Int} {q : Addr} {cs : List Cel} (h : CAt H cs) (hn : ∀ c ∈ cs, c.2.2 ≠ q) (hq : H q = some (.lst (ts.map V.int))) : CAt H (cs ++ [(k, ts, q)]) := by
  refine ⟨?_, fun c hc => ?_⟩
  · rw [List.map_append, List.nodup_append]
    refine ⟨h.nd, by simp, fun x hx y hy => ?_⟩
    obtain ⟨c, hc, rfl⟩ := List.mem_map.mp hx
    have : y = q := by simpa using hy
    rw [this]
    exact hn c hc
  · rcases List.mem_append.mp hc with z | z
    · exact h.at_ c z
    · have : c = (k, ts, q) := by simpa using z
      rw [this]; exact hq
end L2
namespace L2
open PySem PySem.Spec PyProof.Rows
end L2
namespace L2
open PySem PySem.Spec PyProof.Rows
section
variable {K : PySem.W.Frag} {H H' : Hp}
theorem Same.rd (g : Same H H') {a : Addr} {o : HO} (h : Rd H a o) : Rd H' a o := by
  rcases h with h | ⟨ob, h⟩
  · exact .inl (g _ _ h)
  · exact .inr ⟨ob, g _ _ h⟩
theorem Same.tp (g : Same H H') {a : Addr} {xs : List V} (h : SqT K H a xs) : SqT K H' a xs := by
  rcases h with h | h
  · exact .inl (g.rd h)
  · exact .inr h
mutual
theorem Dp.same (g : Same H H') : ∀ {v : V} {d : PyData}, Dp K H v d → Dp K H' v d
  | _, _, .non => .non
  | _, _, .bl b => .bl b
  | _, _, .int i => .int i
  | _, _, .str x => .str x
  | _, _, .lst h hs => .lst (g.seq h) (Dps.same g hs)
  | _, _, .tup h hs => .tup (g.tp h) (Dps.same g hs)
theorem Dps.same (g : Same H H') : ∀ {vs : List V} {ds : List PyData}, Dps K H vs ds → Dps K H' vs ds
  | _, _, .nil => .nil
  | _, _, .cons h hs => .cons (Dp.same g h) (Dps.same g hs)
end
theorem Dps.len : ∀ {vs : List V} {ds : List PyData}, Dps K H vs ds → vs.length = ds.length
  | _, _, .nil => rfl
  | _, _, .cons _ hs => congrArg (· + 1) (Dps.len hs)
theorem Dps.get : ∀ {vs : List V} {ds : List PyData} {i : Nat} {v : V}, Dps K H vs ds → vs[i]? = some v → ∃ d, ds[i]? = some d ∧ Dp K H v d
  | _, _, _, _, .nil, h => by simp at h
  | _, _, 0, _, .cons (d := d) h hs, e => by
    have : _ = _ := Option.some.inj e
    subst this
    exact ⟨d, rfl, h⟩
  | _, _, i + 1, _, .cons h hs, e => Dps.get (i := i) hs e
end
end L2
set_option Elab.async false
set_option linter.all false
set_option maxRecDepth 100000
namespace L2
open PySem PySem.Spec PyProof.Rows
section
variable {X : Cx} {a b : Expr} {ta tb : TE} {p pos : Pos}
end
end L2
set_option Elab.async false
set_option linter.all false
set_option maxRecDepth 100000
namespace L2
open PySem PySem.Spec PyProof.Rows
def IsMax (M : Int) (l : List Int) : Prop := M ∈ l ∧ ∀ a ∈ l, a ≤ M
theorem IsMax.step {M x : Int} {l : List Int} (h : IsMax M l) : IsMax (if x > M then x else M) (l ++ [x]) := by
  obtain ⟨h1, h2⟩ := h
  refine ⟨?_, fun a ha => ?_⟩
  · split
    · simp
    · exact List.mem_append_left _ h1
  · rcases List.mem_append.mp ha with z | z
    · have := h2 a z
      split <;> omega
    · have : a = x := by simpa using z
      subst this
      split <;> omega
def Best (ns : List Int) (j : Nat) : Option Value → Prop
  | none => j = 0
  | some v => ∃ M t, v = .int M t ∧ IsMax M (ns.take j)
def bestSeq : Option Value → Array Value
  | none => #[]
  | some v => #[v, v]
theorem ints_get : ∀ {vs : List Value} {ns : List Int} {j : Nat} {v : Value}, IntsAre vs ns → vs[j]? = some v → ∃ t, v = .int (ns.getD j 0) t
  | _, _, _, _, .nil, h => by simp at h
  | _, _, 0, _, .cons n t _, h => ⟨t, (Option.some.inj h).symm⟩
  | _, _, j + 1, _, .cons n t r, h => by
    obtain ⟨t', e⟩ := ints_get (j := j) r h
    exact ⟨t', by simpa using e⟩
theorem max_args_kw (a d : Value) : argsOk "max" ⟨[a], [("default", d)]⟩ := by unfold argsOk; kernel_rfl
section
variable {prog : Program} {w : World} {A : Around} {R : Result → Shared → Prop} {I l : Addr} {items : Array Value} {ns : List Int} {d : Value}
theorem max_turns (hh : A.in1.handled = none) (hne : l ≠ I) (hi : IntsAre items.toList ns) (S : Addr) (hSI : S ≠ I) (hSl : S ≠ l) :
    ∀ (k j : Nat) (s : Shared) (b : Option Value) (c : Nat), items.size - j = k → j ≤ items.size → s.heap.IsListIter I l j → s.heap.IsList l items → Best ns j b →
      s.heap.get? S = some { cls := .type "list", dict := none, data := .seq (bestSeq b) c, slots := #[] } →
      (∀ v h' tk, ((ns = [] ∧ v = d) ∨ ∃ M t, v = .int M t ∧ IsMax M ns) → (∀ x o, x ≠ I → x ≠ S → s.heap.get? x = some o → h'.get? x = some o) → R (.ok (.ret v)) { s with heap := h', toks := tk }) →
      codeAny (model prog w) A (.builtin "max.loop" ⟨[.ref I, .none, .ref S], [("default", d)]⟩) R s := by
  have hnm : (toString "max" ++ toString ".loop" : String) = "max.loop" := by decide
  have hlen : ns.length = items.size := by have := hi.length; rw [Array.length_toList] at this; omega
  have W := Walks.list (prog := prog) (w := w) hh I l hne items
  intro k
  induction k with
  | zero =>
    intro j s b c hk hj st1 st2 hb hS hR
    have ej : j = items.size := by omega
    subst ej
    refine codeAny_builtin (F.entry_max_loop) (by
      rw [Around.under_plainId F.plain_max_loop]
      show wpAny _ A.in1 (seqItems? (.ref S) >>= fun _ => _) _ _ s
      refine wpAny_bind (wpAny_seqItems hS rfl (?_ : wpAny _ A.in1 (tryCatch (pyNext (.ref I)) (fun _ => _) >>= fun _ => _) _ _ s))
      refine wpAny_bind (wpAny_tryCatch (W.done s _ _ ⟨st1, st2⟩ fun h' tk keep => ?_))
      have kS := keep S _ (by simpa using hSI) hS
      cases b with
      | none =>
        have hb0 : items.size = 0 := hb
        have hn : ns = [] := List.length_eq_zero_iff.mp (by omega)
        show wpAny _ A.in1 (rule _ >>= fun _ => ret d) _ _ _
        exact wpAny_bind (wpAny_rule (wpAny_pure (hR d h' tk (.inl ⟨hn, rfl⟩) fun x o n1 _ e => keep x o (by simpa using n1) e)))
      | some v =>
        obtain ⟨M, t, rfl, hM⟩ := hb
        have htk : ns.take items.size = ns := List.take_of_length_le (by omega)
        rw [htk] at hM
        show wpAny _ A.in1 (updateSeq S (fun _ => #[]) >>= fun _ => _) _ _ _
        refine wpAny_bind (wpAny_updateSeq (hz := by show 2 ≤ sizeLine; decide) kS rfl (wpAny_bind (wpAny_letGo (wpAny_pure (hR _ _ tk (.inr ⟨M, t, rfl, hM⟩) fun x o n1 n2 e => ?_)))))
        exact (Heap.get?_update_other _ _ (Ne.symm n2)).trans (keep x o (by simpa using n1) e))
  | succ k ih =>
    intro j s b c hk hj st1 st2 hb hS hR
    have hlt : j < items.size := by omega
    refine codeAny_builtin (F.entry_max_loop) (by
      rw [Around.under_plainId F.plain_max_loop]
      show wpAny _ A.in1 (seqItems? (.ref S) >>= fun _ => _) _ _ s
      refine wpAny_bind (wpAny_seqItems hS rfl (?_ : wpAny _ A.in1 (tryCatch (pyNext (.ref I)) (fun _ => _) >>= fun _ => _) _ _ s))
      refine wpAny_bind (wpAny_tryCatch (W.item j s _ _ hlt ⟨st1, st2⟩ fun v h' tk hv st' keep => ?_))
      have kS := keep S _ (by simpa using hSI) hS
      have hx : ∃ t, v = .int (ns.getD j 0) t := by
        exact ints_get hi (by rw [Array.getElem?_toList]; exact hv)
      obtain ⟨t, rfl⟩ := hx
      have htk : ns.take (j + 1) = ns.take j ++ [ns.getD j 0] := by
        rw [List.take_add_one, List.getD_eq_getElem?_getD, List.getElem?_eq_getElem (by omega)]
        rfl
      have goOn : ∀ (b' : Option Value) (h2 : Heap) (c' : Nat), Best ns (j + 1) b' → h2.get? S = some { cls := .type "list", dict := none, data := .seq (bestSeq b') c', slots := #[] } →
          (∀ x o, x ≠ S → h'.get? x = some o → h2.get? x = some o) → codeAny (model prog w) A (.builtin "max.loop" ⟨[.ref I, .none, .ref S], [("default", d)]⟩) R { s with heap := h2, toks := tk } := fun b' h2 c' hb' hS' k2 => by
        refine ih (j + 1) _ b' c' (by omega) hlt (st'.1.at fun o e => k2 I o (Ne.symm hSI) e) (st'.2.at fun o e => k2 l o (Ne.symm hSl) e) hb' hS' fun v' h3 tk3 hv' k3 => hR v' h3 tk3 hv' fun x o n1 n2 e => ?_
        exact k3 x o n1 n2 (k2 x o n2 (keep x o (by simpa using n1) e))
      cases b with
      | none =>
        have hb0 : j = 0 := hb
        subst hb0
        show wpAny _ A.in1 (updateSeq S (fun _ => #[Value.int (ns.getD 0 0) t, Value.int (ns.getD 0 0) t]) >>= fun _ => _) _ _ _
        refine wpAny_bind (wpAny_updateSeq kS rfl ?_)
        rw [hnm]
        refine wpAny_pure ⟨plainId_quiet F.plain_max_loop _, goOn (some (.int (ns.getD 0 0) t)) _ _ ⟨_, t, rfl, ?_⟩ (Heap.get?_update_self _ kS rfl) fun x o n e => (Heap.get?_update_other _ _ (Ne.symm n)).trans e⟩
        rw [htk]
        exact ⟨by simp, fun a ha => by
          have : a = ns.getD 0 0 := by simpa using ha
          omega⟩
      | some vb =>
        obtain ⟨M, tb, rfl, hM⟩ := hb
        show wpAny _ A.in1 (tryCatch (holding [Value.int (ns.getD j 0) t, Value.int (ns.getD j 0) t] (richCompare .Gt (.int (ns.getD j 0) t) (.int M tb) >>= fun _ => _)) (fun _ => _) >>= fun _ => _) _ _ _
        refine wpAny_bind (wpAny_tryCatch (wpAny_holding (wpAny_bind ?_)))
        refine richCompare_gives (op := .Gt) (typeIs_int _ _ t) (typeIs_int _ _ tb) F.slot_int_gt F.entry_int_gt (F.args_int_gt_2 _ _) (gives_int_gt _ _ t tb) (fun x => nomatch x) ?_
        refine wpAny_bind (wpAny_holding (wpAny_truthy_bool (wpAny_bind (wpAny_letGo (wpAny_pure ?_)))))
        have hst := hM.step (x := ns.getD j 0)
        rw [← htk] at hst
        by_cases hgt : ns.getD j 0 > M
        · rw [if_pos hgt] at hst
          rw [if_pos (decide_eq_true hgt)]
          refine wpAny_bind (wpAny_updateSeq (hz := by show 2 ≤ sizeLine; decide) kS rfl (wpAny_bind (wpAny_letGo ?_)))
          rw [hnm]
          exact wpAny_pure ⟨plainId_quiet F.plain_max_loop _, goOn (some (.int (ns.getD j 0) t)) _ _ ⟨_, t, rfl, hst⟩ (Heap.get?_update_self _ kS rfl) fun x o n e => (Heap.get?_update_other _ _ (Ne.symm n)).trans e⟩
        · rw [if_neg hgt] at hst
          rw [if_neg (by simpa using hgt)]
          refine wpAny_bind (wpAny_letGo ?_)
          rw [hnm]
          exact wpAny_pure ⟨plainId_quiet F.plain_max_loop _, goOn (some (.int M tb)) _ _ ⟨_, tb, rfl, hst⟩ kS fun x o _ e => e⟩)
theorem max_default {E : Value → Shared → Prop} {s : Shared} {Q : Value → Shared → Prop} {vs : List Value} (hh : A.handled = none) (hl : s.heap.IsList l vs.toArray) (hi : IntsAre vs ns)
    (h : ∀ v h' tk, ((ns = [] ∧ v = d) ∨ ∃ M t, v = .int M t ∧ IsMax M ns) → (∀ b o, s.heap.get? b = some o → h'.get? b = some o) → Q v { s with heap := h', toks := tk }) :
    wpAny (model prog w) A (call (.builtin "max") [.ref l] [("default", d)]) Q E s := by
  have hnm : (toString "max" ++ toString ".loop" : String) = "max.loop" := by decide
  obtain ⟨ol, el, _⟩ := id hl
  have llt : l < s.heap.objs.size := Heap.lt_size el
  have body : wpAny (model prog w) A.in1 (Builtin.«max» ⟨[.ref l], [("default", d)]⟩) (fun fin s' => match fin with
      | .done f => (match (Except.ok f : Result) with | .ok (.ret v) => Q v s' | .ok _ => False | .error e => E e s')
      | .again c' => c'.quiet = true ∧ codeAny (model prog w) A c' (fun r s' => match r with | .ok (.ret v) => Q v s' | .ok _ => False | .error e => E e s') s') E s := by
    show wpAny _ A.in1 (Builtin.Builtins.bindParams "max" ["key", "default"] 0 ⟨[], [("default", d)]⟩ >>= fun _ => _) _ _ s
    refine wpAny_bind (wpAny_of_eq (show Builtin.Builtins.bindParams "max" ["key", "default"] 0 ⟨[], [("default", d)]⟩ = pure [none, some d] from by with_unfolding_all rfl) (wpAny_bind (wpAny_pure ?_)))
    refine wpAny_bind (wpAny_pyIter_list hl ?_)
    refine wpAny_bind (wpAny_newObj_type ?_)
    rw [hnm]
    refine wpAny_pure ⟨plainId_quiet F.plain_max_loop _, ?_⟩
    have e1 : (s.heap.push { cls := .type "list_iterator", data := .fields #[.ref l, .int 0 0] }).objs.size = s.heap.objs.size + 1 := Heap.size_push ..
    refine max_turns (I := s.heap.objs.size) (l := l) (items := vs.toArray) (ns := ns) (d := d) hh (Nat.ne_of_lt llt) (by simpa using hi) _ (by rw [e1]; exact Nat.ne_of_gt (Nat.lt_succ_self _)) (by rw [e1]; exact Nat.ne_of_gt (Nat.lt_succ_of_lt llt)) _ 0 _ none 0 rfl (Nat.zero_le _)
      ⟨_, Heap.get?_push_of_some _ (Heap.get?_push_size _ rfl), rfl, rfl⟩ ((hl.push _).push _) rfl (Heap.get?_push_size _ rfl) fun v h' tk hv kp => ?_
    refine h v h' tk hv fun b o e => kp b o (Nat.ne_of_lt (Heap.lt_size e)) (by rw [e1]; exact Nat.ne_of_lt (Nat.lt_succ_of_lt (Heap.lt_size e))) (Heap.get?_push_of_some _ (Heap.get?_push_of_some _ e))
  refine wpAny_call (codeAny_call_builtin F.plain_max F.entry_max ?_)
  simp only [checkBuiltinCall, F.kind_max]
  have ha := max_args_kw (.ref l) d
  cases hsig : Manifest.signature? "max" with
  | none => exact wpAny_pure body
  | some sig =>
    simp only [argsOk, hsig] at ha
    have h2 : Bind.checkArgs "max" sig ⟨[.ref l], [("default", d)]⟩ = pure () := ha
    show wpAny _ A.in1 (Bind.checkArgs "max" sig ⟨[.ref l], [("default", d)]⟩) _ _ s
    rw [h2]
    exact wpAny_pure body
end
section
variable {X : Cx} {a b : Expr} {ta tb : TE} {p pos kp : Pos}
theorem eMaxDef (K : PySem.W.Frag) (mm : X.mg "max" = none) (ha : PE X a ta) (hb : PE X b tb) (hc : X.calm = true := by rfl) (hg : Gl X "max" := by rfl) (hs : starEach [a] X.env = [(false, eval a X.env)] := by rfl) (hK : X.K = K := by rfl)
    (hall : (backToKw pos (keywordEach [⟨some "default", b, kp⟩] X.env)).all (·.1.isSome) = true := by rfl) (hks : (backToKw pos (keywordEach [⟨some "default", b, kp⟩] X.env)).filterMap (·.1) = ([Str.ofString "default"] : List Str) := by rfl)
    (hno : (backToKw pos (keywordEach [⟨some "default", b, kp⟩] X.env)).any (·.1.isNone) = false := by rfl) :
    PE X (.Call (.Name "max" p) [a] [⟨some "default", b, kp⟩] pos) (fun σ H Q => ta σ H fun x H1 => tb σ H1 fun y H2 => ∃ (q : Addr) (ns : List Int) (j : Int), x = .ref q ∧ y = .int j ∧ SqL K H2 q (ns.map V.int) ∧ (ns = [] → Q (.int j) H2) ∧ ∀ M, IsMax M ns → Q (.int M) H2) := by
  subst hK
  intro pins s σ H Q I h
  have hb1 : backTo pos (starEach [a] X.env) = [(false, eval a X.env)] := by rw [hs]; rfl
  refine wpAny_Call_Name_kw (ld_blt I hg mm (u := .builtin "max") rfl (callWith_builtin_kwB (by rw [hb1]; rfl) hno ?_))
  rw [hb1]
  refine evalArgs_kwB hall (Calls.spliced_cons (thn (ha pins s σ H _ I h) fun u s1 ⟨x, H1, I1, r1, q1⟩ => Calls.spliced_nil ?_))
  refine kws_cons (thn (hb pins s1 σ H1 _ I1 q1) fun u2 s2 ⟨y, H2, I2, r2, q2⟩ => kws_nil ?_)
  obtain ⟨q, ns, j, rfl, rfl, hq, hz, hm⟩ := q2
  cases r1
  obtain ⟨t, rfl⟩ := r2
  obtain ⟨its, rv, pl, _⟩ := I2.list hq
  rw [hks]
  refine max_default (d := .int j t) (I2.ok.hd hc) pl.isList (intsAre_of rv) fun v h' tk hv kp' => ?_
  rcases hv with ⟨e, rfl⟩ | ⟨M, t', rfl, hM⟩
  · exact ⟨.int j, H2, I2.kept kp', ⟨_, rfl⟩, hz e⟩
  · exact ⟨.int M, H2, I2.kept kp', ⟨_, rfl⟩, hm M hM⟩
end
end L2
set_option Elab.async false
set_option linter.all false
set_option maxRecDepth 100000
namespace L2
open PySem PySem.Spec PyProof.Rows
theorem CAt.sub {H : Hp} {cs ds : List Cel} (h : CAt H cs) (hs : ds.Sublist cs) : CAt H ds := ⟨h.nd.sublist (hs.map _), fun c hc => h.at_ c (hs.subset hc)⟩
end L2
set_option Elab.async false
set_option linter.all false
set_option maxRecDepth 100000
namespace L2
open PySem PySem.Spec PyProof.Rows
section
variable {X : Cx} {a b e o : Expr} {ta tb te to : TE} {p pos : Pos}
theorem iR2 (mr : X.mg "range" = none) {tg : Expr} (ha : PE X a ta) (hb : PE X b tb) (hg : Gl X "range" := by rfl) (hs : starEach [a, b] X.env = [(false, eval a X.env), (false, eval b X.env)] := by rfl) (hs2 : starEach [b] X.env = [(false, eval b X.env)] := by rfl) :
    PI X tg (.Call (.Name "range" p) [a, b] [] pos) (iRng2 (tCons ta (tCons tb tNil))) := pi_range2 hg mr (pa_cons ha (pa_cons hb pa_nil hs2) (by rw [hs, hs2])) hs hs2
theorem eIn (K : PySem.W.Frag) (ha : PE X a ta) (hb : PE X b tb) (hm : behindInMarks .In b = false := by rfl) (hK : X.K = K := by rfl) : PE X (.Compare a [.In] [b] pos) (tOp (rIn K false) ta tb) := by
  subst hK; exact pe_cmpR op_in_seq ha hb hm
end
abbrev Ask := Nat × Nat × Bool
abbrev ACel := Ask × Addr
def askT (a : Ask) : List V := [.int (a.1 : Int), .int (a.2.1 : Int), .bl a.2.2]
def dAsk (a : Ask) : PyData := .tuple [.int (a.1 : Int), .int (a.2.1 : Int), .bool a.2.2]
def arefs (cs : List ACel) : List V := cs.map fun c => V.ref c.2
def asksOf (cs : List ACel) : List Ask := cs.map (·.1)
def AAt (H : Hp) (cs : List ACel) : Prop := ∀ c ∈ cs, H c.2 = some (.tup (askT c.1))
def TupS (H H' : Hp) : Prop := ∀ p xs, H p = some (.tup xs) → H' p = some (.tup xs)
theorem TupS.refl {H : Hp} : TupS H H := fun _ _ h => h
theorem TupS.trans {H H' H'' : Hp} (a : TupS H H') (b : TupS H' H'') : TupS H H'' := fun p xs h => b p xs (a p xs h)
theorem Same.tups {H H' : Hp} (h : Same H H') : TupS H H' := fun p xs e => h p _ e
theorem TupS.upd {H : Hp} {l : Addr} {xs : List V} {o : HO} (h : H l = some (.lst xs)) : TupS H (L2.upd H l o) := fun p ys e => by rw [upd_ne (ne_of e h (by intro z; cases z))]; exact e
theorem AAt.to {H H' : Hp} {cs : List ACel} (h : AAt H cs) (t : TupS H H') : AAt H' cs := fun c hc => t _ _ (h c hc)
theorem AAt.snoc {H : Hp} {cs : List ACel} {a : Ask} {q : Addr} (h : AAt H cs) (hq : H q = some (.tup (askT a))) : AAt H (cs ++ [(a, q)]) := fun c hc => by
  rcases List.mem_append.mp hc with z | z
  · exact h c z
  · have : c = (a, q) := by simpa using z
    rw [this]; exact hq
theorem AAt.nil {H : Hp} : AAt H [] := fun _ h => by simp at h
theorem dp_ask {K : PySem.W.Frag} {H : Hp} {p : Addr} {a : Ask} (h : H p = some (.tup (askT a))) : Dp K H (.ref p) (dAsk a) := .tup (SqT.of h) (.cons (.int _) (.cons (.int _) (.cons (.bl _) .nil)))
theorem dps_asks {K : PySem.W.Frag} {H : Hp} : ∀ {cs : List ACel}, AAt H cs → Dps K H (arefs cs) ((asksOf cs).map dAsk)
  | [], _ => .nil
  | c :: r, h => .cons (dp_ask (h c List.mem_cons_self)) (dps_asks fun c hc => h c (List.mem_cons_of_mem _ hc))
theorem arefs_at {cs : List ACel} {i : Nat} {x : V} (h : (arefs cs)[i]? = some x) : ∃ c, cs[i]? = some c ∧ x = .ref c.2 := by
  unfold arefs at h
  rw [List.getElem?_map] at h
  cases e : cs[i]? with
  | none => rw [e] at h; cases h
  | some c => rw [e] at h; exact ⟨c, rfl, (Option.some.inj h).symm⟩
end L2
set_option Elab.async false
set_option linter.all false
set_option maxRecDepth 100000
namespace L2
open PySem PySem.Spec PyProof.Rows
def same2 (ks : List Int) (i j : Nat) : Bool := decide (ks.getD i 0 = ks.getD j 0)
def foundT : Option Nat → List V
  | none => [.str "none"]
  | some t => [.str "one", .int (t : Int)]
def dFound : Option Nat → PyData
  | none => .tuple [.str "none"]
  | some t => .tuple [.str "one", .int (t : Int)]
structure ToldAt (H : Hp) (r a f : Addr) (cs : List ACel) (fo : Option Nat) : Prop where
  tup : H r = some (.tup [.ref a, .ref f])
  lst : H a = some (.lst (arefs cs))
  asks : AAt H cs
  found : H f = some (.tup (foundT fo))
theorem ToldAt.same {H H' : Hp} {r a f : Addr} {cs : List ACel} {fo : Option Nat} (h : ToldAt H r a f cs fo) (s : Same H H') : ToldAt H' r a f cs fo := ⟨s _ _ h.tup, s _ _ h.lst, h.asks.to s.tups, s _ _ h.found⟩
theorem ToldAt.dp {K : PySem.W.Frag} {H : Hp} {r a f : Addr} {cs : List ACel} {fo : Option Nat} (h : ToldAt H r a f cs fo) : Dp K H (.ref r) (.tuple [.list ((asksOf cs).map dAsk), dFound fo]) := by
  refine .tup (SqT.of h.tup) (.cons (.lst (SqL.of h.lst) (dps_asks h.asks)) (.cons ?_ .nil))
  have hf := h.found
  cases fo with
  | none => exact .tup (SqT.of hf) (.cons (.str _) .nil)
  | some t => exact .tup (SqT.of hf) (.cons (.str _) (.cons (.int _) .nil))
end L2
namespace L2
open PySem PySem.Spec PyProof.Rows
def natV (ns : List Nat) : List V := ns.map fun (n : Nat) => V.int (n : Int)
theorem natV_snoc (ns : List Nat) (n : Nat) : natV (ns ++ [n]) = natV ns ++ [.int (n : Int)] := by simp [natV]
theorem getD_some {ks : List Int} {i : Nat} (h : i < ks.length) : ks[i]? = some (ks.getD i 0) := by rw [List.getD_eq_getElem?_getD, List.getElem?_eq_getElem h]; rfl
end L2
set_option Elab.async false
set_option linter.all false
set_option maxRecDepth 100000
namespace L2
open PySem PySem.Spec PyProof.Rows
section
variable {X : Cx} {pos : Pos}
end
def laid (ks : List Int) : Nat → List Ask × List Nat × List Nat
  | 0 => ([], [], [])
  | n + 1 => match (laid ks n).2.1 with
    | [] => ((laid ks n).1, [n], (laid ks n).2.2)
    | t :: r => if same2 ks t n then ((laid ks n).1 ++ [(t, n, true)], t :: r, n :: (laid ks n).2.2)
      else ((laid ks n).1 ++ [(t, n, false)], (laid ks n).2.2.take 1 ++ [n] ++ (t :: r), (laid ks n).2.2.drop 1)
def back (ks : List Int) (t : Nat) : List Nat → Nat → List Ask → List Ask × Option Nat
  | [], left, a => (a, if 0 < left then some t else none)
  | [x], left, a => if same2 ks x t then ((if x = t then a else a ++ [(t, x, same2 ks x t)]), some t)
    else if left = 0 then ((if x = t then a else a ++ [(t, x, same2 ks x t)]), none)
    else ((if x = t then a else a ++ [(t, x, same2 ks x t)]), if 0 < left - 1 then some t else none)
  | x :: y :: r, left, a => if same2 ks x t then back ks t r left (if x = t then a else a ++ [(t, x, same2 ks x t)])
    else if left = 0 then ((if x = t then a else a ++ [(t, x, same2 ks x t)]), none)
    else back ks t (y :: r) (left - 1) (if x = t then a else a ++ [(t, x, same2 ks x t)])
def dNat (ns : List Nat) : PyData := .list (ns.map fun (n : Nat) => PyData.int (n : Int))
theorem dps_nat {K : PySem.W.Frag} {H : Hp} : ∀ ns : List Nat, Dps K H (natV ns) (ns.map fun (n : Nat) => PyData.int (n : Int))
  | [] => .nil
  | n :: r => .cons (.int _) (dps_nat r)
end L2
set_option Elab.async false
set_option linter.all false
set_option maxRecDepth 100000
namespace L2
open PySem PySem.Spec PyProof.Rows
def Hnd (n : Nat) (H : Hp) (p : Addr) : Prop := ∃ ns : List Int, ns.length = n ∧ H p = some (.lst (ns.map V.int))
structure TookN (n : Nat) (p : Addr) (H H' : Hp) : Prop where
  eq : ∀ b, b ≠ p → H' b = H b
  hnd : Hnd n H' p
structure DrawnN (n : Nat) (p : Addr) (H H' : Hp) : Prop where
  but : But p H H'
  hnd : Hnd n H' p
section
variable {n : Nat} {p q : Addr} {H H' H'' : Hp}
theorem Hnd.some (h : Hnd n H p) : H p ≠ none := let ⟨_, _, e⟩ := h; by rw [e]; simp
theorem Hnd.ne (h : Hnd n H p) (hq : H q = none) : p ≠ q := let ⟨_, _, e⟩ := h; ne_of_none e hq
theorem TookN.keep {o : HO} (t : TookN n p H H') (e : H q = .some o) (h : q ≠ p) : H' q = .some o := by rw [t.eq q h]; exact e
theorem TookN.tups (t : TookN n p H H') (h : Hnd n H p) : TupS H H' := fun b xs e => by
  obtain ⟨_, _, e'⟩ := h
  rw [t.eq b (ne_of e e' (by intro z; cases z))]; exact e
theorem DrawnN.refl (h : Hnd n H p) : DrawnN n p H H := ⟨.refl, h⟩
theorem DrawnN.trans (h : DrawnN n p H H') (g : DrawnN n p H' H'') : DrawnN n p H H'' := ⟨h.but.trans g.but, g.hnd⟩
theorem DrawnN.took (h : DrawnN n p H H') (t : TookN n p H' H'') : DrawnN n p H H'' := ⟨fun b o z e => by rw [t.eq b z]; exact h.but b o z e, t.hnd⟩
theorem TookN.drawn (t : TookN n p H H') (h : Hnd n H p) : DrawnN n p H H' := (DrawnN.refl h).took t
theorem DrawnN.keep {o : HO} (h : DrawnN n p H H') (e : H q = .some o) (z : q ≠ p) : H' q = .some o := h.but q o z e
theorem DrawnN.free (h : DrawnN n p H H') (hq : H' q = none) : H q = none := by
  cases e : H q with
  | none => rfl
  | some o =>
    by_cases z : q = p
    · subst z; exact absurd hq h.hnd.some
    · rw [h.but q o z e] at hq; cases hq
theorem DrawnN.laid {o : HO} (h : DrawnN n p H H') (l : Laid q o H' H'') : DrawnN n p H H'' := by
  obtain ⟨ns, e1, e2⟩ := h.hnd
  exact ⟨fun b u z e => l.keep (h.but b u z e), ns, e1, l.keep e2⟩
theorem DrawnN.tups (d : DrawnN n p H H') (h : Hnd n H p) : TupS H H' := fun b xs e => by
  obtain ⟨_, _, e'⟩ := h
  exact d.but b _ (ne_of e e' (by intro z; cases z)) e
end
section
variable {X : Cx}
theorem op_fdivW : OpR X (binaryOp .FloorDiv) (rI (fun _ j => 0 < j ∧ j < 2 ^ 200) fun i j => .int (i / j)) := opI fun i j _ _ _ _ _ hc q => by
  obtain ⟨h1, h2⟩ := hc
  refine floordiv_int (by omega) (by rw [Int.fdiv_eq_ediv_of_nonneg i (by omega)]; exact q) (.inl (PyProof.noPylong_of_log2 ?_))
  have h3 : j.natAbs ≠ 0 := by omega
  have h4 : j.natAbs < 2 ^ 200 := by
    have : ((j.natAbs : Nat) : Int) = j := by omega
    have h5 : ((j.natAbs : Nat) : Int) < ((2 ^ 200 : Nat) : Int) := by rw [this]; exact_mod_cast h2
    omega
  have := (Nat.log2_lt h3).mpr h4
  omega
end
inductive Tr where
  | none
  | one (i : Int)
  | ask (i j : Int) (a u : Tr)
def TrAt (H : Hp) : V → Tr → Prop
  | v, .none => ∃ p, v = .ref p ∧ H p = some (.tup [.str "none"])
  | v, .one i => ∃ p, v = .ref p ∧ H p = some (.tup [.str "one", .int i])
  | v, .ask i j a u => ∃ p x y, v = .ref p ∧ H p = some (.tup [.str "ask", .int i, .int j, x, y]) ∧ TrAt H x a ∧ TrAt H y u
theorem TrAt.to {H H' : Hp} (s : TupS H H') : ∀ {v : V} {t : Tr}, TrAt H v t → TrAt H' v t
  | _, .none, ⟨p, e, h⟩ => ⟨p, e, s _ _ h⟩
  | _, .one _, ⟨p, e, h⟩ => ⟨p, e, s _ _ h⟩
  | _, .ask _ _ _ _, ⟨p, x, y, e, h, a, b⟩ => ⟨p, x, y, e, s _ _ h, a.to s, b.to s⟩
theorem Laid.tups {q : Addr} {o : HO} {H H' : Hp} (l : Laid q o H H') : TupS H H' := l.same.tups
section
variable {X : Cx}
end
end L2
set_option Elab.async false
set_option linter.all false
set_option maxRecDepth 100000
namespace L2
open PySem PySem.Spec PyProof.Rows
section
variable {X : Cx} {a b o : Expr} {ta tb to : TE} {p pos : Pos}
def isInt (k : Int) : Value → Bool
  | .int a _ => a == k
  | _ => false
end
end L2
set_option Elab.async false
set_option linter.all false
set_option maxRecDepth 100000
namespace L2
open PySem PySem.Spec PyProof.Rows
end L2
set_option Elab.async false
set_option linter.all false
set_option maxRecDepth 100000
namespace L2
open PySem PySem.Spec PyProof.Rows
def obUp (o : List Int) (k : Int) : Nat := if k ∈ o then o.idxOf k + 1 else o.length
def obAsks (o : List Int) (fs : List Nat) (n : Nat) (k : Int) (m : Nat) : List Ask := (List.range m).map fun at_ => (fs.getD at_ 0, n, decide (o.getD at_ 0 = k))
def ob (ks : List Int) : Nat → List Int × List Nat × List Ask
  | 0 => ([], [], [])
  | n + 1 => (if ks.getD n 0 ∈ (ob ks n).1 then (ob ks n).1 else (ob ks n).1 ++ [ks.getD n 0],
      if ks.getD n 0 ∈ (ob ks n).1 then (ob ks n).2.1 else (ob ks n).2.1 ++ [n],
      (ob ks n).2.2 ++ obAsks (ob ks n).1 (ob ks n).2.1 n (ks.getD n 0) (obUp (ob ks n).1 (ks.getD n 0)))
structure DueAt (H : Hp) (r a b : Addr) (cs : List ACel) (th : List Nat) : Prop where
  tup : H r = some (.tup [.ref a, .ref b])
  lst : H a = some (.lst (arefs cs))
  asks : AAt H cs
  things : H b = some (.lst (natV th))
theorem DueAt.same {H H' : Hp} {r a b : Addr} {cs : List ACel} {th : List Nat} (h : DueAt H r a b cs th) (s : Same H H') : DueAt H' r a b cs th := ⟨s _ _ h.tup, s _ _ h.lst, h.asks.to s.tups, s _ _ h.things⟩
theorem DueAt.dp {K : PySem.W.Frag} {H : Hp} {r a b : Addr} {cs : List ACel} {th : List Nat} (h : DueAt H r a b cs th) : Dp K H (.ref r) (.tuple [.list ((asksOf cs).map dAsk), dNat th]) :=
  .tup (SqT.of h.tup) (.cons (.lst (SqL.of h.lst) (dps_asks h.asks)) (.cons (.lst (SqL.of h.things) (dps_nat _)) .nil))
end L2
set_option Elab.async false
set_option linter.all false
set_option maxRecDepth 100000
namespace L2
open PySem PySem.Spec PyProof.Rows
section
variable {prog : Program} {w : World} {A : Around} {R : Result → Shared → Prop} {s : Shared}
end
section
variable {X : Cx} {pins : List (Addr × Obj)} {σ : St} {N' own : List Str} {cap : List (Str × Nat)} {scope : Scope} {tg iter kx vx : Expr} {ifs : List Expr} {pos : Pos} {g : TG} {tc : TT} {tk tv : TE} {wi : TI}
end
section
variable {X : Cx} {o : Expr} {to : TE} {pos : Pos}
end
theorem KV.get {kvs : List (Key × V)} {ws : List (Key × Value)} (rel : KV kvs ws) : ∀ {i : Nat} {k : Key} {v : V}, kvs[i]? = some (k, v) → ∃ u, ws[i]? = some (k, u) ∧ RelV v u := by
  induction rel with
  | nil => intro i k v h; simp at h
  | @cons a b l r hd tl ih =>
    intro i k v h
    cases i with
    | zero =>
      have : a = (k, v) := by simpa using h
      subst this
      obtain ⟨b1, b2⟩ := b
      obtain ⟨h1, h2⟩ := hd
      have : k = b1 := h1
      subst this
      exact ⟨b2, rfl, h2⟩
    | succ i =>
      obtain ⟨u, h1, h2⟩ := ih (i := i) (k := k) (v := v) (by simpa using h)
      exact ⟨u, by simpa using h1, h2⟩
end L2
set_option Elab.async false
set_option linter.all false
set_option maxRecDepth 100000
namespace L2
open PySem PySem.Spec PyProof.Rows
abbrev An := Nat × Nat × Bool
def nb (as : List An) (x : Nat) : List Nat := as.flatMap fun a => if a.2.2 = true then (if x = a.1 then [a.2.1] else []) ++ (if x = a.2.1 then [a.1] else []) else []
theorem mem_nb {as : List An} {x y : Nat} : y ∈ nb as x ↔ (x, y, true) ∈ as ∨ (y, x, true) ∈ as := by
  unfold nb
  rw [List.mem_flatMap]
  constructor
  · rintro ⟨⟨i, j, b⟩, ha, h⟩
    cases b with
    | false => simp at h
    | true =>
      simp only [if_true, List.mem_append] at h
      rcases h with h | h
      · split at h
        · rename_i e
          have : y = j := by simpa using h
          subst this e
          exact .inl ha
        · simp at h
      · split at h
        · rename_i e
          have : y = i := by simpa using h
          subst this e
          exact .inr ha
        · simp at h
  · rintro (h | h)
    · exact ⟨_, h, by simp⟩
    · exact ⟨_, h, by simp⟩
theorem nb_symm {as : List An} {x y : Nat} (h : y ∈ nb as x) : x ∈ nb as y := mem_nb.mpr (mem_nb.mp h).symm
inductive Conn (as : List An) : Nat → Nat → Prop where
  | refl (x : Nat) : Conn as x x
  | step {x y z : Nat} : Conn as x y → z ∈ nb as y → Conn as x z
theorem Conn.trans {as : List An} {x y z : Nat} (h : Conn as x y) (g : Conn as y z) : Conn as x z := by
  induction g with
  | refl => exact h
  | step _ e ih => exact .step ih e
theorem Conn.one {as : List An} {x y : Nat} (h : y ∈ nb as x) : Conn as x y := .step (.refl x) h
theorem Conn.symm {as : List An} {x y : Nat} (h : Conn as x y) : Conn as y x := by
  induction h with
  | refl => exact .refl _
  | step _ e ih => exact (Conn.one (nb_symm e)).trans ih
theorem Conn.mono {as bs : List An} {x y : Nat} (h : Conn as x y) (hm : ∀ a ∈ as, a ∈ bs) : Conn bs x y := by
  induction h with
  | refl => exact .refl _
  | step _ e ih => exact .step ih (mem_nb.mpr ((mem_nb.mp e).imp (hm _) (hm _)))
structure Dfs (as : List An) (n t : Nat) (F : Nat → Option Nat) (pile : List Nat) : Prop where
  pin : ∀ x ∈ pile, x < n ∧ Conn as t x
  con : ∀ x r, F x = some r → Conn as x r ∧ r ≤ t
  fin : ∀ x r y, F x = some r → r < t → y ∈ nb as x → F y = some r
  cur : ∀ x y, F x = some t → y ∈ nb as x → F y = some t ∨ y ∈ pile
  all : ∀ x, x < t → (F x).isSome = true
  top : (F t).isSome = true ∨ t ∈ pile
structure Out (as : List An) (n t : Nat) (F : Nat → Option Nat) : Prop where
  con : ∀ x r, F x = some r → Conn as x r ∧ r < t
  fin : ∀ x r y, F x = some r → y ∈ nb as x → F y = some r
  all : ∀ x, x < t → (F x).isSome = true
theorem Out.zero {as : List An} {n : Nat} : Out as n 0 fun _ => none := ⟨fun _ _ h => (nomatch h), fun _ _ _ h => (nomatch h), fun _ h => absurd h (Nat.not_lt_zero _)⟩
theorem Out.start {as : List An} {n t : Nat} {F : Nat → Option Nat} (h : Out as n t F) (ht : t < n) : Dfs as n t F (if (F t).isSome = true then [] else [t]) := by
  refine ⟨fun x hx => ?_, fun x r e => ⟨(h.con x r e).1, Nat.le_of_lt (h.con x r e).2⟩, fun x r y e _ hy => h.fin x r y e hy, fun x y e _ => absurd (h.con x t e).2 (Nat.lt_irrefl _), h.all, ?_⟩
  · split at hx
    · simp at hx
    · have : x = t := by simpa using hx
      subst this; exact ⟨ht, .refl _⟩
  · split
    · rename_i z; exact .inl z
    · exact .inr (by simp)
theorem Dfs.stop {as : List An} {n t : Nat} {F : Nat → Option Nat} (h : Dfs as n t F []) : Out as n (t + 1) F := by
  refine ⟨fun x r e => ⟨(h.con x r e).1, Nat.lt_succ_of_le (h.con x r e).2⟩, fun x r y e hy => ?_, fun x hx => ?_⟩
  · rcases Nat.lt_or_eq_of_le (h.con x r e).2 with z | z
    · exact h.fin x r y e z hy
    · subst z
      rcases h.cur x y e hy with q | q
      · exact q
      · simp at q
  · rcases Nat.lt_or_eq_of_le (Nat.le_of_lt_succ hx) with z | z
    · exact h.all x z
    · subst z
      rcases h.top with q | q
      · exact q
      · simp at q
theorem Dfs.old {as : List An} {n t one : Nat} {F : Nat → Option Nat} {pile : List Nat} (h : Dfs as n t F (pile ++ [one])) (ho : (F one).isSome = true) : Dfs as n t F pile := by
  obtain ⟨r, er⟩ := Option.isSome_iff_exists.mp ho
  refine ⟨fun x hx => h.pin x (List.mem_append_left _ hx), h.con, h.fin, fun x y e hy => ?_, h.all, ?_⟩
  · rcases h.cur x y e hy with q | q
    · exact .inl q
    · rcases List.mem_append.mp q with z | z
      · exact .inr z
      · have : y = one := by simpa using z
        subst this
        rcases Nat.lt_or_eq_of_le (h.con y r er).2 with z | z
        · have := h.fin y r x er z (nb_symm hy)
          rw [e] at this
          exact absurd (Option.some.inj this).symm (Nat.ne_of_lt z)
        · subst z; exact .inl er
  · rcases h.top with q | q
    · exact .inl q
    · rcases List.mem_append.mp q with z | z
      · exact .inr z
      · have : t = one := by simpa using z
        subst this; exact .inl ho
def setF (F : Nat → Option Nat) (k t : Nat) : Nat → Option Nat := fun x => if x = k then some t else F x
theorem Dfs.new {as : List An} {n t one : Nat} {F : Nat → Option Nat} {pile : List Nat} (h : Dfs as n t F (pile ++ [one])) (ho : F one = none) (hv : ∀ x y, y ∈ nb as x → y < n) : Dfs as n t (setF F one t) (pile ++ nb as one) := by
  have p1 := h.pin one (by simp)
  have ne : ∀ x r, F x = some r → setF F one t x = some r := fun x r e => by
    unfold setF
    rw [if_neg (by rintro rfl; rw [ho] at e; cases e)]
    exact e
  refine ⟨fun x hx => ?_, fun x r e => ?_, fun x r y e hr hy => ?_, fun x y e hy => ?_, fun x hx => ?_, ?_⟩
  · rcases List.mem_append.mp hx with z | z
    · exact h.pin x (List.mem_append_left _ z)
    · exact ⟨hv one x z, .step p1.2 z⟩
  · unfold setF at e
    split at e
    · rename_i z; subst z
      have := Option.some.inj e; subst this
      exact ⟨p1.2.symm, Nat.le_refl _⟩
    · exact h.con x r e
  · unfold setF at e
    split at e
    · have := Option.some.inj e; subst this; exact absurd hr (Nat.lt_irrefl _)
    · exact ne y r (h.fin x r y e hr hy)
  · by_cases z : x = one
    · subst z; exact .inr (List.mem_append_right _ hy)
    · unfold setF at e
      rw [if_neg z] at e
      rcases h.cur x y e hy with q | q
      · exact .inl (ne y t q)
      · rcases List.mem_append.mp q with q | q
        · exact .inr (List.mem_append_left _ q)
        · have : y = one := by simpa using q
          subst this
          exact .inl (by unfold setF; rw [if_pos rfl])
  · obtain ⟨r, er⟩ := Option.isSome_iff_exists.mp (h.all x hx)
    rw [ne x r er]; rfl
  · rcases h.top with q | q
    · obtain ⟨r, er⟩ := Option.isSome_iff_exists.mp q
      exact .inl (by rw [ne t r er]; rfl)
    · rcases List.mem_append.mp q with z | z
      · exact .inr (List.mem_append_left _ z)
      · have : t = one := by simpa using z
        subst this
        exact .inl (by unfold setF; rw [if_pos rfl]; rfl)
def left (as : List An) (F : Nat → Option Nat) : Nat → Nat
  | 0 => 0
  | n + 1 => left as F n + (if (F n).isSome = true then 0 else (nb as n).length)
end L2
set_option Elab.async false
set_option linter.all false
set_option maxRecDepth 100000
namespace L2
open PySem PySem.Spec PyProof.Rows
section
variable {X : Cx} {a b o : Expr} {ta tb to : TE} {p pos : Pos}
end
end L2
set_option Elab.async false
set_option linter.all false
set_option maxRecDepth 100000
namespace L2
open PySem PySem.Spec PyProof.Rows
def Vald (n : Nat) (a : Ask) : Prop := a.1 < n ∧ a.2.1 < n ∧ a.1 ≠ a.2.1
structure AnsAt (K : PySem.W.Frag) (H : Hp) (n : Nat) (l : Addr) (cs : List ACel) : Prop where
  seq : SqL K H l (arefs cs)
  at_ : AAt H cs
  ok : ∀ c ∈ cs, Vald n c.1
  len : cs.length ≤ 2000
theorem AnsAt.same {K : PySem.W.Frag} {H H' : Hp} {n : Nat} {l : Addr} {cs : List ACel} (h : AnsAt K H n l cs) (g : Same H H') : AnsAt K H' n l cs := ⟨g.seq h.seq, h.at_.to g.tups, h.ok, h.len⟩
theorem AnsAt.get {K : PySem.W.Frag} {H : Hp} {n : Nat} {l : Addr} {cs : List ACel} (h : AnsAt K H n l cs) {i : Nat} {x : V} (e : (arefs cs)[i]? = some x) :
    ∃ (a b : Nat) (k : Bool) (q : Addr), cs[i]? = some ((a, b, k), q) ∧ x = .ref q ∧ H q = some (.tup [.int (a : Int), .int (b : Int), .bl k]) ∧ a < n ∧ b < n ∧ a ≠ b := by
  obtain ⟨⟨⟨a, b, k⟩, q⟩, hc, rfl⟩ := arefs_at e
  have m := List.mem_of_getElem? hc
  exact ⟨a, b, k, q, hc, rfl, h.at_ _ m, (h.ok _ m).1, (h.ok _ m).2.1, (h.ok _ m).2.2⟩
end L2
set_option Elab.async false
set_option linter.all false
set_option maxRecDepth 100000
namespace L2
open PySem PySem.Spec PyProof.Rows
structure NearAt (H : Hp) (nl : Addr) (ps : List Addr) (n : Nat) (N : Nat → List Nat) : Prop where
  lst : H nl = some (.lst (ps.map V.ref))
  len : ps.length = n
  nd : ps.Nodup
  at_ : ∀ i p, ps[i]? = some p → H p = some (.lst (natV (N i)))
theorem NearAt.to {H H' : Hp} {nl : Addr} {ps : List Addr} {n : Nat} {N : Nat → List Nat} (h : NearAt H nl ps n N) (k1 : H' nl = H nl) (k2 : ∀ p ∈ ps, H' p = H p) : NearAt H' nl ps n N :=
  ⟨by rw [k1]; exact h.lst, h.len, h.nd, fun i p e => by rw [k2 p (List.mem_of_getElem? e)]; exact h.at_ i p e⟩
theorem NearAt.laid {H H' : Hp} {q : Addr} {o : HO} {nl : Addr} {ps : List Addr} {n : Nat} {N : Nat → List Nat} (h : NearAt H nl ps n N) (l : Laid q o H H') : NearAt H' nl ps n N :=
  h.to (l.eq nl (l.ne h.lst)) fun p hp => by
    obtain ⟨i, hi⟩ := List.getElem?_of_mem hp
    exact l.eq p (l.ne (h.at_ i p hi))
theorem nodup_at {ps : List Addr} (h : ps.Nodup) {i j : Nat} {p : Addr} (a : ps[i]? = some p) (b : ps[j]? = some p) : i = j := by
  obtain ⟨l1, g1⟩ := List.getElem?_eq_some_iff.mp a
  obtain ⟨l2, g2⟩ := List.getElem?_eq_some_iff.mp b
  rcases Nat.lt_trichotomy i j with z | z | z
  · exact absurd (g1.trans g2.symm) ((List.pairwise_iff_getElem.mp h) i j l1 l2 z)
  · exact z
  · exact absurd (g2.trans g1.symm) ((List.pairwise_iff_getElem.mp h) j i l2 l1 z)
theorem NearAt.put {H : Hp} {nl : Addr} {ps : List Addr} {n : Nat} {N : Nat → List Nat} {k y : Nat} {p : Addr} (h : NearAt H nl ps n N) (hk : ps[k]? = some p) : NearAt (upd H p (.lst (natV (N k) ++ [.int (y : Int)]))) nl ps n (fun x => if x = k then N k ++ [y] else N x) := by
  have hp := h.at_ k p hk
  by_cases hn : nl = p
  · subst hn
    have := h.lst
    rw [hp] at this
    exfalso
    have := HO.lst.inj (Option.some.inj this)
    have hm : V.ref nl ∈ ps.map V.ref := List.mem_map_of_mem (List.mem_of_getElem? hk)
    rw [← this] at hm
    obtain ⟨z, _, e⟩ := List.mem_map.mp hm
    cases e
  · refine ⟨by rw [upd_ne hn]; exact h.lst, h.len, h.nd, fun i q e => ?_⟩
    by_cases z : i = k
    · subst z
      have : q = p := by rw [hk] at e; exact (Option.some.inj e).symm
      subst this
      simp only [if_true]
      rw [upd_same, natV_snoc]
    · have : q ≠ p := fun w => z (nodup_at h.nd (w ▸ e) hk)
      rw [upd_ne this]
      simp only [z, if_false]
      exact h.at_ i q e
theorem NearAt.get {H : Hp} {nl : Addr} {ps : List Addr} {n : Nat} {N : Nat → List Nat} (h : NearAt H nl ps n N) {k : Nat} (hk : k < n) : ∃ p, ps[k]? = some p ∧ atI (ps.map V.ref) (k : Int) = some (.ref p) ∧ H p = some (.lst (natV (N k))) := by
  have hl : k < ps.length := by rw [h.len]; exact hk
  refine ⟨ps[k], by simp [hl], atI_nat (by simp [hl]), h.at_ k _ (by simp [hl])⟩
theorem NearAt.fn {H : Hp} {nl : Addr} {ps : List Addr} {n : Nat} {N M : Nat → List Nat} (h : NearAt H nl ps n N) (e : ∀ i, i < n → N i = M i) : NearAt H nl ps n M :=
  ⟨h.lst, h.len, h.nd, fun i p hp => by
    have : i < n := by rw [← h.len]; exact (List.getElem?_eq_some_iff.mp hp).1
    rw [← e i this]; exact h.at_ i p hp⟩
theorem Drawn.tups {p : Addr} {H H' : Hp} (h : Drawn p H H') (hP : Pot H p) : TupS H H' := fun q xs e => by
  obtain ⟨a, b, c, ep⟩ := hP
  exact h.keep e (ne_of e ep (by intro z; cases z))
theorem Took.tups {p : Addr} {H H' : Hp} (h : Took p H H') (hP : Pot H p) : TupS H H' := fun q xs e => by
  obtain ⟨a, b, c, ep⟩ := hP
  exact h.keep (ne_of e ep (by intro z; cases z)) e
end L2
namespace L2
open PySem PySem.Spec PyProof.Rows
theorem Drawn.same {p : Addr} {H H' H'' : Hp} (h : Drawn p H H') (s : Same H' H'') : Drawn p H H'' := by
  obtain ⟨a, b, c, e⟩ := h.pot
  exact ⟨fun b u n z => s _ _ (h.but b u n z), a, b, c, s _ _ e⟩
end L2
set_option Elab.async false
set_option linter.all false
set_option maxRecDepth 100000
namespace L2
open PySem PySem.Spec PyProof.Rows
theorem compTurn2_0 (elt tg iter tg2 iter2 : Expr) (ifs ifs2 : List Expr) (scope : Scope) (pos : Pos) (it acc : Value) (env : Env) :
    compTurn (.ListComp elt [⟨tg, iter, ifs, 0⟩, ⟨tg2, iter2, ifs2, 0⟩] scope pos) 0 it acc env = (do
      standAt iter.pos
      match ← pyNext it with
      | none => pure (.done .next)
      | some v =>
        letOwnedTupleGo tg it v
        assign tg env v
        let mut ok := true
        for c in ifs do
          if ok then ok ← isTrue c env (eval c env)
        if ok then
          let x ← eval iter2 env
          standAt iter2.pos
          let x ← foldedSetIterable iter2 env x
          let _ ← runOwn (.compStart (.ListComp elt [⟨tg, iter, ifs, 0⟩, ⟨tg2, iter2, ifs2, 0⟩] scope pos) 1 (← holding [x] (pyIter x)) acc env) env
        again (.compLoop (.ListComp elt [⟨tg, iter, ifs, 0⟩, ⟨tg2, iter2, ifs2, 0⟩] scope pos) 0 it acc env)) := by rfl
theorem compTurn2_1 (elt tg iter tg2 iter2 : Expr) (ifs ifs2 : List Expr) (scope : Scope) (pos : Pos) (it acc : Value) (env : Env) :
    compTurn (.ListComp elt [⟨tg, iter, ifs, 0⟩, ⟨tg2, iter2, ifs2, 0⟩] scope pos) 1 it acc env = (do
      standAt iter2.pos
      match ← pyNext it with
      | none => pure (.done .next)
      | some v =>
        letOwnedTupleGo tg2 it v
        assign tg2 env v
        let mut ok := true
        for c in ifs2 do
          if ok then ok ← isTrue c env (eval c env)
        if ok then
          (do let _ ← call (.builtin "list.append") [acc, ← eval elt env])
        again (.compLoop (.ListComp elt [⟨tg, iter, ifs, 0⟩, ⟨tg2, iter2, ifs2, 0⟩] scope pos) 1 it acc env)) := by rfl
section
variable {prog : Program} {w : World} {A : Around} {R : Result → Shared → Prop} {s : Shared} {elt tg iter tg2 iter2 : Expr} {ifs ifs2 : List Expr} {scope : Scope} {pos : Pos} {it acc : Value} {env : Env}
theorem compLoop2_any (hs2 : ∀ x, foldedSetIterable iter2 env x = pure x) (I : Nat → Shared → Prop)
    (turn : ∀ n s, I n s → wpAny (model prog w) A (pyNext it) (fun r s₁ => match r with
      | none => R (.ok .next) s₁
      | some v => wpAny (model prog w) A (letOwnedTupleGo tg it v) (fun _ s₁' => wpAny (model prog w) A (assign tg env v) (fun _ s₂ =>
          wpAny (model prog w) A (forIn ifs true fun c r => if r = true then do let ok ← isTrue c env (eval c env); pure (ForInStep.yield ok) else pure (ForInStep.yield r)) (fun ok s₃ =>
            if ok = true then wpAny (model prog w) A (eval iter2 env) (fun x s₄ => wpAny (model prog w) A (pyIter x) (fun it2 s₅ =>
              wpAny (model prog w) A (runOwn (.compStart (.ListComp elt [⟨tg, iter, ifs, 0⟩, ⟨tg2, iter2, ifs2, 0⟩] scope pos) 1 it2 acc env) env) (fun _ s₆ => ∃ m, m < n ∧ I m s₆) (fun _ _ => False) s₅) (fun _ _ => False) s₄) (fun _ _ => False) s₃
            else ∃ m, m < n ∧ I m s₃) (fun _ _ => False) s₂) (fun _ _ => False) s₁') (fun _ _ => False) s₁) (fun _ _ => False) s)
    (n : Nat) (h : I n s) : codeAny (model prog w) A (.compLoop (.ListComp elt [⟨tg, iter, ifs, 0⟩, ⟨tg2, iter2, ifs2, 0⟩] scope pos) 0 it acc env) R s := by
  refine codeAny_loop rfl I (fun n s hI => ?_) n h
  show wpAny _ A ((compTurn (.ListComp elt [⟨tg, iter, ifs, 0⟩, ⟨tg2, iter2, ifs2, 0⟩] scope pos) 0 it acc env).onRaise (fun x => do noteFrame x env; theTreesLotGoes x)) _ _ s
  refine wpAny_noted ?_
  rw [compTurn2_0]
  refine wpAny_mono (E := fun _ _ => False) ?_ (fun _ _ x => x) fun _ _ x => x.elim
  refine wpAny_bind (wpAny_standAt (wpAny_bind (wpAny_mono (turn n s hI) (fun r s₁ h₁ => ?_) fun _ _ h' => h')))
  cases r with
  | none => exact wpAny_pure h₁
  | some v =>
    refine wpAny_bind (wpAny_mono h₁ (fun _ s₁' h₁' => ?_) fun _ _ h' => h')
    refine wpAny_bind (wpAny_mono h₁' (fun _ s₂ h₂ => wpAny_bind (wpAny_mono h₂ (fun ok s₃ h₃ => ?_) fun _ _ h' => h')) fun _ _ h' => h')
    cases ok with
    | false => exact wpAny_pure ⟨rfl, h₃⟩
    | true => exact wpAny_bind (wpAny_mono h₃ (fun x s₄ h₄ => wpAny_bind (wpAny_standAt (wpAny_bind (wpAny_of_eq (hs2 x) (wpAny_bind (wpAny_holding (wpAny_mono h₄ (fun it2 s₅ h₅ => wpAny_bind (wpAny_mono h₅ (fun _ s₆ h₆ => wpAny_pure ⟨rfl, h₆⟩) fun _ _ h' => h')) fun _ _ h' => h'))))))) fun _ _ h' => h')
theorem compLoop2_in (I : Nat → Shared → Prop)
    (turn : ∀ n s, I n s → wpAny (model prog w) A (pyNext it) (fun r s₁ => match r with
      | none => R (.ok .next) s₁
      | some v => wpAny (model prog w) A (letOwnedTupleGo tg2 it v) (fun _ s₁' => wpAny (model prog w) A (assign tg2 env v) (fun _ s₂ =>
          wpAny (model prog w) A (forIn ifs2 true fun c r => if r = true then do let ok ← isTrue c env (eval c env); pure (ForInStep.yield ok) else pure (ForInStep.yield r)) (fun ok s₃ =>
            if ok = true then wpAny (model prog w) A (eval elt env) (fun x s₄ =>
              wpAny (model prog w) A (call (.builtin "list.append") [acc, x]) (fun _ s₅ => ∃ m, m < n ∧ I m s₅) (fun _ _ => False) s₄) (fun _ _ => False) s₃
            else ∃ m, m < n ∧ I m s₃) (fun _ _ => False) s₂) (fun _ _ => False) s₁') (fun _ _ => False) s₁) (fun _ _ => False) s)
    (n : Nat) (h : I n s) : codeAny (model prog w) A (.compLoop (.ListComp elt [⟨tg, iter, ifs, 0⟩, ⟨tg2, iter2, ifs2, 0⟩] scope pos) 1 it acc env) R s := by
  refine codeAny_loop rfl I (fun n s hI => ?_) n h
  show wpAny _ A ((compTurn (.ListComp elt [⟨tg, iter, ifs, 0⟩, ⟨tg2, iter2, ifs2, 0⟩] scope pos) 1 it acc env).onRaise (fun x => do noteFrame x env; theTreesLotGoes x)) _ _ s
  refine wpAny_noted ?_
  rw [compTurn2_1]
  refine wpAny_mono (E := fun _ _ => False) ?_ (fun _ _ x => x) fun _ _ x => x.elim
  refine wpAny_bind (wpAny_standAt (wpAny_bind (wpAny_mono (turn n s hI) (fun r s₁ h₁ => ?_) fun _ _ h' => h')))
  cases r with
  | none => exact wpAny_pure h₁
  | some v =>
    refine wpAny_bind (wpAny_mono h₁ (fun _ s₁' h₁' => ?_) fun _ _ h' => h')
    refine wpAny_bind (wpAny_mono h₁' (fun _ s₂ h₂ => wpAny_bind (wpAny_mono h₂ (fun ok s₃ h₃ => ?_) fun _ _ h' => h')) fun _ _ h' => h')
    cases ok with
    | false => exact wpAny_pure ⟨rfl, h₃⟩
    | true =>
      exact wpAny_bind (wpAny_bind (wpAny_mono h₃ (fun x s₄ h₄ => wpAny_bind (wpAny_mono h₄ (fun _ s₅ h₅ => wpAny_pure (wpAny_pure ⟨rfl, h₅⟩)) fun _ _ h' => h')) fun _ _ h' => h'))
theorem compStart2_in (h0 : codeAny (model prog w) A (.compLoop (.ListComp elt [⟨tg, iter, ifs, 0⟩, ⟨tg2, iter2, ifs2, 0⟩] scope pos) 1 it acc env) R s)
    (h : wpAny (model prog w) A (pyIter it) (fun it' s' => codeAny (model prog w) A (.compLoop (.ListComp elt [⟨tg, iter, ifs, 0⟩, ⟨tg2, iter2, ifs2, 0⟩] scope pos) 1 it' acc env) R s')
      (notedBy (model prog w) A env fun x s' => R (.error x) s') s) :
    codeAny (model prog w) A (.compStart (.ListComp elt [⟨tg, iter, ifs, 0⟩, ⟨tg2, iter2, ifs2, 0⟩] scope pos) 1 it acc env) R s := by
  refine codeAny_of_tree ?_
  show wpAny _ _ ((compStart (.ListComp elt [⟨tg, iter, ifs, 0⟩, ⟨tg2, iter2, ifs2, 0⟩] scope pos) 1 it acc env).onRaise (fun x => do noteFrame x env; standAt theWindowsPlace)) _ _ s
  refine wpAny_notedAt ?_
  unfold compStart
  show wpAny _ _ (ask >>= _) _ _ s
  refine wpAny_bind (wpAny_askSetting (wpAny_ite ?_))
  split
  · first
      | exact wpAny_bind (wpAny_pure (wpAny_pure (And.intro rfl h0)))
      | exact wpAny_pure (And.intro rfl h0)
  · first
      | exact wpAny_bind (wpAny_rule (wpAny_bind (wpAny_standAt (wpAny_bind (wpAny_mono h (fun it' s' h' => wpAny_pure (And.intro rfl h')) fun _ _ x => x)))))
      | (refine wpAny_bind (wpAny_rule ?_); show wpAny _ _ (standAt iter2.pos >>= _) _ _ s; exact wpAny_bind (wpAny_standAt (wpAny_bind (wpAny_mono h (fun it' s' h' => wpAny_pure (And.intro rfl h')) fun _ _ x => x))))
end
def TurnsIn (J : It) (g : TG) (tc : TT) (te : TE) (D : Addr) (σ0 : St) (H0 : Hp) (Z : St → Hp → Prop) : Prop :=
  ∃ W : Nat → Nat → St → Hp → Prop, (∃ m, W 0 m σ0 H0) ∧ ∀ i m σ H, W i m σ H →
    (J.stop i H ∧ Z σ H) ∨ (J.go i H ∧ ∃ N : St → Hp → Prop, (∀ σ' H', N σ' H' → ∃ m', m' < m ∧ W (i + 1) m' σ' H') ∧ ∀ x H', J.yld i H x H' → g x σ H' fun σ2 H2 => tc σ2 H2 fun b H3 =>
      if b = true then te σ2 H3 fun v H4 => ∃ ys, H4 D = some (.lst ys) ∧ ys.length < sizeLine ∧ N σ2 (upd H4 D (.lst (ys ++ [v]))) else N σ2 H3)
def CompTurns2 (J : It) (g : TG) (tc : TT) (wi2 : TI) (g2 : TG) (tc2 : TT) (te : TE) (D : Addr) (σ0 : St) (H0 : Hp) (Z : Hp → Prop) : Prop :=
  ∃ W : Nat → Nat → St → Hp → Prop, (∃ m, W 0 m σ0 (upd H0 D (.lst []))) ∧ ∀ i m σ H, W i m σ H →
    (J.stop i H ∧ Z H) ∨ (J.go i H ∧ ∃ N : St → Hp → Prop, (∀ σ' H', N σ' H' → ∃ m', m' < m ∧ W (i + 1) m' σ' H') ∧ ∀ x H', J.yld i H x H' → g x σ H' fun σ2 H2 => tc σ2 H2 fun b H3 =>
      if b = true then wi2 σ2 H3 fun J2 H4 => TurnsIn J2 g2 tc2 te D σ2 H4 N else N σ2 H3)
section
variable {X : Cx} {pins : List (Addr × Obj)} {σ : St} {N' own : List Str} {cap : List (Str × Nat)} {scope : Scope} {tg iter elt tg2 iter2 : Expr} {ifs ifs2 : List Expr} {pos : Pos} {g g2 : TG} {tc tc2 : TT} {te : TE} {wi wi2 : TI}
theorem inner2 {s : Shared} {H : Hp} {D : Addr} {Z : St → Hp → Prop} (hx : ∀ e s, X.xe e s → False) (hc : X.calm = true) (hi : PI X tg2 iter2 wi2) (hg : PG X tg2 g2) (ht : PIf X ifs2 tc2) (he : PE X elt te)
    (I : Inv X pins σ H s) (h : wi2 σ H fun J H1 => TurnsIn J g2 tc2 te D σ H1 Z) :
    wpAny (model X.prog X.w) X.A (eval iter2 X.env) (fun x s₄ => wpAny (model X.prog X.w) X.A (pyIter x) (fun it2 s₅ =>
      wpAny (model X.prog X.w) X.A (runOwn (.compStart (.ListComp elt [⟨tg, iter, ifs, 0⟩, ⟨tg2, iter2, ifs2, 0⟩] scope pos) 1 it2 (.ref D) X.env) X.env) (fun _ s' => ∃ σ' H', Inv X pins σ' H' s' ∧ Z σ' H') (fun _ _ => False) s₅) (fun _ _ => False) s₄) (fun _ _ => False) s := by
  have noX : ∀ {α : Type} {t : Sem α} {Q : α → Shared → Prop} {s : Shared}, wpAny (model X.prog X.w) X.A t Q X.xe s → wpAny (model X.prog X.w) X.A t Q (fun _ _ => False) s := fun q => wpAny_mono q (fun _ _ z => z) fun e s z => hx e s z
  refine noX (thn (hi pins s σ H _ I h) fun v s1 h1 => ?_)
  refine noX (thn h1 fun itv s2 h2 => ?_)
  obtain ⟨it, fp, tn, J, H2, e, I2, T, st2, f2, W, ⟨m0, w0⟩, turn⟩ := h2
  subst e
  have stat : ∀ {H' : Hp}, (∀ b ∈ fp, H' b = none) → ∀ b ∈ fp, FpOk X pins H' b := fun hn b hb => ⟨hn b hb, (f2 b hb).2⟩
  refine wpAny_runOwn ?_
  have loop : codeAny (model X.prog X.w) X.A (.compLoop (.ListComp elt [⟨tg, iter, ifs, 0⟩, ⟨tg2, iter2, ifs2, 0⟩] scope pos) 1 (.ref it) (.ref D) X.env)
      (fun r s' => match r with | .ok f => ∃ σ' H', Inv X pins σ' H' s' ∧ Z σ' H' | .error e => cameBackBy (model X.prog X.w) X.A X.env (fun _ _ => False) e s') s2 := by
    refine compLoop2_in (fun n s' => ∃ i σ' H', Inv X pins σ' H' s' ∧ tn i s'.heap ∧ (∀ b ∈ fp, H' b = none) ∧ W i n σ' H') ?_ m0 ⟨0, σ, H2, I2, st2, fun b hb => (f2 b hb).1, w0⟩
    rintro n s3 ⟨i, σ3, H3, I3, st3, fr3, w3⟩
    rcases turn i n σ3 H3 w3 with ⟨stop, qz⟩ | ⟨go, N, hN, step⟩
    · refine wpAny_mono (T.done X rfl rfl rfl hc i pins s3 σ3 H3 (fun _ _ => False) I3 (stat fr3) st3 stop) (fun r s4 ⟨hr, I4⟩ => ?_) fun _ _ z => z
      subst hr
      exact ⟨σ3, H3, I4, qz⟩
    · refine wpAny_mono (T.item X rfl rfl rfl hc i pins s3 σ3 H3 (fun _ _ => False) I3 (stat fr3) st3 go) (fun r s4 ⟨u, hr, h4⟩ => ?_) fun _ _ z => z
      subst hr
      refine wpAny_mono h4 (fun _ s5 ⟨x, H5, I5, r5, y5, st5, fr5⟩ => ?_) fun _ _ z => z
      have I5' := I5.pinned (stat fr5) (T.obj _ _ st5)
      have again : ∀ {σ7 : St} {H7 : Hp} {s7 : Shared}, Inv X (pins ++ pinsAt fp s5.heap) σ7 H7 s7 → N σ7 H7 → ∃ m, m < n ∧ ∃ i σ' H', Inv X pins σ' H' s7 ∧ tn i s7.heap ∧ (∀ b ∈ fp, H' b = none) ∧ W i m σ' H' := fun {σ7 H7 s7} I7 n7 => by
        obtain ⟨m', hm, w7⟩ := hN σ7 H7 n7
        refine ⟨m', hm, i + 1, σ7, H7, I7.unpinned, T.keep _ _ _ st5 fun b hb o e => (I7.pin (b, o) (List.mem_append_right _ (List.mem_append_right _ (mem_pinsAt hb e)))).1, fun b hb => ?_, w7⟩
        obtain ⟨o, e, d⟩ := T.obj _ _ st5 b hb
        exact (I7.pin (b, o) (List.mem_append_right _ (List.mem_append_right _ (mem_pinsAt hb e)))).2.1
      refine noX (thn (hg _ s5 σ3 H5 x u _ I5' r5 (step x H5 y5)) fun _ s6 ⟨σ6, H6, I6, q6⟩ => ?_)
      refine noX (thn (ht _ s6 σ6 H6 _ I6 q6) fun b s7 ⟨H7, I7, q7⟩ => ?_)
      cases b with
      | false =>
        show ∃ m, _
        exact again I7 q7
      | true =>
        show wpAny _ _ _ _ _ _
        refine noX (thn (he _ s7 σ6 H7 _ I7 q7) fun y s8 ⟨v, H8, I8, r8, ys, hy, hz, q8⟩ => ?_)
        refine noX (thn (mt_append (X := X) _ s8 σ6 H8 (.ref D) [v] (.ref D) [y] (fun _ H' => N σ6 H') I8 rfl (.cons r8 .nil) ⟨_, ys, v, rfl, rfl, hy, hz, q8⟩) fun _ s9 ⟨_, H9, I9, _, q9⟩ => ?_)
        exact again I9 q9
  exact compStart2_in loop (T.self _ 0 _ _ _ st2 loop)
theorem comp2_core {s2 : Shared} {H2 : Hp} {it : Addr} {fp : List Addr} {tn : Nat → Heap → Prop} {J : It} {cl : List (Str × Addr)} {Z : Addr → Hp → Prop} {RR : Value → Addr → Result → Shared → Prop} {E : Value → Shared → Prop}
    (hx : ∀ e s, X.xe e s → False) (hc : X.calm = true) (S : CompScope X N' own cap scope)
    (hg : ∀ cl C s₀ H₀ ex, PG (compCx X N' scope cl C s₀ H₀ ex) tg g) (ht : ∀ cl C s₀ H₀ ex, PIf (compCx X N' scope cl C s₀ H₀ ex) ifs tc) (hi2 : ∀ cl C s₀ H₀ ex, PI (compCx X N' scope cl C s₀ H₀ ex) tg2 iter2 wi2) (hg2 : ∀ cl C s₀ H₀ ex, PG (compCx X N' scope cl C s₀ H₀ ex) tg2 g2) (ht2 : ∀ cl C s₀ H₀ ex, PIf (compCx X N' scope cl C s₀ H₀ ex) ifs2 tc2) (he : ∀ cl C s₀ H₀ ex, PE (compCx X N' scope cl C s₀ H₀ ex) elt te) (hs2 : ∀ cl C x, foldedSetIterable iter2 (compEnvC scope cl C X.env) x = pure x)
    (I2 : Inv X pins σ H2 s2) (T : Turn X.prog X.w X.K tg J fp it tn) (st2 : tn 0 s2.heap) (f2 : ∀ b ∈ fp, FpOk X pins H2 b)
    (c1 : ∀ y c, cl.lookup y = some c → X.env.cells.lookup y = some c) (c2 : ∀ y, (y, NameKind.free) ∈ scope.names → ∃ c, cl.lookup y = some c)
    (h : ∀ D, H2 D = none → CompTurns2 J g tc wi2 g2 tc2 te D (capSt own cap σ) H2 (Z D))
    (hRR : ∀ D C s' m' H', Inv X pins σ H' s' → s'.heap.Ns C m' → FpOk X pins H' C → Z D H' → RR (.ref D) C (.ok .next) s') :
    wpAny (model X.prog X.w) X.A (newList []) (fun acc s₃ => wpAny (model X.prog X.w) X.A (newFunctionEnv scope X.env.globals cl [] X.env.qual none .none (some X.env)) (fun cenv s₄ =>
      codeAny (model X.prog X.w) X.A (.compStart (.ListComp elt [⟨tg, iter, ifs, 0⟩, ⟨tg2, iter2, ifs2, 0⟩] scope pos) 0 (.ref it) acc { cenv with scope := relabel scope X.env }) (RR acc cenv.locals) s₄) E s₃) E s2 := by
  have hlt : ∀ b ∈ fp, b < s2.heap.objs.size := fun b hb => by
    obtain ⟨o, e, _⟩ := T.obj _ _ st2 b hb
    exact Heap.lt_size e
  have hD : H2 s2.heap.objs.size = none := I2.hok.fresh (Nat.le_refl _)
  obtain ⟨W, ⟨m0, w0⟩, turn⟩ := h _ hD
  refine wpAny_newObj_type (newEnv_around (fun h₁ hns₁ hk₁ hce₁ => ?_))
  dsimp only at hns₁ hk₁ hce₁ ⊢
  have I3 : Inv X pins σ (upd H2 s2.heap.objs.size (.lst [])) { s2 with heap := s2.heap.push { cls := .type "list", dict := none, data := .seq ([] : List Value).toArray }, toks := s2.toks } :=
    I2.laid (fun b o e => Heap.get?_push_of_some _ e) (Nat.le_refl _) ⟨Nat.zero_le _, [], 0, .nil, Heap.get?_push_size _ rfl⟩
  generalize hs3 : ({ s2 with heap := s2.heap.push { cls := .type "list", dict := none, data := .seq ([] : List Value).toArray }, toks := s2.toks } : Shared) = s3 at I3
  have e3 : s2.heap.push { cls := .type "list", dict := none, data := .seq ([] : List Value).toArray } = s3.heap := by rw [← hs3]
  have hsz : s3.heap.objs.size = s2.heap.objs.size + 1 := by rw [← e3, Heap.size_push]
  rw [e3] at hns₁ hk₁ hce₁ ⊢
  have hk := hk₁
  have hcl : ∀ y c, cl.lookup y = some c → ¬ s3.heap.objs.size < c := fun y c e z => by
    obtain ⟨v, o, ho, _⟩ := I3.cell y c (c1 y c e)
    exact Nat.lt_irrefl _ (Nat.lt_trans z (Heap.lt_size ho))
  have CA : CellsAre X scope s3.heap.objs.size cl (cellsFrom (s3.heap.objs.size + 1) scope.names cl) := cells_are (h := s3.heap.push { cls := .type "dict", data := .dict #[] }) (by rw [Heap.size_push]) S hcl
  have hcell : ∀ y c, (cellsFrom (s3.heap.objs.size + 1) scope.names cl).lookup y = some c → s3.heap.objs.size < c → h₁.IsCell c none := fun y c e z => by
    rw [cells_split, lookup_app] at e
    cases q : (cellsFrom (s3.heap.objs.size + 1) scope.names []).lookup y with
    | none => rw [q] at e; exact absurd z (hcl y c e)
    | some c' =>
      rw [q] at e
      have : c' = c := Option.some.inj e
      subst this
      exact hce₁ y c' (PySem.mem_of_lookup q)
  generalize hcs : cellsFrom (s3.heap.objs.size + 1) scope.names cl = cs at CA hcell ⊢
  have f3 : ∀ b ∈ fp, FpOk X pins (upd H2 s2.heap.objs.size (.lst [])) b := fun b hb => ⟨by rw [upd_ne (Nat.ne_of_lt (hlt b hb))]; exact (f2 b hb).1, (f2 b hb).2⟩
  have hlt3 : ∀ b ∈ fp, b < s3.heap.objs.size := fun b hb => by rw [hsz]; exact Nat.lt_succ_of_lt (hlt b hb)
  have st3 : tn 0 h₁ := T.keep _ _ _ st2 fun b hb o e => hk b o (by rw [← e3]; exact Heap.get?_push_of_some _ e)
  have J0 : Inv (compCx X N' scope cs s3.heap.objs.size s3 (upd H2 s2.heap.objs.size (.lst [])) fp) [] (capSt own cap σ) (upd H2 s2.heap.objs.size (.lst [])) { s3 with heap := h₁, toks := s2.toks } :=
    comp_inv I3 S CA hcell c1 c2 f3 hlt3 hk hns₁
  have stat : ∀ {pl : List (Addr × Obj)} {H' : Hp}, pl = [] → (∀ b ∈ fp, H' b = none) → ∀ b ∈ fp, FpOk (compCx X N' scope cs s3.heap.objs.size s3 (upd H2 s2.heap.objs.size (.lst [])) fp) pl H' b := fun {pl H'} hp hn b hb => by
    subst hp
    refine ⟨hn b hb, Nat.ne_of_lt (hlt3 b hb), J0.ok.exfs b hb, .inl hb, fun x c e => J0.ok.exf b hb |>.2 x c e, fun p hp => absurd hp (by show p ∉ ([] ++ [] : List (Addr × Obj)); simp)⟩
  have noX : ∀ {α : Type} {t : Sem α} {Q : α → Shared → Prop} {s : Shared}, wpAny (model X.prog X.w) X.A t Q X.xe s → wpAny (model X.prog X.w) X.A t Q (fun _ _ => False) s := fun q => wpAny_mono q (fun _ _ z => z) fun e s z => hx e s z
  have loop : codeAny (model X.prog X.w) X.A (.compLoop (.ListComp elt [⟨tg, iter, ifs, 0⟩, ⟨tg2, iter2, ifs2, 0⟩] scope pos) 0 (.ref it) (.ref s2.heap.objs.size) (compEnvC scope cs s3.heap.objs.size X.env)) (RR (.ref s2.heap.objs.size) s3.heap.objs.size)
      { s3 with heap := h₁, toks := s2.toks } := by
    refine compLoop2_any (hs2 _ _) (fun n s' => ∃ i σ' H', Inv (compCx X N' scope cs s3.heap.objs.size s3 (upd H2 s2.heap.objs.size (.lst [])) fp) [] σ' H' s' ∧ tn i s'.heap ∧ (∀ b ∈ fp, H' b = none) ∧ W i n σ' H') ?_ m0
      ⟨0, _, _, J0, st3, fun b hb => (f3 b hb).1, w0⟩
    rintro n s4 ⟨i, σ4, H4, I4, st4, fr4, w4⟩
    rcases turn i n σ4 H4 w4 with ⟨stop, qz⟩ | ⟨go, N, hN, step⟩
    · refine wpAny_mono (T.done (compCx X N' scope cs s3.heap.objs.size s3 (upd H2 s2.heap.objs.size (.lst [])) fp) rfl rfl rfl hc i [] s4 σ4 H4 (fun _ _ => False) I4 (stat rfl fr4) st4 stop) (fun r s5 ⟨hr, I5⟩ => ?_) fun _ _ z => z
      subst hr
      have I6 : Inv X pins σ H4 s5 := I3.call' (ch := fp) I5.os I5.base I5.hok I5.bare fun b hb => ⟨(f3 b hb).2.2.2.1, (f3 b hb).2.1, (f3 b hb).2.2.2.2.1, (f3 b hb).2.2.2.2.2⟩
      obtain ⟨m', hn', _⟩ := I5.loc
      exact hRR _ _ s5 m' H4 I6 hn' (I3.fpOk (Nat.le_refl _) I5.free) qz
    · refine wpAny_mono (T.item (compCx X N' scope cs s3.heap.objs.size s3 (upd H2 s2.heap.objs.size (.lst [])) fp) rfl rfl rfl hc i [] s4 σ4 H4 (fun _ _ => False) I4 (stat rfl fr4) st4 go) (fun r s5 ⟨u, hr, h5⟩ => ?_) fun _ _ z => z
      subst hr
      refine wpAny_mono h5 (fun _ s6 ⟨x, H6, I6, r6, y6, st6, fr6⟩ => ?_) fun _ _ z => z
      have I6' := I6.pinned (stat rfl fr6) (T.obj _ _ st6)
      have again : ∀ {σ7 : St} {H7 : Hp} {s7 : Shared}, Inv (compCx X N' scope cs s3.heap.objs.size s3 (upd H2 s2.heap.objs.size (.lst [])) fp) ([] ++ pinsAt fp s6.heap) σ7 H7 s7 → N σ7 H7 →
          ∃ m, m < n ∧ ∃ i σ' H', Inv (compCx X N' scope cs s3.heap.objs.size s3 (upd H2 s2.heap.objs.size (.lst [])) fp) [] σ' H' s7 ∧ tn i s7.heap ∧ (∀ b ∈ fp, H' b = none) ∧ W i m σ' H' := fun {σ7 H7 s7} I7 n7 => by
        obtain ⟨m', hm, w7⟩ := hN σ7 H7 n7
        refine ⟨m', hm, i + 1, σ7, H7, I7.unpinned, T.keep _ _ _ st6 fun b hb o e => (I7.pin (b, o) (List.mem_append_right _ (List.mem_append_right _ (mem_pinsAt hb e)))).1, fun b hb => ?_, w7⟩
        obtain ⟨o, e, d⟩ := T.obj _ _ st6 b hb
        exact (I7.pin (b, o) (List.mem_append_right _ (List.mem_append_right _ (mem_pinsAt hb e)))).2.1
      refine noX (thn (hg _ _ _ _ _ _ s6 σ4 H6 x u _ I6' r6 (step x H6 y6)) fun _ s7 ⟨σ7, H7, I7, q7⟩ => ?_)
      refine noX (thn (ht _ _ _ _ _ _ s7 σ7 H7 _ I7 q7) fun b s8 ⟨H8, I8, q8⟩ => ?_)
      cases b with
      | false =>
        show ∃ m, _
        exact again I8 q8
      | true =>
        show wpAny _ _ _ _ _ _
        refine wpAny_mono (inner2 (X := compCx X N' scope cs s3.heap.objs.size s3 (upd H2 s2.heap.objs.size (.lst [])) fp) hx hc (hi2 _ _ _ _ _) (hg2 _ _ _ _ _) (ht2 _ _ _ _ _) (he _ _ _ _ _) I8 q8) (fun _ _ z => wpAny_mono z (fun _ _ z => wpAny_mono z (fun _ s9 ⟨σ9, H9, I9, q9⟩ => again I9 q9) fun _ _ z => z) fun _ _ z => z) fun _ _ z => z
  have lp : codeAny (model X.prog X.w) X.A (.compStart (.ListComp elt [⟨tg, iter, ifs, 0⟩, ⟨tg2, iter2, ifs2, 0⟩] scope pos) 0 (.ref it) (.ref s2.heap.objs.size) (compEnvC scope cs s3.heap.objs.size X.env)) (RR (.ref s2.heap.objs.size) s3.heap.objs.size)
      { s3 with heap := h₁, toks := s2.toks } := codeAny_compStart_list loop (T.self _ 0 _ _ _ st3 loop)
  subst hs3
  exact lp
theorem ps_setComp2 {i : Nat} {y : Str} {py spos : Pos} (hN : X.N.Nodup) (hi' : X.N[i]? = some y) (hy : X.env.scope.names.lookup y = some .local) (S : CompScope X N' own cap scope) (hi : PI X tg iter wi)
    (hg : ∀ cl C s₀ H₀ ex, PG (compCx X N' scope cl C s₀ H₀ ex) tg g) (ht : ∀ cl C s₀ H₀ ex, PIf (compCx X N' scope cl C s₀ H₀ ex) ifs tc)
    (hi2 : ∀ cl C s₀ H₀ ex, PI (compCx X N' scope cl C s₀ H₀ ex) tg2 iter2 wi2) (hg2 : ∀ cl C s₀ H₀ ex, PG (compCx X N' scope cl C s₀ H₀ ex) tg2 g2) (ht2 : ∀ cl C s₀ H₀ ex, PIf (compCx X N' scope cl C s₀ H₀ ex) ifs2 tc2)
    (he : ∀ cl C s₀ H₀ ex, PE (compCx X N' scope cl C s₀ H₀ ex) elt te)
    (hsw : swapsWith (.ListComp elt [⟨tg, iter, ifs, 0⟩, ⟨tg2, iter2, ifs2, 0⟩] scope pos) (some (.Name y py)) spos.line X.env = pure true := by rfl)
    (hx : ∀ e s, X.xe e s → False := by exact fun _ _ z => z) (hc : X.calm = true := by rfl) (hs : ∀ x, foldedSetIterable iter X.env x = pure x := by intro _; rfl) (hs2 : ∀ cl C x, foldedSetIterable iter2 (compEnvC scope cl C X.env) x = pure x := by intro _ _ _; rfl) :
    PS X (.Assign [.Name y py] (.ListComp elt [⟨tg, iter, ifs, 0⟩, ⟨tg2, iter2, ifs2, 0⟩] scope pos) spos) (fun D σ H => wi σ H fun J H1 => ∀ p, H1 p = none → CompTurns2 J g tc wi2 g2 tc2 te p (capSt own cap σ) H1 (fun H2 => D.nx (σ.set i (some (.ref p))) H2)) := by
  intro pins s σ H D I h
  obtain ⟨cl, hcl, c1, c2⟩ := comp_closure (scope := scope) (env := X.env) fun y hy hk => I.ok.has y.1 (S.free y hy hk)
  rw [exec_Assign_Name_used _ _ _ _ hsw]
  refine wpAny_bind (wpAny_standAt (wpAny_bind ?_))
  show wpAny _ _ (do let _ ← comprehension (.ListComp elt [⟨tg, iter, ifs, 0⟩, ⟨tg2, iter2, ifs2, 0⟩] scope pos) scope X.env _ (newList []) false (eval iter X.env) (some (assign (.Name y py) X.env))) _ _ s
  refine wpAny_bind (wpAny_mono (wpAny_comprehension_free (use := some (assign (.Name y py) X.env)) (Q := fun _ s' => SP X pins D .next s') rfl hs hcl S.kind S.names
    (thn (hi pins s σ H _ I h) fun v s1 h1 => thn h1 fun itv s2 h2 => ?_)) (fun _ s' hq => wpAny_pure (wpAny_pure hq)) fun _ _ e => e)
  obtain ⟨it, fp, tn, J, H2, e, I2, T, st2, f2, q⟩ := h2
  subst e
  refine comp2_core (RR := fun acc C => compPost (model X.prog X.w) X.A X.xe (some (assign (.Name y py) X.env)) (fun _ s' => SP X pins D .next s') acc C) (Z := fun p H2 => D.nx (σ.set i (some (.ref p))) H2) hx hc S hg ht hi2 hg2 ht2 he hs2 I2 T st2 f2 c1 c2 q ?_
  intro p C s' m' H' I' hn' f' z
  show wpAny _ _ (assign (.Name y py) X.env (.ref p)) _ _ _
  refine wpAny_assign_Name (store_ok2 I' hN hi' (.inl hy) (v := .ref p) rfl (fun s'' I'' ⟨a, hsb, ha⟩ => ?_) (.inr hy))
  have hCa : C ≠ a := by
    rcases ha with z | z
    · rw [z]; exact f'.2.1
    · exact fun e => f'.2.2.2.2.1 y a z e.symm
  refine ⟨m', hn'.sameBut hsb hCa, fun h3 hs3 => ?_⟩
  exact ⟨_, H', I''.letgo f' hs3, z⟩
end
end L2
set_option Elab.async false
set_option linter.all false
set_option maxRecDepth 100000
namespace L2
open PySem PySem.Spec PyProof.Rows
section
variable {prog : Program} {w : World} {A : Around} {R : Result → Shared → Prop} {I : Addr} {fp wr : List Addr} {n : Nat} {P : Nat → Value → Prop} {St : Nat → Heap → Prop}
end
def distN (ns : List Int) : Nat := (firstMet (fun i => ns.getD i 0) ns.length).length
def distS (ns : List Int) : Int → Bool := fun k => (firstMet (fun i => ns.getD i 0) ns.length).any (· == k)
section
variable {X : Cx} {a : Expr} {ta : TE} {p pos : Pos}
theorem eSet (K : PySem.W.Frag) (mm : X.mg "set" = none) (ha : PE X a ta) (hc : X.calm = true := by rfl) (hg : Gl X "set" := by rfl) (hs : starEach [a] X.env = [(false, eval a X.env)] := by rfl) (hK : X.K = K := by rfl) :
    PE X (.Call (.Name "set" p) [a] [] pos) (fun σ H Q => ta σ H fun x H1 => ∃ (q : Addr) (ns : List Int), [x] = [.ref q] ∧ SqL K H1 q (ns.map V.int) ∧ ns.length ≤ 4000 ∧ ∀ d, H1 d = none → Q (.ref d) (upd H1 d (.set (distS ns) (distN ns)))) := by
  subst hK
  have rule : CallR X (.type "set") (fun xs H Q => ∃ (q : Addr) (ns : List Int), xs = [.ref q] ∧ SqL X.K H q (ns.map V.int) ∧ ns.length ≤ 4000 ∧ ∀ d, H d = none → Q (.ref d) (upd H d (.set (distS ns) (distN ns)))) := by
    intro pins s σ H xs us Q I r h
    obtain ⟨q, ns, rfl, hq, hn, k⟩ := h
    obtain ⟨u, rfl, ru⟩ := vals1 r
    cases ru
    obtain ⟨its, rv, pl, hz⟩ := I.list hq
    have hl := rv.length
    rw [List.length_map] at hl
    refine call_set_list (I.ok.hd hc) pl.isList (by simpa using intsAre_of rv) (by simp only [List.size_toArray, scanBound]; omega) fun h' tk hS kp => ?_
    refine ⟨.ref s.heap.objs.size, _, I.laid (t' := tk) (o := .set (distS ns) (distN ns)) (fun b o e => kp b o (Heap.lt_size e) e) (Nat.le_refl _) ?_, rfl, k _ (I.hok.fresh (Nat.le_refl _))⟩
    have e : its.toArray.size = ns.length := by simp only [List.size_toArray]; exact hl.symm
    rw [e] at hS
    exact hS
  exact pe_callTy rule hg mm rfl (pa_cons ha pa_nil hs) (he := hs)
theorem eLenS (mm : X.mg "len" = none) (ha : PE X a ta) (hg : Gl X "len" := by rfl) (hs : starEach [a] X.env = [(false, eval a X.env)] := by rfl) :
    PE X (.Call (.Name "len" p) [a] [] pos) (fun σ H Q => ta σ H fun x H1 => ∃ (d : Addr) (S : Int → Bool) (n : Nat), [x] = [.ref d] ∧ H1 d = some (.set S n) ∧ Q (.int (n : Int)) H1) := by
  have rule : CallR X (.builtin "len") (fun xs H Q => ∃ (d : Addr) (S : Int → Bool) (n : Nat), xs = [.ref d] ∧ H d = some (.set S n) ∧ Q (.int (n : Int)) H) := by
    intro pins s σ H xs us Q I r h
    obtain ⟨d, S, n, rfl, hd, k⟩ := h
    obtain ⟨u, rfl, ru⟩ := vals1 r
    cases ru
    obtain ⟨o, es, ep, t, h1, h2, h3, _, _, h6, h7, h8⟩ := (show s.heap.SetOf (intKind X.prog X.w) d S n from I.hok d _ hd)
    refine call_len_set h1 h2 h3 h7 (by unfold scanBound at h6; omega) ?_
    rw [h8]
    exact ⟨.int n, H, I.tok _, ⟨_, rfl⟩, k⟩
  exact pe_callB rule hg mm PySem.boot_len (pa_cons ha pa_nil hs) (he := hs)
end
end L2
set_option Elab.async false
set_option linter.all false
set_option maxRecDepth 100000
namespace L2
open PySem PySem.W PySem.Spec PySem.Calls PyProof.Rows PySem.Builtin PySem.Builtin.ObjectAttr PySem.Builtin.Getset_descriptor
section
variable {prog : Program} {w : World} {A : Around} {E : Value → Shared → Prop} {s : Shared} {K : Frag} {x D : Addr} {ox : Obj}
theorem exc_get {R : Result → Shared → Prop} {tp : Value} (X : K.In s.heap) (L0 : Looks (model prog w) s.heap (typeOf (.ref x)) (.ref D)) (hm : mroIn K D (.type "object") = some true)
    (h : R (.ok (.ret (.ref D))) s) : codeAny (model prog w) A (.call (.builtin "getset_descriptor.__get__") ⟨[.builtin "object.__class__", .ref x, tp], []⟩) R s := by
  obtain ⟨hh, g, dr, t, os⟩ := s
  have L1 := looks_mroIn (M := model prog w) X hm
  refine codeAny_call_builtin KF.slot_gs.plain KF.entry_gs (KF.slot_gs.check _ _ _ _ _ _ _ _ KF.type_class (KF.args_gs _ _ _) ?_)
  unfold Builtin.«getset_descriptor.__get__» descrGet
  rw [dga_obj]
  refine wpAny_bind (wpAny_pure ?_)
  unfold descrGetter descrCheckInstance descrNameAndClass isInstance
  simp only [KF.owner_class]
  repeat lk
  refine ⟨Code.quiet_builtin _ (by decide +kernel), codeAny_builtin KF.entry_class ?_⟩
  unfold Builtin.«object.__class__» shownTypeOf
  repeat lk
  exact h
theorem exc_class {Q : Option Value → Shared → Prop} (X : K.In s.heap) (hx : s.heap.get? x = some ox) (hc : ox.cls = .ref D) (hga : findIn K (.ref D) "__getattribute__" = some (some (.builtin "BaseException.__getattribute__")))
    (hgn : findIn K (.ref D) "__getattr__" = some none) (hmB : mroIn K D (.type "BaseException") = some true)
    (ha : findIn K (.ref D) "__class__" = some (some (.builtin "object.__class__")))
    (hn : specialIn K (.builtin "object.__class__") "__get__" = some (some (.builtin "getset_descriptor.__get__"))) (htk : takesIn K (.builtin "object.__class__") = some true) (hm : mroIn K D (.type "object") = some true)
    (h : Q (some (.ref D)) { s with toks := s.toks + 1 }) : wpAny (model prog w) A (getAttr? (.ref x) "__class__") Q E s := by
  obtain ⟨hh, g, d, t, os⟩ := s
  have L0 : Looks (model prog w) hh (typeOf (.ref x)) (.ref D) := hc ▸ (Looks.ld hx).andThen .now
  have L1 := looks_findIn (M := model prog w) X hga
  have L2 := looks_findIn (M := model prog w) X hgn
  have L3 := looks_findIn (M := model prog w) X ha
  unfold getAttr? getAttrBy? getAttrBy
  refine wpAny_bind (wpAny_mkText (wpAny_bind (wpAny_attempt (wpAny_holding (wpAny_bind (L0.at (wpAny_bind (L1.at ?_))))))))
  show wpAny _ _ (getAttrByItsOwn _ _ _ _ _ _) _ _ _
  unfold getAttrByItsOwn
  refine wpAny_bind (L2.at (wpAny_bind (wpAny_attempt (wpAny_holding ?_))))
  show wpAny _ _ (boundAndCalled (.builtin "BaseException.__getattribute__") (.ref x) _) _ _ _
  unfold boundAndCalled
  refine wpAny_bind (wpAny_of_eq (PySem.F.attr_ValueError.ga.bind (.ref x)) ?_)
  refine wpAny_call (codeAny_call_builtin PySem.F.attr_ValueError.ga.plain PySem.F.entry_bexc_ga ?_)
  have hk : builtinKind "BaseException.__getattribute__" = some .slot := by decide +kernel
  have hsplit : splitId "BaseException.__getattribute__" = some ("BaseException", "__getattribute__") := by decide +kernel
  have LB : Looks (model prog w) hh (isInstance (.ref x) (.type "BaseException")) true := L0.andThen (looks_mroIn X hmB)
  have hargs := PySem.F.args_bexc_ga (.ref x) (.str "__class__" t)
  show wpAny _ _ (checkBuiltinCall "BaseException.__getattribute__" ⟨[.ref x, .str "__class__" t], []⟩) _ _ _
  simp only [checkBuiltinCall, hk, hsplit]
  refine wpAny_bind (LB.at ?_)
  rw [if_neg (by decide)]
  have LF : Looks (model prog w) hh (find (.ref x) (.ref D) "__class__") (.bind (.builtin "getset_descriptor.__get__") (.builtin "object.__class__")) := by
    have L4 : Looks (model prog w) hh (getOf (some (.builtin "object.__class__"))) (some (.builtin "getset_descriptor.__get__")) := looks_specialIn X hn
    have L5 : Looks (model prog w) hh (takesStores (.builtin "object.__class__")) true := looks_takesIn X htk
    unfold find
    refine L3.andThen (L4.andThen ?_)
    unfold dataDescriptor?
    exact fun A' Q' E' s' k q => wpAny_bind (wpAny_bind (L5 A' _ E' s' k (wpAny_pure (wpAny_bind (wpAny_rule (wpAny_pure q))))))
  have body : wpAny (model prog w) A.in1 (Builtin.«object.__getattribute__» ⟨[.ref x, .str "__class__" t], []⟩) (fun fin s' => fin = .done (.ret (.ref D)) ∧ s' = ⟨hh, g, d, t + 1, os⟩) (fun _ _ => False) ⟨hh, g, d, t + 1, os⟩ := by
    unfold Builtin.«object.__getattribute__»
    refine wpAny_bind (wpAny_pure ?_)
    refine wpAny_bind (wpAny_pure ?_)
    refine wpAny_bind (L0.at ?_)
    refine wpAny_bind (LF.at ?_)
    show wpAny _ _ (holding [_] (call (.builtin "getset_descriptor.__get__") [.builtin "object.__class__", .ref x, .ref D]) >>= ret) _ _ _
    refine wpAny_bind (wpAny_holding (wpAny_call (exc_get X L0 hm ?_)))
    exact wpAny_pure ⟨rfl, rfl⟩
  cases hsig : Manifest.signature? "BaseException.__getattribute__" with
  | none => exact wpAny_pure (wpAny_mono body (fun fin s' z => by obtain ⟨rfl, rfl⟩ := z; exact handed_on rfl (wpAny_pure h)) fun _ _ z => z.elim)
  | some sig =>
    simp only [argsOk, hsig] at hargs
    show wpAny _ A.in1 (Bind.checkArgs "BaseException.__getattribute__" sig ⟨[.ref x, .str "__class__" t], []⟩) _ _ _
    have h2 : Bind.checkArgs "BaseException.__getattribute__" sig ⟨[.ref x, .str "__class__" t], []⟩ = pure () := hargs
    rw [h2]
    exact wpAny_pure (wpAny_mono body (fun fin s' z => by obtain ⟨rfl, rfl⟩ := z; exact handed_on rfl (wpAny_pure h)) fun _ _ z => z.elim)
structure ExcIn (K : Frag) (D : Addr) : Prop where
  hga : findIn K (.ref D) "__getattribute__" = some (some (.builtin "BaseException.__getattribute__"))
  hgn : findIn K (.ref D) "__getattr__" = some none
  hmB : mroIn K D (.type "BaseException") = some true
  ha : findIn K (.ref D) "__class__" = some (some (.builtin "object.__class__"))
  hn : specialIn K (.builtin "object.__class__") "__get__" = some (some (.builtin "getset_descriptor.__get__"))
  htk : takesIn K (.builtin "object.__class__") = some true
  hm : mroIn K D (.type "object") = some true
  cls : (clsIn K D).isSome = true
theorem kitx_exc (F : ExcIn K D) : KitX K (.ref x) (.ref D) (fun h => ∃ o, h.get? x = some o ∧ o.cls = .ref D) where
  ty := fun _ _ _ ⟨o, h1, h2⟩ => h2 ▸ (Looks.ld h1).andThen .now
  it := fun _ _ X _ => by
    have hcD := F.cls
    unfold clsIn at hcD
    split at hcD
    · rename_i c' d' cd' sl' ho
      intro A' Q' E' s' k q
      unfold isType loadHead
      exact wpAny_bind (wpAny_loadPart (k _ _ (X _ _ ho)) (wpAny_pure q))
    · cases hcD
  ne := fun h tp dd its n sl X htp => by
    have hcD := F.cls
    refine Bool.eq_false_iff.mpr fun q => ?_
    have e : D = tp := Value.ref.inj (beq_iff_eq.mp q)
    subst e
    unfold clsIn at hcD
    split at hcD
    · rename_i c' d' cd' sl' ho
      have z := (X _ _ ho).symm.trans htp
      cases z
    · cases hcD
  ca := fun X ⟨o, h1, h2⟩ k => exc_class X h1 h2 F.hga F.hgn F.hmB F.ha F.hn F.htk F.hm k
end
def excO (e D : Addr) : HO := .ext fun h => ∃ o, h.get? e = some o ∧ o.cls = .ref D
section
variable {X : Cx} {a b : Expr} {ta tb : TE} {p pos : Pos}
theorem eIsiX (K : Frag) (ml : X.mg "isinstance" = none) (ha : PE X a ta) (hb : PE X b tb) (hg : Gl X "isinstance" := by rfl) (hs : starEach [a, b] X.env = [(false, eval a X.env), (false, eval b X.env)] := by rfl) (hs2 : starEach [b] X.env = [(false, eval b X.env)] := by rfl) (hK : X.K = K := by rfl) :
    PE X (.Call (.Name "isinstance" p) [a, b] [] pos) (fun σ H Q => ta σ H fun x H1 => tb σ H1 fun y H2 => ∃ (e D : Addr) (c : V) (cv : Value) (k : Bool), [x, y] = [.ref e, c] ∧ H2 e = some (excO e D) ∧ ExcIn K D ∧ RelV c cv ∧ kitOne K (.ref D) cv = some k ∧ Q (.bl k) H2) := by
  subst hK
  have rule : CallR X (.builtin "isinstance") (fun xs H Q => ∃ (e D : Addr) (c : V) (cv : Value) (k : Bool), xs = [.ref e, c] ∧ H e = some (excO e D) ∧ ExcIn X.K D ∧ RelV c cv ∧ kitOne X.K (.ref D) cv = some k ∧ Q (.bl k) H) := by
    intro pins s σ H xs us Q I r h
    obtain ⟨e, D, c, cv, k, rfl, he, F, rc, hk, q⟩ := h
    obtain ⟨u, u2, rfl, ru, ru2⟩ := vals2 r
    cases (show u = Value.ref e from ru)
    have hcv : Looks (model X.prog X.w) s.heap (pure () : Sem Unit) () := .now
    obtain ⟨ho, _, _⟩ := (show (∃ o, s.heap.get? e = some o ∧ o.cls = .ref D) ∧ _ ∧ _ from I.hok e _ he)
    have : u2 = cv ∨ kitOne X.K (.ref D) u2 = some k := by
      cases c with
      | ref a => cases (show u2 = Value.ref a from ru2); cases (show cv = Value.ref a from rc); exact .inl rfl
      | ty n => cases (show u2 = Value.type n from ru2); cases (show cv = Value.type n from rc); exact .inl rfl
      | non => cases (show u2 = Value.none from ru2); cases (show cv = Value.none from rc); exact .inl rfl
      | bl b => cases (show u2 = Value.bool b from ru2); cases (show cv = Value.bool b from rc); exact .inl rfl
      | int i => obtain ⟨t, z⟩ := (show ∃ t, cv = Value.int i t from rc); subst z; simp [kitOne, kitCls] at hk
      | str i => obtain ⟨t, z⟩ := (show ∃ t, cv = Value.str i t from rc); subst z; simp [kitOne, kitCls] at hk
      | byt i => obtain ⟨t, z⟩ := (show ∃ t, cv = Value.bytes i t from rc); subst z; simp [kitOne, kitCls] at hk
      | flt i => obtain ⟨t, z⟩ := (show ∃ t, cv = Value.float i t from rc); subst z; simp [kitOne, kitCls] at hk
    have hk2 : kitOne X.K (.ref D) u2 = some k := by
      rcases this with z | z
      · rw [z]; exact hk
      · exact z
    exact kia_one (kitx_exc F) I.kIn ho hk2 (fun z => nomatch z) fun tk => ⟨.bl k, H, I.tok _, rfl, q⟩
  exact pe_callB rule hg ml rfl (pa_cons ha (pa_cons hb pa_nil hs2) (by rw [hs, hs2])) (he := by rw [hs, hs2]) (hpl := by rw [hs2]; rfl)
end
def PJ (X : Cx) (es : List Expr) (t : St → Hp → (Hp → Prop) → Prop) : Prop :=
  ∀ (pins : List (Addr × Obj)) (s : Shared) (σ : St) (H : Hp) (Q : Hp → Prop) (acc : Str) (n : Nat), acc.length ≤ n → n + 2000 * es.length ≤ 1000000 → Inv X pins σ H s → t σ H Q →
    wpAny (model X.prog X.w) X.A (joinParts acc (evalEach es X.env)) (fun u s' => ∃ z t H', u = .str z t ∧ Inv X pins σ H' s' ∧ Q H') X.xe s
section
variable {X : Cx} {e e2 : Expr} {es : List Expr} {te : TE} {t : St → Hp → (Hp → Prop) → Prop} {p pos : Pos}
theorem pj_nil : PJ X [] (fun _ H Q => Q H) := fun pins s σ H Q acc n h1 h2 I h => joinParts_nil ⟨acc, _, H, rfl, I.tok _, h⟩ (by rw [sizeLine_eq]; simp at h2; omega)
theorem pj_str {x : Str} {j : Nat} (hx : x.length ≤ 2000) (hr : PJ X es t) : PJ X (.Constant (.str x) j p :: es) t := by
  intro pins s σ H Q acc n h1 h2 I h
  have hl : (acc ++ x).length ≤ n + 2000 := by rw [strLen_append]; omega
  simp only [List.length_cons] at h2
  show wpAny _ _ (joinParts acc (eval (.Constant (.str x) j p) X.env :: evalEach es X.env)) _ _ s
  refine joinParts_cons (thn (pe_str pins s σ H (fun v H' => v = .str x ∧ H' = H) I ⟨rfl, rfl⟩) fun u s1 ⟨v, H1, I1, r1, e1, e2⟩ => ?_)
  subst e1 e2
  obtain ⟨tk, rfl⟩ := r1
  exact ⟨by rw [sizeLine_eq]; omega, hr pins s1 σ _ Q _ (n + 2000) hl (by omega) I1 h⟩
theorem pj_int (he : PE X e te) (hr : PJ X es t) : PJ X (.FormattedValue e (-1) none p :: es) (fun σ H Q => te σ H fun v H1 => ∃ i, v = .int i ∧ i.natAbs.log2 < 1920 ∧ t σ H1 Q) := by
  intro pins s σ H Q acc n h1 h2 I h
  simp only [List.length_cons] at h2
  show wpAny _ _ (joinParts acc (eval (.FormattedValue e (-1) none p) X.env :: evalEach es X.env)) _ _ s
  refine joinParts_cons (FormattedValue_plain (thn (he pins s σ H _ I h) fun u s1 ⟨v, H1, I1, r1, i, ev, hi, q⟩ => ?_))
  subst ev
  obtain ⟨tk, rfl⟩ := r1
  refine formatField_int_small hi ?_
  have hz := int_text_len_1921 hi
  have hl : (acc ++ Str.ofString (toString i)).length ≤ n + 2000 := by rw [strLen_append]; omega
  exact ⟨by rw [sizeLine_eq]; omega, hr pins _ σ H1 Q _ (n + 2000) hl (by omega) (I1.tok _) q⟩
theorem pe_join (h : PJ X (e :: e2 :: es) t) (hl : (e :: e2 :: es).length ≤ 400 := by decide) : PE X (.JoinedStr (e :: e2 :: es) pos) (fun σ H Q => t σ H fun H1 => ∀ z, Q (.str z) H1) := by
  intro pins s σ H Q I q
  refine JoinedStr_many ?_
  refine thn (h pins s σ H _ Str.empty 0 (Nat.zero_le _) (by omega) I q) fun u s' ⟨z, tk, H', eu, I', q'⟩ => ?_
  exact ⟨.str z, H', I', ⟨tk, eu⟩, q' z⟩
end
end L2
set_option Elab.async false
set_option linter.all false
set_option maxRecDepth 100000
namespace L2
open PySem PySem.Spec PyProof.Rows
theorem ObjOk.there {P : Program} {w : World} {H : Hp} {h : Heap} {a : Addr} {o : HO} (x : ObjOk P w H h a o) : ∃ ob, h.get? a = some ob := by
  cases o with
  | lst xs => obtain ⟨_, _, _, _, e⟩ := x; exact ⟨_, e⟩
  | tup xs => obtain ⟨_, _, _, p⟩ := x; obtain ⟨ob, e, _⟩ := p; exact ⟨_, e⟩
  | dK kvs => obtain ⟨_, _, _, _, o, _, _, e, _⟩ := x; exact ⟨_, e⟩
  | dT kvs => obtain ⟨_, _, _, _, o, _, _, e, _⟩ := x; exact ⟨_, e⟩
  | set S n => obtain ⟨o, _, _, _, e, _⟩ := x; exact ⟨_, e⟩
  | ins C dx fs => obtain ⟨_, _, _, e, _⟩ := x; exact ⟨_, e⟩
  | own y => obtain ⟨_, e⟩ := x; exact ⟨_, e⟩
  | xd fs => obtain ⟨_, ⟨_, _, _, e, _⟩, _⟩ := x; exact ⟨_, e⟩
  | rng lo hi => obtain ⟨_, _, _, e⟩ := x; exact ⟨_, e⟩
  | frz ob u => obtain ⟨e, _⟩ := x; exact ⟨_, e⟩
  | tbl ps => exact ⟨_, (show h.get? a = some _ from x)⟩
  | met f y => exact ⟨_, (show h.get? a = some _ from x)⟩
  | ext φ => obtain ⟨_, e, _⟩ := x; exact e
structure Flew (P : Program) (w : World) (outer : List Env) (H H' : Hp) (s : Shared) (e : Addr) (C : Value) (B : Heap) (s' : Shared) : Prop where
  os : s'.os = s.os
  bare : AllBare s'.gens
  un : Un (frs outer) [] H H' s.heap s'.heap
  hok : HOk P w H' s'.heap
  trk : ∀ b o, s'.heap.get? b = some o → H' b ≠ none → B.get? b = some o
  old : ∀ b o, s.heap.get? b = some o → H b = none → b ∉ frs outer → B.get? b = some o
  thr : ∀ b o, s.heap.get? b = some o → b ∉ frs outer → ∃ o', B.get? b = some o'
  frf : ∀ b ∈ frs outer, H b = none
  unt : H' e = none
  new : s.heap.get? e = none
  fly : ∃ a0, Heap.FlyingW B outer e C a0 s'.heap
def CXr (P : Program) (w : World) : CXT := fun outer H s E e s' => ∃ (a : Addr) (C : Value) (H' : Hp) (B : Heap), e = .ref a ∧ Flew P w outer H H' s a C B s' ∧ E C none H'
section
variable {P : Program} {w : World} {outer : List Env} {H H' : Hp} {s s' : Shared} {e : Addr} {C : Value} {B : Heap}
theorem Flew.to {h2 : Heap} (F : Flew P w outer H H' s e C B s') (hB : B.StaysIn h2) (hs : s'.heap.UpToSlots h2) : Un (frs outer) [] H H' s.heap h2 ∧ HOk P w H' h2 ∧ ∀ b o, h2.get? b = some o → H' b ≠ none → B.get? b = some o := by
  obtain ⟨a0, fl⟩ := F.fly
  have kp : ∀ b o, s.heap.get? b = some o → H b = none → b ∉ frs outer → h2.get? b = some o := fun b o x n hb => hB b o (F.old b o x n hb)
  have sl : ∀ b o, s.heap.get? b = some o → H b = none → b ∈ frs outer → ∃ sl, h2.get? b = some { o with slots := sl } := fun b o x n hb => by
    obtain ⟨sl, e1⟩ := F.un.slot b o x n hb (by simp)
    obtain ⟨_, o', e2, d⟩ := fl.2.2.1.mem hb
    rw [e1] at e2
    cases e2
    obtain ⟨sl', e3⟩ := hs b { o with slots := sl } e1 d
    exact ⟨sl', e3⟩
  refine ⟨⟨fun b o x n hb _ => kp b o x n hb, fun b o x n hb _ => sl b o x n hb, F.un.free, fun b o x _ => ?_, F.un.tups, F.un.frzs, F.un.tbls⟩, fun a u eu => ?_, fun b o x n => ?_⟩
  · by_cases hb : b ∈ frs outer
    · obtain ⟨l, e1⟩ := sl b o x (F.frf b hb) hb
      exact ⟨_, e1⟩
    · obtain ⟨o', e1⟩ := F.thr b o x hb
      exact ⟨o', hB b o' e1⟩
  · refine (F.hok a u eu).stay (fun b v hb q => hB b v (F.trk b v q ?_)) (fun _ q => q) fun _ _ q => q
    rcases hb with z | z
    · rw [z, eu]; simp
    · rw [z]; simp
  · cases eu : H' b with
    | none => exact absurd eu n
    | some u =>
      obtain ⟨o1, e1⟩ := (F.hok b u eu).there
      have e2 := F.trk b o1 e1 n
      have e3 := hB b o1 e2
      rw [x] at e3
      cases e3
      exact e2
theorem Flew.next {h2 : Heap} (F : Flew P w outer H H' s e C B s') (hs : s'.heap.UpToSlots h2) (fl : ∃ a0, Heap.FlyingW B outer e C a0 h2) : Flew P w outer H H' s e C B { s' with heap := h2 } := by
  obtain ⟨a0, fl⟩ := fl
  obtain ⟨u, k, t⟩ := F.to fl.1 hs
  exact ⟨F.os, F.bare, u, k, t, F.old, F.thr, F.frf, F.unt, F.new, a0, fl⟩
theorem Flew.inv {X : Cx} {pins : List (Addr × Obj)} {σ : St} (F : Flew X.prog X.w X.stack H H' s e C B s') (I : Inv X pins σ H s) : Inv X pins σ H' s' :=
  I.call' (ch := []) F.os F.un F.hok F.bare fun _ z => nomatch z
end
section
variable {P : Program} {w : World} {K : PySem.W.Frag} {mg : Str → Option Value} {base : Heap} {N : List Str} {qual : Str} {scope : Scope} {f : Addr} {cd : Value} {A : Around} {outer : List Env} {s s1 : Shared} {H H1 : Hp} {E E' : XK}
  {pins : List (Addr × Obj)} {σ : St}
theorem raised {h' : Heap} {e C : Addr} {vs : List Value} (I : Inv (cxOf (CXr P w) P w K mg base N qual scope f cd A outer s H E) pins σ H1 s1) (hx : Heap.MadeExcOf s1.heap h' e (.ref C) vs) (hE : E (.ref C) none H1) :
    (cxOf (CXr P w) P w K mg base N qual scope f cd A outer s H E).xe (.ref e) { s1 with heap := h' } := by
  have fs : ∀ b, b ∈ frs (envOfC qual scope s.heap.objs.size f cd :: outer) → H1 b = none := I.stkFree
  have inn : ∀ b o, s1.heap.get? b = some o → b ∉ frs (envOfC qual scope s.heap.objs.size f cd :: outer) → (PySem.W.hideAll s1.heap (frs (envOfC qual scope s.heap.objs.size f cd :: outer))).get? b = some o := fun b o e hb => PySem.W.hideAll_get _ e hb
  have out : ∀ b o, s.heap.get? b = some o → b ∉ frs outer → b ∉ frs (envOfC qual scope s.heap.objs.size f cd :: outer) := fun b o e hb z => by
    have z : b ∈ s.heap.objs.size :: frs outer := z
    rcases List.mem_cons.mp z with q | q
    · rw [q] at e; exact Nat.lt_irrefl _ (Heap.lt_size e)
    · exact hb q
  have frf : ∀ b ∈ frs outer, H b = none := I.ok.frf
  have hin : ∀ env ∈ (envOfC qual scope s.heap.objs.size f cd :: outer), ∀ a, env.frame = some a → a ∈ frs (envOfC qual scope s.heap.objs.size f cd :: outer) := fun env he a ha => List.mem_filterMap.mpr ⟨env, he, ha⟩
  show wpAny (model P w) (A.deeper (envOfC qual scope s.heap.objs.size f cd)) (leaving (envOfC qual scope s.heap.objs.size f cd) (.ref e)) _ _ _
  refine wpAny_leaves_madeW (base := PySem.W.hideAll s1.heap (frs (envOfC qual scope s.heap.objs.size f cd :: outer))) I.ok.frames rfl (fun b o q => PySem.W.of_hideAll _ q) (PySem.W.funFrames_hide I.stack hin) hx fun h2 t fl _ _ ups => ?_
  have hB := fl.1
  have sl : ∀ b o, s.heap.get? b = some o → H b = none → b ∈ frs outer → ∃ sl, h2.get? b = some { o with slots := sl } := fun b o x n hb => by
    obtain ⟨sl, e1⟩ := I.base.slot b o x n hb (by simp [cxOf])
    obtain ⟨_, o', e2, d⟩ := I.stack.mem (show b ∈ s.heap.objs.size :: frs outer from List.mem_cons_of_mem _ hb)
    rw [e1] at e2
    cases e2
    obtain ⟨sl', e3⟩ := ups b { o with slots := sl } (hx.keeps b { o with slots := sl } e1) d
    exact ⟨sl', e3⟩
  have old : ∀ b o, s.heap.get? b = some o → H b = none → b ∉ frs outer → (PySem.W.hideAll s1.heap (frs (envOfC qual scope s.heap.objs.size f cd :: outer))).get? b = some o := fun b o x n hb =>
    inn b o (I.base.keep b o x n hb (by simp [cxOf])) (out b o x hb)
  have thr : ∀ b o, s.heap.get? b = some o → b ∉ frs outer → ∃ o', (PySem.W.hideAll s1.heap (frs (envOfC qual scope s.heap.objs.size f cd :: outer))).get? b = some o' := fun b o x hb => by
    obtain ⟨o', e1⟩ := I.base.there b o x (by simp [cxOf])
    exact ⟨o', inn b o' e1 (out b o x hb)⟩
  have nfr : ∀ b, H1 b ≠ none → b ∉ frs (envOfC qual scope s.heap.objs.size f cd :: outer) := fun b n z => n (fs b z)
  refine ⟨e, .ref C, H1, _, rfl, ⟨I.os, I.bare, ⟨fun b o x n hb _ => hB b o (old b o x n hb), fun b o x n hb _ => sl b o x n hb, fun b o x n _ => I.base.free b o x n (by simp [cxOf]), fun b o x _ => ?_, I.base.tups, I.base.frzs, I.base.tbls⟩, fun a u eu => ?_, fun b o x n => ?_, old, thr, frf, ?_, ?_, _, fl⟩, hE⟩
  · by_cases hb : b ∈ frs outer
    · obtain ⟨l, e1⟩ := sl b o x (frf b hb) hb
      exact ⟨_, e1⟩
    · obtain ⟨o', e1⟩ := thr b o x hb
      exact ⟨o', hB b o' e1⟩
  · refine (I.hok a u eu).stay (fun b v hb q => hB b v (inn b v q (nfr b ?_))) (fun _ q => q) fun _ _ q => q
    rcases hb with z | z
    · rw [z, eu]; simp
    · rw [z]; simp
  · cases eu : H1 b with
    | none => exact absurd eu n
    | some u =>
      obtain ⟨o1, e1⟩ := (I.hok b u eu).there
      have e2 := inn b o1 e1 (nfr b n)
      have e3 := hB b o1 e2
      rw [x] at e3
      cases e3
      exact e2
  · cases eu : H1 e with
    | none => rfl
    | some u =>
      obtain ⟨o1, e1⟩ := (I.hok e u eu).there
      rw [hx.new] at e1
      cases e1
  · cases eo : s.heap.get? e with
    | none => rfl
    | some o =>
      obtain ⟨o1, e1⟩ := I.base.there e o eo (by simp [cxOf])
      rw [hx.new] at e1
      cases e1
theorem pass_on (hE : ∀ C d H', E' C d H' → E C d H') : Passes (CXr P w) (cxOf (CXr P w) P w K mg base N qual scope f cd A outer s H E) E' := by
  intro pins σ H1 s1 e s' I hc
  obtain ⟨a, C, H', B, rfl, F, q⟩ := hc
  have F : Flew P w (envOfC qual scope s.heap.objs.size f cd :: outer) H1 H' s1 a C B s' := F
  obtain ⟨a0, fl⟩ := F.fly
  have I2 : Inv (cxOf (CXr P w) P w K mg base N qual scope f cd A outer s H E) pins σ H' s' := Flew.inv (X := cxOf (CXr P w) P w K mg base N qual scope f cd A outer s H E) F I
  have out : ∀ b o, s.heap.get? b = some o → b ∉ frs outer → b ∉ frs (envOfC qual scope s.heap.objs.size f cd :: outer) := fun b o e hb z => by
    have z : b ∈ s.heap.objs.size :: frs outer := z
    rcases List.mem_cons.mp z with q | q
    · rw [q] at e; exact Nat.lt_irrefl _ (Heap.lt_size e)
    · exact hb q
  obtain ⟨f1, f2, ⟨_, _, f3⟩, f4⟩ := id fl
  have G : Flew P w outer H H' s a C B s' := by
    refine ⟨I2.os, F.bare, ⟨fun b o x n hb _ => I2.base.keep b o x n hb (by simp [cxOf]), fun b o x n hb _ => I2.base.slot b o x n hb (by simp [cxOf]), fun b o x n _ => I2.base.free b o x n (by simp [cxOf]), fun b o x _ => I2.base.there b o x (by simp [cxOf]), I2.base.tups, I2.base.frzs, I2.base.tbls⟩, F.hok, F.trk,
      fun b o x n hb => F.old b o (I.base.keep b o x n hb (by simp [cxOf])) (I.base.free b o x n (by simp [cxOf])) (out b o x hb), fun b o x hb => ?_, I.ok.frf, F.unt, ?_, a0, f1, f2, f3, f4⟩
    · obtain ⟨o1, e1⟩ := I.base.there b o x (by simp [cxOf])
      exact F.thr b o1 e1 (out b o x hb)
    · cases eo : s.heap.get? a with
      | none => rfl
      | some o =>
        obtain ⟨o1, e1⟩ := I.base.there a o eo (by simp [cxOf])
        rw [F.new] at e1
        cases e1
  show wpAny (model P w) (A.deeper (envOfC qual scope s.heap.objs.size f cd)) (leaving (envOfC qual scope s.heap.objs.size f cd) (.ref a)) _ _ _
  exact wpAny_leaves_onW I.ok.frames rfl fl fun h2 fl2 ups => ⟨a, C, H', B, rfl, G.next ups ⟨_, fl2⟩, hE C none H' q⟩
end
end L2
set_option Elab.async false
set_option linter.all false
set_option maxRecDepth 100000
namespace L2
open PySem PySem.Spec PyProof.Rows
def ListsAt (h : Heap) (I S : Addr) (items : Array Value) (ls : List Nat) : Prop := ∀ i v, items[i]? = some v → ∃ (l : Addr) (its : Array Value), v = .ref l ∧ l ≠ I ∧ l ≠ S ∧ h.IsList l its ∧ its.size = ls.getD i 0 ∧ its.size ≤ sizeLine
theorem ListsAt.to {h h' : Heap} {I S : Addr} {items : Array Value} {ls : List Nat} (a : ListsAt h I S items ls) (k : ∀ x o, x ≠ I → x ≠ S → h.get? x = some o → h'.get? x = some o) : ListsAt h' I S items ls := fun i v hv => by
  obtain ⟨l, its, e, n1, n2, hl, hs⟩ := a i v hv
  exact ⟨l, its, e, n1, n2, hl.at fun o q => k l o n1 n2 q, hs⟩
section
variable {prog : Program} {w : World} {A : Around} {R : Result → Shared → Prop} {I l : Addr} {items : Array Value} {ls : List Nat} {d : Value}
end
section
variable {X : Cx} {a b : Expr} {ta tb : TE} {p p2 pos kp kp2 : Pos}
end
end L2
set_option Elab.async false
set_option linter.all false
set_option maxRecDepth 100000
namespace L2
open PySem PySem.Spec PyProof.Rows
section
variable {prog : Program} {w : World} {A : Around} {R : Result → Shared → Prop} {I : Addr} {fp wr : List Addr} {n : Nat} {P : Nat → Value → Prop} {St : Nat → Heap → Prop}
end
section
variable {prog : Program} {w : World} {A : Around} {E : Value → Shared → Prop} {s : Shared}
end
section
variable {X : Cx}
end
end L2
set_option Elab.async false
set_option linter.all false
set_option maxRecDepth 100000
namespace L3
open PySem PySem.Spec L2
inductive D where
  | non | bl (b : Bool) | int (i : Int) | str (x : Str) | lst (xs : List D) | scr (xs : List D) | tup (xs : List D) | gt (xs : List D) | ref (k : Nat)
inductive O where
  | lst (xs : List D) | dK (kvs : List (Key × D)) | ins (C : Addr) (fs : List (Str × D)) | exc (C : Addr)
abbrev M := List (Option O)
abbrev G := List (Option D)
structure Wd where
  ρ : List Addr
  μ : M
  H : Hp
  hid : Addr → Prop
def SqF (K : PySem.W.Frag) (H : Hp) (a : Addr) (xs : List V) : Prop := (∃ o, H a = some (.frz o (.lst xs))) ∨
    ∃ (o : Obj) (its : Array Value) (n : Nat), K.lookup a = some o ∧ o.cls = .type "list" ∧ o.dict = none ∧ o.data = .seq its n ∧ its.size ≤ sizeLine ∧ Vals xs its.toList
theorem SqF.seq {K : PySem.W.Frag} {H : Hp} {a : Addr} {xs : List V} (h : SqF K H a xs) : SqL K H a xs := by
  rcases h with h | h
  · exact .inl (.inr h)
  · exact .inr h
def RL (W : Wd) (a : Addr) : Prop := ∃ (k : Nat) (o : O), W.μ[k]? = some (some o) ∧ W.ρ[k]? = some a
def Live (W : Wd) (a : Addr) : Prop := RL W a ∨ W.hid a
mutual
inductive DR (K : PySem.W.Frag) (W : Wd) : D → V → Prop where
  | non : DR K W .non .non
  | bl (b : Bool) : DR K W (.bl b) (.bl b)
  | int (i : Int) : DR K W (.int i) (.int i)
  | str (x : Str) : DR K W (.str x) (.str x)
  | ref {k : Nat} {a : Addr} : W.ρ[k]? = some a → DR K W (.ref k) (.ref a)
  | lst {a : Addr} {vs : List V} {ds : List D} : W.H a = some (.lst vs) → ¬ Live W a → DRs K W ds vs → DR K W (.lst ds) (.ref a)
  | scr {a : Addr} {vs : List V} {ds : List D} : SqF K W.H a vs → DRs K W ds vs → DR K W (.scr ds) (.ref a)
  | tup {a : Addr} {vs : List V} {ds : List D} : W.H a = some (.tup vs) → DRs K W ds vs → DR K W (.tup ds) (.ref a)
  | gt {a : Addr} {vs : List V} {ds : List D} : SqT K W.H a vs → DRs K W ds vs → DR K W (.gt ds) (.ref a)
inductive DRs (K : PySem.W.Frag) (W : Wd) : List D → List V → Prop where
  | nil : DRs K W [] []
  | cons {d : D} {v : V} {ds : List D} {vs : List V} : DR K W d v → DRs K W ds vs → DRs K W (d :: ds) (v :: vs)
end
def KR (K : PySem.W.Frag) (W : Wd) : List (Key × D) → List (Key × V) → Prop := Paired fun p q => p.1 = q.1 ∧ DR K W p.2 q.2
def FR (K : PySem.W.Frag) (W : Wd) : List (Str × D) → List (Str × V) → Prop := Paired fun p q => p.1 = q.1 ∧ DR K W p.2 q.2
def OR (K : PySem.W.Frag) (W : Wd) (a : Addr) : O → HO → Prop
  | .lst ds, ho => ∃ vs, ho = .lst vs ∧ DRs K W ds vs
  | .dK kvs, ho => ∃ vs, ho = .dK vs ∧ KR K W kvs vs
  | .ins C fs, ho => ∃ vs, (∃ dx, ho = .ins C dx vs) ∧ FR K W fs vs
  | .exc C, ho => ho = excO a C
structure Ok (K : PySem.W.Frag) (W : Wd) : Prop where
  len : W.ρ.length = W.μ.length
  nd : W.ρ.Nodup
  rs : ∀ a ∈ W.ρ, W.H a ≠ none
  at_ : ∀ (k : Nat) (o : O), W.μ[k]? = some (some o) → ∃ a ho, W.ρ[k]? = some a ∧ W.H a = some ho ∧ OR K W a o ho
  hd0 : ∀ a, W.hid a → W.H a ≠ none ∧ a ∉ W.ρ
theorem Ok.hd {K : PySem.W.Frag} {W : Wd} (ok : Ok K W) : ∀ a, W.hid a → W.H a ≠ none ∧ ¬ RL W a := fun a z => ⟨(ok.hd0 a z).1, fun ⟨_, _, _, h⟩ => (ok.hd0 a z).2 (List.mem_of_getElem? h)⟩
structure Step (W W' : Wd) : Prop where
  ρ : ∀ (k : Nat) a, W.ρ[k]? = some a → W'.ρ[k]? = some a
  live : ∀ a, RL W' a → RL W a ∨ W.H a = none
  keep : ∀ a o, W.H a = some o → ¬ RL W a → W'.H a = some o
  hid : W'.hid = W.hid
  still : ∀ a, W.H a ≠ none → W'.H a ≠ none
structure EnvR (K : PySem.W.Frag) (W : Wd) (Γ : G) (σ : St) : Prop where
  len : Γ.length = σ.length
  at_ : ∀ (i : Nat) d, Γ[i]? = some (some d) → ∃ v, σ[i]? = some (some v) ∧ DR K W d v
section
variable {K : PySem.W.Frag} {W W' W'' : Wd} {Γ : G} {σ : St}
theorem Step.refl : Step W W := ⟨fun _ _ h => h, fun _ h => .inl h, fun _ _ h _ => h, rfl, fun _ h => h⟩
theorem Step.nlive (s : Step W W') {a : Addr} {o : HO} (h : W.H a = some o) (n : ¬ RL W a) : ¬ RL W' a := fun z => by
  rcases s.live a z with z | z
  · exact n z
  · rw [h] at z; cases z
theorem Step.trans (s : Step W W') (t : Step W' W'') : Step W W'' where
  ρ k a h := t.ρ k a (s.ρ k a h)
  live a h := by
    rcases t.live a h with z | z
    · exact s.live a z
    · exact .inr (Classical.byContradiction fun n => s.still a n z)
  keep a o h n := t.keep a o (s.keep a o h n) (s.nlive h n)
  hid := t.hid.trans s.hid
  still a h := t.still a (s.still a h)
theorem Step.nLive (s : Step W W') {a : Addr} {o : HO} (h : W.H a = some o) (n : ¬ Live W a) : ¬ Live W' a := fun z => by
  rcases z with z | z
  · exact s.nlive h (fun q => n (.inl q)) z
  · rw [s.hid] at z; exact n (.inr z)
theorem Rd.there {H : Hp} {a : Addr} {u : HO} (r : Rd H a u) : ∃ o, H a = some o := by
  rcases r with h | ⟨o, h⟩
  · exact ⟨_, h⟩
  · exact ⟨_, h⟩
theorem rd_step (s : Step W W') {a : Addr} {u : HO} (n : ¬ RL W a) (r : Rd W.H a u) : Rd W'.H a u := by
  rcases r with h | ⟨o, h⟩
  · exact .inl (s.keep _ _ h n)
  · exact .inr ⟨o, s.keep _ _ h n⟩
theorem Ok.notup (ok : Ok K W) {a : Addr} {vs : List V} (r : Rd W.H a (.tup vs)) : ¬ RL W a := fun ⟨k, o, hk, ha⟩ => by
  obtain ⟨a', ho, h1, h2, h3⟩ := ok.at_ k o hk
  rw [ha] at h1
  cases h1
  rcases r with h | ⟨q, h⟩
  · rw [h2] at h
    cases o with
    | lst ds => obtain ⟨ws, rfl, _⟩ := h3; cases h
    | dK kvs => obtain ⟨ws, rfl, _⟩ := h3; cases h
    | ins C fs => obtain ⟨ws, ⟨dx, rfl⟩, _⟩ := h3; cases h
    | exc C => cases (show _ = _ from h3); cases h
  · rw [h2] at h
    cases o with
    | lst ds => obtain ⟨ws, rfl, _⟩ := h3; cases h
    | dK kvs => obtain ⟨ws, rfl, _⟩ := h3; cases h
    | ins C fs => obtain ⟨ws, ⟨dx, rfl⟩, _⟩ := h3; cases h
    | exc C => cases (show _ = _ from h3); cases h
theorem tp_step (ok : Ok K W) (s : Step W W') {a : Addr} {vs : List V} (h : SqT K W.H a vs) : SqT K W'.H a vs := by
  rcases h with h | h
  · exact .inl (rd_step s (ok.notup h) h)
  · exact .inr h
theorem Ok.nofrz (ok : Ok K W) {a : Addr} {u : HO} {q : Obj} (h : W.H a = some (.frz q u)) : ¬ RL W a := fun ⟨k, o, hk, ha⟩ => by
  obtain ⟨a', ho, h1, h2, h3⟩ := ok.at_ k o hk
  rw [ha] at h1
  cases h1
  rw [h2] at h
  cases o with
  | lst ds => obtain ⟨ws, rfl, _⟩ := h3; cases h
  | dK kvs => obtain ⟨ws, rfl, _⟩ := h3; cases h
  | ins C fs => obtain ⟨ws, ⟨dx, rfl⟩, _⟩ := h3; cases h
  | exc C => cases (show _ = _ from h3); cases h
theorem sf_step (ok : Ok K W) (s : Step W W') {a : Addr} {vs : List V} (h : SqF K W.H a vs) : SqF K W'.H a vs := by
  rcases h with ⟨o, h⟩ | h
  · exact .inl ⟨o, s.keep _ _ h (ok.nofrz h)⟩
  · exact .inr h
mutual
theorem DR.step (ok : Ok K W) (s : Step W W') : ∀ {d : D} {v : V}, DR K W d v → DR K W' d v
  | _, _, .non => .non
  | _, _, .bl b => .bl b
  | _, _, .int i => .int i
  | _, _, .str x => .str x
  | _, _, .ref h => .ref (s.ρ _ _ h)
  | _, _, .lst r n h => .lst (s.keep _ _ r (fun z => n (.inl z))) (s.nLive r n) (DRs.step ok s h)
  | _, _, .scr r h => .scr (sf_step ok s r) (DRs.step ok s h)
  | _, _, .tup r h => .tup (s.keep _ _ r (ok.notup (.inl r))) (DRs.step ok s h)
  | _, _, .gt r h => .gt (tp_step ok s r) (DRs.step ok s h)
theorem DRs.step (ok : Ok K W) (s : Step W W') : ∀ {ds : List D} {vs : List V}, DRs K W ds vs → DRs K W' ds vs
  | _, _, .nil => .nil
  | _, _, .cons h t => .cons (h.step ok s) (DRs.step ok s t)
end
theorem KR.step (ok : Ok K W) (s : Step W W') {kvs : List (Key × D)} {vs : List (Key × V)} (h : KR K W kvs vs) : KR K W' kvs vs := Paired.mapP h fun _ _ ⟨e, q⟩ => ⟨e, q.step ok s⟩
theorem FR.step (ok : Ok K W) (s : Step W W') {kvs : List (Str × D)} {vs : List (Str × V)} (h : FR K W kvs vs) : FR K W' kvs vs := Paired.mapP h fun _ _ ⟨e, q⟩ => ⟨e, q.step ok s⟩
theorem OR.step (ok : Ok K W) (s : Step W W') {a : Addr} {o : O} {ho : HO} (h : OR K W a o ho) : OR K W' a o ho := by
  cases o with
  | lst ds => obtain ⟨vs, e, q⟩ := h; exact ⟨vs, e, q.step ok s⟩
  | dK kvs => obtain ⟨vs, e, q⟩ := h; exact ⟨vs, e, q.step ok s⟩
  | ins C fs => obtain ⟨vs, e, q⟩ := h; exact ⟨vs, e, q.step ok s⟩
  | exc C => exact h
theorem EnvR.step (e : EnvR K W Γ σ) (ok : Ok K W) (s : Step W W') : EnvR K W' Γ σ := ⟨e.len, fun i d h => let ⟨v, a, b⟩ := e.at_ i d h; ⟨v, a, b.step ok s⟩⟩
theorem DRs.length : ∀ {ds : List D} {vs : List V}, DRs K W ds vs → ds.length = vs.length
  | _, _, .nil => rfl
  | _, _, .cons _ t => by simp [t.length]
theorem DRs.get : ∀ {ds : List D} {vs : List V} {i : Nat} {d : D}, DRs K W ds vs → ds[i]? = some d → ∃ v, vs[i]? = some v ∧ DR K W d v
  | _, _, _, _, .nil, e => by simp at e
  | _, _, 0, _, .cons h _, e => by simp at e; subst e; exact ⟨_, rfl, h⟩
  | _, _, i + 1, d, .cons _ t, e => by
    obtain ⟨v, h1, h2⟩ := DRs.get (i := i) (d := d) t (by simpa using e)
    exact ⟨v, by simpa using h1, h2⟩
theorem DRs.append : ∀ {ds es : List D} {vs us : List V}, DRs K W ds vs → DRs K W es us → DRs K W (ds ++ es) (vs ++ us)
  | _, _, _, _, .nil, s => s
  | _, _, _, _, .cons h t, s => .cons h (DRs.append t s)
theorem DRs.take : ∀ {ds : List D} {vs : List V} (n : Nat), DRs K W ds vs → DRs K W (ds.take n) (vs.take n)
  | _, _, 0, _ => .nil
  | _, _, _ + 1, .nil => .nil
  | _, _, n + 1, .cons r t => .cons r (DRs.take n t)
theorem DRs.drop : ∀ {ds : List D} {vs : List V} (n : Nat), DRs K W ds vs → DRs K W (ds.drop n) (vs.drop n)
  | _, _, 0, r => r
  | _, _, _ + 1, .nil => .nil
  | _, _, n + 1, .cons _ t => DRs.drop n t
theorem DRs.set {d : D} {v : V} (r : DR K W d v) : ∀ {ds : List D} {vs : List V} (i : Nat), DRs K W ds vs → DRs K W (ds.set i d) (vs.set i v)
  | _, _, _, .nil => .nil
  | _, _, 0, .cons _ t => .cons r t
  | _, _, i + 1, .cons q t => .cons q (DRs.set r i t)
theorem DRs.reverse {ds : List D} {vs : List V} (h : DRs K W ds vs) : DRs K W ds.reverse vs.reverse := by
  induction ds generalizing vs with
  | nil => cases h; exact .nil
  | cons d r ih =>
    cases h with
    | cons h t => simp only [List.reverse_cons]; exact (ih t).append (.cons h .nil)
theorem DRs.rep {ds : List D} {vs : List V} (h : DRs K W ds vs) : ∀ n, DRs K W (List.replicate n ds).flatten (List.replicate n vs).flatten
  | 0 => .nil
  | n + 1 => by simp only [List.replicate_succ, List.flatten_cons]; exact h.append (DRs.rep h n)
end
section
variable {K : PySem.W.Frag} {W : Wd}
def Wd.lay (W : Wd) (p : Addr) (o : HO) : Wd := { W with H := upd W.H p o }
theorem fresh_nrl (ok : Ok K W) {p : Addr} (h : W.H p = none) : ¬ RL W p := fun ⟨k, o, _, ha⟩ => ok.rs p (List.mem_of_getElem? ha) h
theorem fresh_nhid (ok : Ok K W) {p : Addr} (h : W.H p = none) : ¬ W.hid p := fun z => (ok.hd p z).1 h
theorem fresh_nlive (ok : Ok K W) {p : Addr} (h : W.H p = none) : ¬ Live W p := fun z => z.elim (fresh_nrl ok h) (fresh_nhid ok h)
theorem step_lay {p : Addr} {o : HO} (h : W.H p = none) : Step W (W.lay p o) where
  ρ _ _ h := h
  live _ h := .inl h
  keep a u e _ := by show upd W.H p o a = _; rw [upd_ne (ne_of_none e h)]; exact e
  hid := rfl
  still a n := by
    show upd W.H p o a ≠ none
    by_cases e : a = p
    · subst e; rw [upd_same]; simp
    · rw [upd_ne e]; exact n
theorem ok_lay (ok : Ok K W) {p : Addr} {o : HO} (h : W.H p = none) : Ok K (W.lay p o) where
  len := ok.len
  nd := ok.nd
  rs a m := (step_lay h).still a (ok.rs a m)
  at_ k u e := by
    obtain ⟨a, ho, h1, h2, h3⟩ := ok.at_ k u e
    refine ⟨a, ho, h1, ?_, h3.step ok (step_lay h)⟩
    show upd W.H p o a = _
    rw [upd_ne (ne_of_none h2 h)]; exact h2
  hd0 a z := ⟨(step_lay h).still a (ok.hd a z).1, (ok.hd0 a z).2⟩
theorem nlive_lay (ok : Ok K W) {p : Addr} {o : HO} (h : W.H p = none) : ¬ Live (W.lay p o) p := fresh_nlive ok h
theorem dr_lst (ok : Ok K W) {p : Addr} {ds : List D} {vs : List V} (h : W.H p = none) (r : DRs K W ds vs) : DR K (W.lay p (.lst vs)) (.lst ds) (.ref p) :=
  .lst upd_same (nlive_lay ok h) (r.step ok (step_lay h))
theorem dr_tup (ok : Ok K W) {p : Addr} {ds : List D} {vs : List V} (h : W.H p = none) (r : DRs K W ds vs) : DR K (W.lay p (.tup vs)) (.tup ds) (.ref p) :=
  .tup upd_same (r.step ok (step_lay h))
def Wd.new (W : Wd) (p : Addr) (o : HO) (x : O) : Wd := { W with H := upd W.H p o, ρ := W.ρ ++ [p], μ := W.μ ++ [some x] }
theorem get_snoc {α : Type} {l : List α} {x y : α} {k : Nat} (h : (l ++ [x])[k]? = some y) : l[k]? = some y ∨ (k = l.length ∧ y = x) := by
  by_cases hk : k < l.length
  · rw [List.getElem?_append_left hk] at h; exact .inl h
  · rw [List.getElem?_append_right (by omega)] at h
    have : k - l.length = 0 := by
      cases e : k - l.length with
      | zero => rfl
      | succ n => rw [e] at h; simp at h
    rw [this] at h
    simp at h
    exact .inr ⟨by omega, h.symm⟩
theorem rl_new (ok : Ok K W) {p a : Addr} {o : HO} {x : O} (h : RL (W.new p o x) a) : RL W a ∨ a = p := by
  obtain ⟨k, u, h1, h2⟩ := h
  rcases get_snoc h1 with z | ⟨e, _⟩
  · rcases get_snoc h2 with y | ⟨e, y⟩
    · exact .inl ⟨k, u, z, y⟩
    · have := (List.getElem?_eq_some_iff.mp z).1
      rw [e, ok.len] at this
      omega
  · rcases get_snoc h2 with y | ⟨_, y⟩
    · have := (List.getElem?_eq_some_iff.mp y).1
      rw [e, ← ok.len] at this
      omega
    · exact .inr y
theorem step_new (ok : Ok K W) {p : Addr} {o : HO} {x : O} (h : W.H p = none) : Step W (W.new p o x) where
  ρ k a e := by
    show (W.ρ ++ [p])[k]? = _
    rw [List.getElem?_append_left (List.getElem?_eq_some_iff.mp e).1]; exact e
  live a z := by
    rcases rl_new ok z with z | rfl
    · exact .inl z
    · exact .inr h
  keep a u e _ := by show upd W.H p o a = _; rw [upd_ne (ne_of_none e h)]; exact e
  hid := rfl
  still a n := by
    show upd W.H p o a ≠ none
    by_cases e : a = p
    · subst e; rw [upd_same]; simp
    · rw [upd_ne e]; exact n
theorem ok_new (ok : Ok K W) {p : Addr} {o : HO} {x : O} (h : W.H p = none) (r : OR K W p x o) : Ok K (W.new p o x) where
  len := by show (W.ρ ++ [p]).length = (W.μ ++ [some x]).length; simp [ok.len]
  nd := by
    show (W.ρ ++ [p]).Nodup
    rw [List.nodup_append]
    refine ⟨ok.nd, by simp, fun a ha b hb e => ?_⟩
    simp at hb
    subst hb e
    exact ok.rs _ ha h
  rs a m := by
    rcases List.mem_append.mp m with m | m
    · exact (step_new ok h).still a (ok.rs a m)
    · simp at m
      subst m
      show upd W.H a o a ≠ none
      rw [upd_same]; simp
  at_ k u e := by
    rcases get_snoc e with e | ⟨e, y⟩
    · obtain ⟨a, ho, h1, h2, h3⟩ := ok.at_ k u e
      refine ⟨a, ho, (step_new ok h).ρ k a h1, ?_, h3.step ok (step_new ok h)⟩
      show upd W.H p o a = _
      rw [upd_ne (ne_of_none h2 h)]; exact h2
    · cases y
      rename_i hk
      refine ⟨p, o, ?_, upd_same, r.step ok (step_new ok h)⟩
      show (W.ρ ++ [p])[k]? = _
      rw [hk, ← ok.len]; simp
  hd0 a z := by
    refine ⟨(step_new ok h).still a (ok.hd a z).1, fun q => ?_⟩
    have q : a ∈ W.ρ ++ [p] := q
    rcases List.mem_append.mp q with q | q
    · exact (ok.hd0 a z).2 q
    · simp at q
      subst q
      exact (ok.hd a z).1 h
theorem dr_new (ok : Ok K W) {p : Addr} {o : HO} {x : O} : DR K (W.new p o x) (.ref W.μ.length) (.ref p) := by
  refine .ref ?_
  show (W.ρ ++ [p])[W.μ.length]? = _
  rw [← ok.len]; simp
def Wd.put (W : Wd) (k : Nat) (a : Addr) (o : HO) (x : O) : Wd := { W with H := upd W.H a o, μ := W.μ.set k (some x) }
theorem rl_put {k : Nat} {a b : Addr} {o : HO} {x y : O} (hk : W.μ[k]? = some (some y)) : RL (W.put k a o x) b ↔ RL W b := by
  have hlt := (List.getElem?_eq_some_iff.mp hk).1
  constructor
  · rintro ⟨j, u, h1, h2⟩
    have h1 : (W.μ.set k (some x))[j]? = some (some u) := h1
    by_cases e : j = k
    · subst e; exact ⟨j, y, hk, h2⟩
    · rw [List.getElem?_set_ne (Ne.symm e)] at h1; exact ⟨j, u, h1, h2⟩
  · rintro ⟨j, u, h1, h2⟩
    by_cases e : j = k
    · subst e; exact ⟨j, x, by show (W.μ.set j (some x))[j]? = _; simp [hlt], h2⟩
    · exact ⟨j, u, by show (W.μ.set k (some x))[j]? = _; rw [List.getElem?_set_ne (Ne.symm e)]; exact h1, h2⟩
theorem step_put {k : Nat} {a : Addr} {o : HO} {x y : O} (hk : W.μ[k]? = some (some y)) (ha : W.ρ[k]? = some a) : Step W (W.put k a o x) where
  ρ _ _ h := h
  live b z := .inl ((rl_put hk).mp z)
  keep b u e n := by
    have hne : b ≠ a := fun z => n (by rw [z]; exact ⟨k, y, hk, ha⟩)
    show upd W.H a o b = _
    rw [upd_ne hne]; exact e
  hid := rfl
  still b n := by
    show upd W.H a o b ≠ none
    by_cases e : b = a
    · subst e; rw [upd_same]; simp
    · rw [upd_ne e]; exact n
theorem ok_put (ok : Ok K W) {k : Nat} {a : Addr} {o : HO} {x y : O} (hk : W.μ[k]? = some (some y)) (ha : W.ρ[k]? = some a) (r : OR K W a x o) : Ok K (W.put k a o x) where
  len := by show W.ρ.length = (W.μ.set k (some x)).length; simp [ok.len]
  nd := ok.nd
  rs b m := (step_put hk ha).still b (ok.rs b m)
  at_ j u e := by
    have e : (W.μ.set k (some x))[j]? = some (some u) := e
    by_cases z : j = k
    · subst z
      have hlt := (List.getElem?_eq_some_iff.mp hk).1
      simp [hlt] at e
      subst e
      exact ⟨a, o, ha, upd_same, r.step ok (step_put hk ha)⟩
    · rw [List.getElem?_set_ne (Ne.symm z)] at e
      obtain ⟨b, ho, h1, h2, h3⟩ := ok.at_ j u e
      refine ⟨b, ho, h1, ?_, h3.step ok (step_put hk ha)⟩
      have hne : b ≠ a := fun q => z (nodup_at ok.nd h1 (by rw [q]; exact ha))
      show upd W.H a o b = _
      rw [upd_ne hne]; exact h2
  hd0 b z := ⟨(step_put hk ha).still b (ok.hd b z).1, (ok.hd0 b z).2⟩
def Wd.frz (W : Wd) (k : Nat) : Wd := { W with μ := W.μ.set k none }
def Wd.hide (W : Wd) (p : Addr) (o : HO) : Wd := { W with H := upd W.H p o, hid := fun a => a = p ∨ W.hid a }
end
end L3
set_option Elab.async false
set_option linter.all false
set_option maxRecDepth 100000
namespace L3
open PySem PySem.Spec L2
abbrev EV := G → M → Option (D × M)
abbrev BV := G → M → Option (Bool × M)
abbrev LV := G → M → Option (List D × M)
inductive Out where
  | nx | bk | ct | rt (d : D)
abbrev SV := G → M → Option (Out × G × M)
section
variable (K : PySem.W.Frag)
def tD (ev : EV) : TE := fun σ H Q => ∃ (W : Wd) (Γ : G) (d : D) (μ' : M), W.H = H ∧ Ok K W ∧ EnvR K W Γ σ ∧ ev Γ W.μ = some (d, μ') ∧ ∀ v W', W'.μ = μ' → Ok K W' → Step W W' → DR K W' d v → Q v W'.H
def tDB (ev : BV) : TT := fun σ H Q => ∃ (W : Wd) (Γ : G) (b : Bool) (μ' : M), W.H = H ∧ Ok K W ∧ EnvR K W Γ σ ∧ ev Γ W.μ = some (b, μ') ∧ ∀ W', W'.μ = μ' → Ok K W' → Step W W' → Q b W'.H
def tDL (ev : LV) : TA := fun σ H Q => ∃ (W : Wd) (Γ : G) (ds : List D) (μ' : M), W.H = H ∧ Ok K W ∧ EnvR K W Γ σ ∧ ev Γ W.μ = some (ds, μ') ∧ ∀ vs W', W'.μ = μ' → Ok K W' → Step W W' → DRs K W' ds vs → Q vs W'.H
def fin (D : Ends) (W' : Wd) (σ' : St) : Out → Prop
  | .nx => D.nx σ' W'.H
  | .bk => D.bk σ' W'.H
  | .ct => D.ct σ' W'.H
  | .rt d => ∀ v, DR K W' d v → D.rt v W'.H
def tDS (es : SV) : TS := fun D σ H => ∃ (W : Wd) (Γ : G) (out : Out) (Γ' : G) (μ' : M), W.H = H ∧ Ok K W ∧ EnvR K W Γ σ ∧ es Γ W.μ = some (out, Γ', μ') ∧ ∀ W' σ', W'.μ = μ' → Ok K W' → Step W W' → EnvR K W' Γ' σ' → fin K D W' σ' out
end
section
variable {X : Cx} {e : Expr}
theorem PE_imp {t t' : TE} (h : PE X e t) (hi : ∀ σ H Q, t' σ H Q → t σ H Q) : PE X e t' := fun pins s σ H Q I hw => h pins s σ H Q I (hi _ _ _ hw)
theorem PT_imp {t t' : TT} (h : PT X e t) (hi : ∀ σ H Q, t' σ H Q → t σ H Q) : PT X e t' := fun pins s σ H Q I hw => h pins s σ H Q I (hi _ _ _ hw)
theorem PW_imp {t t' : TT} (h : PW X e t) (hi : ∀ σ H Q, t' σ H Q → t σ H Q) : PW X e t' := fun wh pins s σ H Q I hw => h wh pins s σ H Q I (hi _ _ _ hw)
theorem PA_imp {es : List Expr} {t t' : TA} (h : PA X es t) (hi : ∀ σ H Q, t' σ H Q → t σ H Q) : PA X es t' := fun pos pins s σ H Q I hw => h pos pins s σ H Q I (hi _ _ _ hw)
theorem PS_imp {st : Stmt} {t t' : TS} (h : PS X st t) (hi : ∀ D σ H, t' D σ H → t D σ H) : PS X st t' := fun pins s σ H D I hw => h pins s σ H D I (hi _ _ _ hw)
theorem PSs_imp {st : List Stmt} {t t' : TS} (h : PSs X st t) (hi : ∀ D σ H, t' D σ H → t D σ H) : PSs X st t' := fun pins s σ H D I hw => h pins s σ H D I (hi _ _ _ hw)
end
theorem bnd {α β : Type} {x : Option α} {f : α → Option β} {b : β} (h : x.bind f = some b) : ∃ a, x = some a ∧ f a = some b := Option.bind_eq_some_iff.mp h
def lsOf (μ : M) : D → Option (List D)
  | .lst ds => some ds
  | .scr ds => some ds
  | .ref k => match μ[k]? with
    | some (some (.lst ds)) => some ds
    | _ => none
  | _ => none
def wlOf (μ : M) : D → Option (List D)
  | .lst ds => some ds
  | .ref k => match μ[k]? with
    | some (some (.lst ds)) => some ds
    | _ => none
  | _ => none
def tpOf : D → Option (List D)
  | .tup ds => some ds
  | .gt ds => some ds
  | _ => none
section
variable {K : PySem.W.Frag} {W : Wd} {d : D} {ds : List D} {v : V}
theorem ref_at (ok : Ok K W) {k : Nat} (h : W.μ[k]? = some (some (.lst ds))) (r : DR K W (.ref k) v) : ∃ a vs, v = .ref a ∧ W.ρ[k]? = some a ∧ W.H a = some (.lst vs) ∧ DRs K W ds vs := by
  cases r with
  | ref ha =>
    obtain ⟨a', ho, h1, h2, vs, rfl, r⟩ := ok.at_ k _ h
    rw [ha] at h1
    cases h1
    exact ⟨_, vs, rfl, ha, h2, r⟩
theorem wlOf_at (ok : Ok K W) (h : wlOf W.μ d = some ds) (r : DR K W d v) : ∃ a vs, v = .ref a ∧ W.H a = some (.lst vs) ∧ DRs K W ds vs := by
  cases d with
  | lst xs =>
    cases h
    cases r with
    | lst r n h => exact ⟨_, _, rfl, r, h⟩
  | ref k =>
    simp only [wlOf] at h
    split at h
    · rename_i xs hk
      cases h
      obtain ⟨a, vs, e, _, e2, e3⟩ := ref_at ok hk r
      exact ⟨a, vs, e, e2, e3⟩
    · cases h
  | _ => cases h
theorem lsOf_at (ok : Ok K W) (h : lsOf W.μ d = some ds) (r : DR K W d v) : ∃ a vs, v = .ref a ∧ SqL K W.H a vs ∧ DRs K W ds vs := by
  cases d with
  | lst xs =>
    cases h
    cases r with
    | lst r n h => exact ⟨_, _, rfl, SqL.of r, h⟩
  | scr xs =>
    cases h
    cases r with
    | scr r h => exact ⟨_, _, rfl, r.seq, h⟩
  | ref k =>
    simp only [lsOf] at h
    split at h
    · rename_i xs hk
      cases h
      obtain ⟨a, vs, e, _, e2, e3⟩ := ref_at ok hk r
      exact ⟨a, vs, e, SqL.of e2, e3⟩
    · cases h
  | _ => cases h
theorem tpOf_at (h : tpOf d = some ds) (r : DR K W d v) : ∃ a vs, v = .ref a ∧ SqT K W.H a vs ∧ DRs K W ds vs := by
  cases d with
  | tup xs =>
    cases h
    cases r with
    | tup r h => exact ⟨_, _, rfl, SqT.of r, h⟩
  | gt xs =>
    cases h
    cases r with
    | gt r h => exact ⟨_, _, rfl, r, h⟩
  | _ => cases h
theorem atI_drs {vs : List V} {i : Int} (r : DRs K W ds vs) (h : atI ds i = some d) : ∃ v, atI vs i = some v ∧ DR K W d v := by
  unfold atI at h ⊢
  obtain ⟨j, h1, h2⟩ := bnd h
  rw [r.length] at h1
  obtain ⟨v, e, q⟩ := r.get h2
  exact ⟨v, by rw [h1]; exact e, q⟩
end
def vVar (i : Nat) : EV := fun Γ μ => match Γ[i]? with
  | some (some d) => some (d, μ)
  | _ => none
def vC (d : D) : EV := fun _ μ => some (d, μ)
def v2 (f : D → D → M → Option (D × M)) (ea eb : EV) : EV := fun Γ μ => (ea Γ μ).bind fun p => (eb Γ p.2).bind fun q => f p.1 q.1 q.2
def v1 (f : D → M → Option (D × M)) (ea : EV) : EV := fun Γ μ => (ea Γ μ).bind fun p => f p.1 p.2
def R2A (K : PySem.W.Frag) (r : R2) (f : D → D → M → Option (D × M)) : Prop := ∀ (W : Wd) (x y : V) (d e z : D) (μ' : M) (Q : VK), Ok K W → DR K W d x → DR K W e y → f d e W.μ = some (z, μ') →
  (∀ v W', W'.μ = μ' → Ok K W' → Step W W' → DR K W' z v → Q v W'.H) → r x y W.H Q
def R1A (K : PySem.W.Frag) (r : V → Hp → VK → Prop) (f : D → M → Option (D × M)) : Prop := ∀ (W : Wd) (x : V) (d z : D) (μ' : M) (Q : VK), Ok K W → DR K W d x → f d W.μ = some (z, μ') →
  (∀ v W', W'.μ = μ' → Ok K W' → Step W W' → DR K W' z v → Q v W'.H) → r x W.H Q
def vT (ev : EV) : BV := fun Γ μ => (ev Γ μ).bind fun p => match p.1 with
  | .bl b => some (b, p.2)
  | _ => none
section
variable {X : Cx} {K : PySem.W.Frag} {a b c : Expr} {ea eb ec : EV} {pos : Pos}
theorem x_var (i : Nat) {x : Str} (hN : X.N[i]? = some x := by rfl) (hv : Vis X.env.scope x := by first | exact Or.inl rfl | exact Or.inr (Or.inl rfl) | exact Or.inr (Or.inr rfl)) (hd : (x == ("__debug__" : Str)) = false := by decide)
    (hcd : (x == ("__classdict__" : Str)) = false := by decide) : PE X (.Name x pos) (tD K (vVar i)) := PE_imp (pe_var hN hv hd hcd) fun σ H Q h => by
  obtain ⟨W, Γ, d, μ', rfl, ok, en, e, q⟩ := h
  unfold vVar at e
  split at e
  · rename_i d' hd
    cases e
    obtain ⟨v, hv, r⟩ := en.at_ i _ hd
    exact ⟨v, hv, q v W rfl ok .refl r⟩
  · cases e
theorem tC_imp {d : D} {v : V} (h : ∀ W, DR K W d v) : ∀ σ H Q, tD K (vC d) σ H Q → tC v σ H Q := fun σ H Q hh => by
  obtain ⟨W, Γ, d, μ', rfl, ok, en, e, q⟩ := hh
  cases e
  exact q v W rfl ok .refl (h W)
theorem x_int {i j} : PE X (.Constant (.int i) j pos) (tD K (vC (.int i))) := PE_imp pe_int (tC_imp fun _ => .int i)
theorem x_bl {b j} : PE X (.Constant (.bool b) j pos) (tD K (vC (.bl b))) := PE_imp pe_bl (tC_imp fun _ => .bl b)
theorem x_glob {x : Str} {d : D} {v : V} {u : Value} (hm : X.mg x = some u) (r : RelV v u) (h : ∀ W, DR K W d v) (hg : Gl X x := by rfl) (hd : (x == ("__debug__" : Str)) = false := by decide) : PE X (.Name x pos) (tD K (vC d)) := PE_imp (pe_glob hg hm r hd) (tC_imp h)
theorem t2_imp {r : R2} {f : D → D → M → Option (D × M)} (ra : R2A K r f) : ∀ σ H Q, tD K (v2 f ea eb) σ H Q → tOp r (tD K ea) (tD K eb) σ H Q := fun σ H Q h => by
  obtain ⟨W, Γ, d, μ', rfl, ok, en, e, q⟩ := h
  obtain ⟨p1, e1, e⟩ := bnd e
  obtain ⟨p2, e2, e⟩ := bnd e
  refine ⟨W, Γ, p1.1, p1.2, rfl, ok, en, e1, fun x W1 hμ ok1 s1 r1 => ⟨W1, Γ, p2.1, p2.2, rfl, ok1, en.step ok s1, by rw [hμ]; exact e2, fun y W2 hμ2 ok2 s2 r2 => ?_⟩⟩
  exact ra W2 x y _ _ _ _ Q ok2 (r1.step ok1 s2) r2 (by rw [hμ2]; exact e) fun v W3 hμ3 ok3 s3 r3 => q v W3 hμ3 ok3 ((s1.trans s2).trans s3) r3
theorem t1_imp {r : V → Hp → VK → Prop} {f : D → M → Option (D × M)} (ra : R1A K r f) : ∀ σ H Q, tD K (v1 f ea) σ H Q → (fun σ H Q => tD K ea σ H fun x H1 => r x H1 Q : TE) σ H Q := fun σ H Q h => by
  obtain ⟨W, Γ, d, μ', rfl, ok, en, e, q⟩ := h
  obtain ⟨p1, e1, e⟩ := bnd e
  refine ⟨W, Γ, p1.1, p1.2, rfl, ok, en, e1, fun x W1 hμ ok1 s1 r1 => ?_⟩
  exact ra W1 x _ _ _ Q ok1 r1 (by rw [hμ]; exact e) fun v W3 hμ3 ok3 s3 r3 => q v W3 hμ3 ok3 (s1.trans s3) r3
theorem x_op {op : Operator} {r : R2} {f : D → D → M → Option (D × M)} (ho : OpR X (binaryOp op) r) (ra : R2A K r f) (ha : PE X a (tD K ea)) (hb : PE X b (tD K eb)) : PE X (.BinOp a op b pos) (tD K (v2 f ea eb)) := PE_imp (pe_op ho ha hb) (t2_imp ra)
theorem x_cmp {op : CmpOp} {r : R2} {f : D → D → M → Option (D × M)} (ho : OpR X (compareOp op) r) (ra : R2A K r f) (ha : PE X a (tD K ea)) (hb : PE X b (tD K eb)) (hm : behindInMarks op b = false) : PE X (.Compare a [op] [b] pos) (tD K (v2 f ea eb)) := PE_imp (pe_cmpR ho ha hb hm) (t2_imp ra)
theorem vT_imp {t : TE} (h : ∀ σ H Q, tD K ea σ H Q → t σ H Q) : ∀ σ H Q, tDB K (vT ea) σ H Q → tTest t σ H Q := fun σ H Q hh => by
  obtain ⟨W, Γ, k, μ', rfl, ok, en, e, q⟩ := hh
  obtain ⟨p1, e1, e⟩ := bnd e
  refine h σ _ _ ⟨W, Γ, p1.1, p1.2, rfl, ok, en, e1, fun x W1 hμ ok1 s1 r1 => ?_⟩
  split at e
  · rename_i k' hk
    cases e
    rw [hk] at r1
    cases r1
    exact ⟨_, rfl, q W1 hμ ok1 s1⟩
  · cases e
theorem x_cmpT {op : CmpOp} {r : R2} {f : D → D → M → Option (D × M)} (ho : OpR X (compareOp op) r) (ra : R2A K r f) (ha : PE X a (tD K ea)) (hb : PE X b (tD K eb)) (hm : behindInMarks op b = false) : PT X (.Compare a [op] [b] pos) (tDB K (vT (v2 f ea eb))) := PT_imp (pt_cmpR ho ha hb hm) (vT_imp (t2_imp ra))
end
def fI0 (g : Int → Int → D) : D → D → M → Option (D × M)
  | .int i, .int j, μ => some (g i j, μ)
  | _, _, _ => none
def fI (C : Int → Int → Prop) [∀ i j, Decidable (C i j)] (g : Int → Int → D) : D → D → M → Option (D × M)
  | .int i, .int j, μ => if C i j then some (g i j, μ) else none
  | _, _, _ => none
section
variable {K : PySem.W.Frag}
theorem ra_I0 {g : Int → Int → V} {h : Int → Int → D} (hh : ∀ W i j, DR K W (h i j) (g i j)) : R2A K (rI0 g) (fI0 h) := by
  intro W x y d e z μ' Q ok r1 r2 hf q
  unfold fI0 at hf
  split at hf
  · cases hf; cases r1; cases r2; exact ⟨_, _, rfl, rfl, q _ W rfl ok .refl (hh W _ _)⟩
  · cases hf
theorem ra_I {C : Int → Int → Prop} [∀ i j, Decidable (C i j)] {g : Int → Int → V} {h : Int → Int → D} (hh : ∀ W i j, DR K W (h i j) (g i j)) : R2A K (rI C g) (fI C h) := by
  intro W x y d e z μ' Q ok r1 r2 hf q
  unfold fI at hf
  split at hf
  · split at hf
    · rename_i hc; cases hf; cases r1; cases r2; exact ⟨_, _, rfl, rfl, hc, q _ W rfl ok .refl (hh W _ _)⟩
    · cases hf
  · cases hf
end
instance {i j : Int} : Decidable (CMul i j) := by unfold CMul; infer_instance
instance {i j : Int} : Decidable (CPow i j) := by unfold CPow; infer_instance
def CDivW (_ j : Int) : Prop := 0 < j ∧ j < 2 ^ 200
def CPos (_ j : Int) : Prop := 0 < j
instance {i j : Int} : Decidable (CDivW i j) := by unfold CDivW; infer_instance
instance {i j : Int} : Decidable (CPos i j) := by unfold CPos; infer_instance
section
variable {X : Cx} {K : PySem.W.Frag} {a b c : Expr} {ea eb ec : EV} {pos : Pos}
abbrev fSub := fI0 fun i j => .int (i - j)
abbrev fDiv := fI CDivW fun i j => .int (i / j)
abbrev fMod := fI CPos fun i j => .int (i % j)
abbrev fPow := fI CPow fun i j => .int (i ^ j.toNat)
abbrev fLt := fI0 fun i j => .bl (decide (i < j))
abbrev fLe := fI0 fun i j => .bl (decide (i ≤ j))
abbrev fGt := fI0 fun i j => .bl (decide (j < i))
theorem x_sub (ha : PE X a (tD K ea)) (hb : PE X b (tD K eb)) : PE X (.BinOp a .Sub b pos) (tD K (v2 fSub ea eb)) := x_op op_sub (ra_I0 fun _ _ _ => .int _) ha hb
theorem x_fdiv (ha : PE X a (tD K ea)) (hb : PE X b (tD K eb)) : PE X (.BinOp a .FloorDiv b pos) (tD K (v2 fDiv ea eb)) := x_op op_fdivW (ra_I (C := CDivW) fun _ _ _ => .int _) ha hb
theorem x_mod (ha : PE X a (tD K ea)) (hb : PE X b (tD K eb)) : PE X (.BinOp a .Mod b pos) (tD K (v2 fMod ea eb)) := x_op op_mod (ra_I (C := CPos) fun _ _ _ => .int _) ha hb
theorem x_pow (ha : PE X a (tD K ea)) (hb : PE X b (tD K eb)) : PE X (.BinOp a .Pow b pos) (tD K (v2 fPow ea eb)) := x_op op_pow (ra_I fun _ _ _ => .int _) ha hb
theorem x_ltT (ha : PE X a (tD K ea)) (hb : PE X b (tD K eb)) : PT X (.Compare a [.Lt] [b] pos) (tDB K (vT (v2 fLt ea eb))) := x_cmpT op_lt (ra_I0 fun _ _ _ => .bl _) ha hb (nomark _)
theorem x_gtT (ha : PE X a (tD K ea)) (hb : PE X b (tD K eb)) : PT X (.Compare a [.Gt] [b] pos) (tDB K (vT (v2 fGt ea eb))) := x_cmpT op_gt (ra_I0 fun _ _ _ => .bl _) ha hb (nomark _)
def fNeg : D → M → Option (D × M)
  | .int i, μ => some (.int (-i), μ)
  | _, _ => none
theorem x_neg (ha : PE X a (tD K ea)) : PE X (.UnaryOp .USub a pos) (tD K (v1 fNeg ea)) := PE_imp (pe_un un_neg ha) (t1_imp (by
  intro W x d z μ' Q ok r1 hf q
  unfold fNeg at hf
  split at hf
  · cases hf; cases r1; exact ⟨_, rfl, q _ W rfl ok .refl (.int _)⟩
  · cases hf))
def bAnd (t u : BV) : BV := fun Γ μ => (t Γ μ).bind fun p => if p.1 = true then u Γ p.2 else some (false, p.2)
def bOr (t u : BV) : BV := fun Γ μ => (t Γ μ).bind fun p => if p.1 = true then some (true, p.2) else u Γ p.2
def bNot (t : BV) : BV := fun Γ μ => (t Γ μ).bind fun p => some (!p.1, p.2)
variable {ba bb : BV} {rest : List Expr}
theorem bOr_imp : ∀ σ H Q, tDB K (bOr ba bb) σ H Q → tOr (tDB K ba) (tDB K bb) σ H Q := fun σ H Q h => by
  obtain ⟨W, Γ, k, μ', rfl, ok, en, e, q⟩ := h
  obtain ⟨p1, e1, e⟩ := bnd e
  refine ⟨W, Γ, p1.1, p1.2, rfl, ok, en, e1, fun W1 hμ ok1 s1 => ?_⟩
  split at e
  · rename_i hp; cases e; rw [if_pos hp]; exact q W1 hμ ok1 s1
  · rename_i hp; rw [if_neg hp]; exact ⟨W1, Γ, k, μ', rfl, ok1, en.step ok s1, by rw [hμ]; exact e, fun W2 hμ2 ok2 s2 => q W2 hμ2 ok2 (s1.trans s2)⟩
theorem xw_or1 (ha : PT X a (tDB K ba)) : PW X (.BoolOp .Or [a] pos) (tDB K ba) := pw_or1 ha
theorem xw_or (ha : PT X a (tDB K ba)) (hb : PW X (.BoolOp .Or (b :: rest) pos) (tDB K bb)) : PW X (.BoolOp .Or (a :: b :: rest) pos) (tDB K (bOr ba bb)) := PW_imp (pw_or ha hb) bOr_imp
theorem x_notT (ha : PT X a (tDB K ba)) : PT X (.UnaryOp .Not a pos) (tDB K (bNot ba)) := PT_imp (pt_not ha) fun σ H Q h => by
  obtain ⟨W, Γ, k, μ', rfl, ok, en, e, q⟩ := h
  obtain ⟨p1, e1, e⟩ := bnd e
  cases e
  exact ⟨W, Γ, p1.1, p1.2, rfl, ok, en, e1, fun W1 hμ ok1 s1 => q W1 hμ ok1 s1⟩
def vIf (t : BV) (ea eb : EV) : EV := fun Γ μ => (t Γ μ).bind fun p => if p.1 = true then ea Γ p.2 else eb Γ p.2
def vAnd (ea eb : EV) : EV := fun Γ μ => (ea Γ μ).bind fun p => match p.1 with
  | .bl true => eb Γ p.2
  | .bl false => some (.bl false, p.2)
  | _ => none
def vOr (ea eb : EV) : EV := fun Γ μ => (ea Γ μ).bind fun p => match p.1 with
  | .bl true => some (.bl true, p.2)
  | .bl false => eb Γ p.2
  | _ => none
def fNot : D → M → Option (D × M)
  | .bl b, μ => some (.bl (!b), μ)
  | _, _ => none
end
end L3
set_option Elab.async false
set_option linter.all false
set_option maxRecDepth 100000
namespace L3
open PySem PySem.Spec L2
def optAll {α β : Type} (f : α → Option β) : List α → Option (List β)
  | [] => some []
  | x :: r => (f x).bind fun y => (optAll f r).bind fun ys => some (y :: ys)
section
variable {X : Cx} {K : PySem.W.Frag} {a b c e : Expr} {ea eb ec : EV} {pos p : Pos} {es : List Expr} {el : LV}
def lNil : LV := fun _ μ => some ([], μ)
def lCons (ea : EV) (el : LV) : LV := fun Γ μ => (ea Γ μ).bind fun p => (el Γ p.2).bind fun q => some (p.1 :: q.1, q.2)
theorem xa_nil : PA X [] (tDL K lNil) := PA_imp pa_nil fun σ H Q h => by
  obtain ⟨W, Γ, ds, μ', rfl, ok, en, e, q⟩ := h
  cases e
  exact q [] W rfl ok .refl .nil
theorem lCons_imp : ∀ σ H Q, tDL K (lCons ea el) σ H Q → tCons (tD K ea) (tDL K el) σ H Q := fun σ H Q h => by
  obtain ⟨W, Γ, ds, μ', rfl, ok, en, e, q⟩ := h
  obtain ⟨p1, e1, e⟩ := bnd e
  obtain ⟨p2, e2, e⟩ := bnd e
  cases e
  exact ⟨W, Γ, p1.1, p1.2, rfl, ok, en, e1, fun x W1 hμ ok1 s1 r1 => ⟨W1, Γ, p2.1, p2.2, rfl, ok1, en.step ok s1, by rw [hμ]; exact e2, fun vs W2 hμ2 ok2 s2 r2 => q _ W2 hμ2 ok2 (s1.trans s2) (.cons (r1.step ok1 s2) r2)⟩⟩
theorem xa_cons (ha : PE X e (tD K ea)) (hr : PA X es (tDL K el)) (hs : starEach (e :: es) X.env = (false, eval e X.env) :: starEach es X.env := by rfl) : PA X (e :: es) (tDL K (lCons ea el)) := PA_imp (pa_cons ha hr hs) lCons_imp
def RLA (K : PySem.W.Frag) (r : List V → Hp → VK → Prop) (f : List D → M → Option (D × M)) : Prop := ∀ (W : Wd) (xs : List V) (ds : List D) (z : D) (μ' : M) (Q : VK), Ok K W → DRs K W ds xs → f ds W.μ = some (z, μ') →
  (∀ v W', W'.μ = μ' → Ok K W' → Step W W' → DR K W' z v → Q v W'.H) → r xs W.H Q
def vL (f : List D → M → Option (D × M)) (el : LV) : EV := fun Γ μ => (el Γ μ).bind fun p => f p.1 p.2
theorem tL_imp {r : List V → Hp → VK → Prop} {f : List D → M → Option (D × M)} (ra : RLA K r f) : ∀ σ H Q, tD K (vL f el) σ H Q → (fun σ H Q => tDL K el σ H fun vs H1 => r vs H1 Q : TE) σ H Q := fun σ H Q h => by
  obtain ⟨W, Γ, d, μ', rfl, ok, en, e, q⟩ := h
  obtain ⟨p1, e1, e⟩ := bnd e
  exact ⟨W, Γ, p1.1, p1.2, rfl, ok, en, e1, fun vs W1 hμ ok1 s1 r1 => ra W1 vs _ _ _ Q ok1 r1 (by rw [hμ]; exact e) fun v W3 hμ3 ok3 s3 r3 => q v W3 hμ3 ok3 (s1.trans s3) r3⟩
def fLst (ds : List D) (μ : M) : Option (D × M) := if ds.length ≤ 1000 then some (.lst ds, μ) else none
def fTup (ds : List D) (μ : M) : Option (D × M) := if ds.length ≤ 1000 then some (.tup ds, μ) else none
def fNew (ds : List D) (μ : M) : Option (D × M) := if ds.length ≤ 1000 then some (.ref μ.length, μ ++ [some (.lst ds)]) else none
theorem ra_lst : RLA K (fun xs H1 Q => xs.length ≤ sizeLine ∧ ∀ p, H1 p = none → Q (.ref p) (upd H1 p (.lst xs))) fLst := by
  intro W xs ds z μ' Q ok r hf q
  unfold fLst at hf
  split at hf
  · rename_i hl
    cases hf
    exact ⟨le_line (by rw [← r.length]; omega), fun p hp => q _ (W.lay p (.lst xs)) rfl (ok_lay ok hp) (step_lay hp) (dr_lst ok hp r)⟩
  · cases hf
theorem ra_tup : RLA K (fun xs H1 Q => xs.length ≤ sizeLine ∧ ∀ p, H1 p = none → Q (.ref p) (upd H1 p (.tup xs))) fTup := by
  intro W xs ds z μ' Q ok r hf q
  unfold fTup at hf
  split at hf
  · rename_i hl
    cases hf
    exact ⟨le_line (by rw [← r.length]; omega), fun p hp => q _ (W.lay p (.tup xs)) rfl (ok_lay ok hp) (step_lay hp) (dr_tup ok hp r)⟩
  · cases hf
theorem ra_new : RLA K (fun xs H1 Q => xs.length ≤ sizeLine ∧ ∀ p, H1 p = none → Q (.ref p) (upd H1 p (.lst xs))) fNew := by
  intro W xs ds z μ' Q ok r hf q
  unfold fNew at hf
  split at hf
  · rename_i hl
    cases hf
    exact ⟨le_line (by rw [← r.length]; omega), fun p hp => q _ (W.new p (.lst xs) (.lst ds)) rfl (ok_new ok hp ⟨xs, rfl, r⟩) (step_new ok hp) (dr_new ok)⟩
  · cases hf
theorem x_lst (h : PA X es (tDL K el)) : PE X (.List es pos) (tD K (vL fLst el)) := PE_imp (pe_lst h) (tL_imp ra_lst)
theorem x_new (h : PA X es (tDL K el)) : PE X (.List es pos) (tD K (vL fNew el)) := PE_imp (pe_lst h) (tL_imp ra_new)
theorem x_tup {k} (h : PA X es (tDL K el)) : PE X (.Tuple es k pos) (tD K (vL fTup el)) := PE_imp (pe_tup h) (tL_imp ra_tup)
def fIx (x y : D) (μ : M) : Option (D × M) := match y with
  | .int i => match lsOf μ x with
    | some ds => (atI ds i).bind fun d => some (d, μ)
    | none => match tpOf x with
      | some ds => (atI ds i).bind fun d => some (d, μ)
      | none => none
  | _ => none
theorem ra_ix : R2A K (rIx K) fIx := by
  intro W x y d e z μ' Q ok r1 r2 hf q
  unfold fIx at hf
  split at hf
  · cases r2
    split at hf
    · rename_i ds hd
      obtain ⟨u, hu, hf⟩ := bnd hf
      cases hf
      obtain ⟨a, vs, rfl, hs, hv⟩ := lsOf_at ok hd r1
      obtain ⟨v, hv1, hv2⟩ := atI_drs hv hu
      exact .inl ⟨a, vs, _, v, rfl, rfl, hs, hv1, q v W rfl ok .refl hv2⟩
    · split at hf
      · rename_i ds hd
        obtain ⟨u, hu, hf⟩ := bnd hf
        cases hf
        obtain ⟨a, vs, rfl, hs, hv⟩ := tpOf_at hd r1
        obtain ⟨v, hv1, hv2⟩ := atI_drs hv hu
        exact .inr (.inl ⟨a, vs, _, v, rfl, rfl, hs, hv1, q v W rfl ok .refl hv2⟩)
      · cases hf
  · cases hf
theorem x_ix (ha : PE X a (tD K ea)) (hb : PE X b (tD K eb)) (hs : PlainIx b := by exact fun _ _ => rfl) (hK : X.K = K := by rfl) : PE X (.Subscript a b pos) (tD K (v2 fIx ea eb)) := by
  subst hK; exact PE_imp (pe_ix ix_seq ha hb hs) (t2_imp ra_ix)
abbrev OV := G → M → Option (Option Int × M)
def oNone : OV := fun _ μ => some (none, μ)
def oSome (ea : EV) : OV := fun Γ μ => (ea Γ μ).bind fun p => match p.1 with
  | .int i => some (some i, p.2)
  | _ => none
def tDO (K : PySem.W.Frag) (ev : OV) : TO := fun σ H Q => ∃ (W : Wd) (Γ : G) (b : Option Int) (μ' : M), W.H = H ∧ Ok K W ∧ EnvR K W Γ σ ∧ ev Γ W.μ = some (b, μ') ∧ ∀ W', W'.μ = μ' → Ok K W' → Step W W' → Q b W'.H
theorem PO_imp {o : Option Expr} {t t' : TO} (h : PO X o t) (hi : ∀ σ H Q, t' σ H Q → t σ H Q) : PO X o t' := fun pins s σ H Q I hw => h pins s σ H Q I (hi _ _ _ hw)
theorem xo_none : PO X none (tDO K oNone) := PO_imp po_none fun σ H Q h => by
  obtain ⟨W, Γ, b, μ', rfl, ok, en, e, q⟩ := h
  cases e
  exact q W rfl ok .refl
theorem xo_some (h : PE X e (tD K ea)) : PO X (some e) (tDO K (oSome ea)) := PO_imp (po_some h) fun σ H Q h => by
  obtain ⟨W, Γ, b, μ', rfl, ok, en, e, q⟩ := h
  obtain ⟨p1, e1, e⟩ := bnd e
  refine ⟨W, Γ, p1.1, p1.2, rfl, ok, en, e1, fun x W1 hμ ok1 s1 r1 => ?_⟩
  split at e
  · rename_i i hi
    cases e
    rw [hi] at r1
    cases r1
    exact ⟨_, rfl, q W1 hμ ok1 s1⟩
  · cases e
def cutD (xs : List D) (lo hi : Option Int) : List D := (xs.drop (HT.sIx xs.length 0 lo)).take (HT.sIx xs.length xs.length hi - HT.sIx xs.length 0 lo)
theorem cutD_drs {W : Wd} {ds : List D} {vs : List V} (r : DRs K W ds vs) (lo hi : Option Int) : DRs K W (cutD ds lo hi) (cutV vs lo hi) := by
  unfold cutD cutV; rw [r.length]; exact (r.drop _).take _
def fSl (x : D) (lo hi : Option Int) (μ : M) : Option (D × M) := match lsOf μ x with
  | some ds => some (.lst (cutD ds lo hi), μ)
  | none => match tpOf x with
    | some ds => if HT.sIx ds.length 0 lo = 0 ∧ HT.sIx ds.length ds.length hi = ds.length then none else some (.tup (cutD ds lo hi), μ)
    | none => none
def vSl (ea : EV) (lo hi : OV) : EV := fun Γ μ => (ea Γ μ).bind fun p => (lo Γ p.2).bind fun l => (hi Γ l.2).bind fun h => fSl p.1 l.1 h.1 h.2
theorem x_sl {lo hi : Option Expr} {ol oh : OV} {p2 : Pos} (he : PE X e (tD K ea)) (hl : PO X lo (tDO K ol)) (hu : PO X hi (tDO K oh)) (hK : X.K = K := by rfl) : PE X (.Subscript e (.Slice lo hi none p2) pos) (tD K (vSl ea ol oh)) := by
  subst hK
  refine PE_imp (pe_slice (sl_list.or sl_tup) he hl hu) fun σ H Q h => ?_
  obtain ⟨W, Γ, d, μ', rfl, ok, en, e, q⟩ := h
  obtain ⟨p1, e1, e⟩ := bnd e
  obtain ⟨p2, e2, e⟩ := bnd e
  obtain ⟨p3, e3, e⟩ := bnd e
  refine ⟨W, Γ, p1.1, p1.2, rfl, ok, en, e1, fun x W1 hμ ok1 s1 r1 => ⟨W1, Γ, p2.1, p2.2, rfl, ok1, en.step ok s1, by rw [hμ]; exact e2, fun W2 hμ2 ok2 s2 => ⟨W2, Γ, p3.1, p3.2, rfl, ok2, (en.step ok s1).step ok1 s2, by rw [hμ2]; exact e3, fun W3 hμ3 ok3 s3 => ?_⟩⟩⟩
  have r3 := (r1.step ok1 s2).step ok2 s3
  have st := (s1.trans s2).trans s3
  unfold fSl at e
  rw [← hμ3] at e
  split at e
  · rename_i ds hd
    cases e
    obtain ⟨a, vs, rfl, hs, hv⟩ := lsOf_at ok3 hd r3
    exact .inl ⟨a, vs, rfl, hs, fun p hp => q _ (W3.lay p (.lst (cutV vs p2.1 p3.1))) rfl (ok_lay ok3 hp) (st.trans (step_lay hp)) (dr_lst ok3 hp (cutD_drs hv _ _))⟩
  · split at e
    · rename_i ds hd
      split at e
      · cases e
      · rename_i hn
        cases e
        obtain ⟨a, vs, rfl, hs, hv⟩ := tpOf_at hd r3
        rw [hv.length] at hn
        exact .inr ⟨a, vs, rfl, hs, hn, fun p hp => q _ (W3.lay p (.tup (cutV vs p2.1 p3.1))) rfl (ok_lay ok3 hp) (st.trans (step_lay hp)) (dr_tup ok3 hp (cutD_drs hv _ _))⟩
    · cases e
def fRev (x : D) (μ : M) : Option (D × M) := match lsOf μ x with
  | some ds => some (.lst ds.reverse, μ)
  | none => none
def fCat (x y : D) (μ : M) : Option (D × M) := (wlOf μ x).bind fun xs => (wlOf μ y).bind fun ys => if xs.length + ys.length ≤ 1000000 then some (.lst (xs ++ ys), μ) else none
def fRep (x y : D) (μ : M) : Option (D × M) := (wlOf μ x).bind fun xs => match y with
  | .int k => if -1000000 ≤ k ∧ k ≤ 1000000 ∧ xs.length * k.toNat ≤ 1000000 then some (.lst (List.replicate k.toNat xs).flatten, μ) else none
  | _ => none
def fLen (x : D) (μ : M) : Option (D × M) := match lsOf μ x with
  | some ds => some (.int ds.length, μ)
  | none => match tpOf x with
    | some ds => some (.int ds.length, μ)
    | none => none
theorem x_len (ml : X.mg "len" = none) (ha : PE X a (tD K ea)) (hg : Gl X "len" := by rfl) (hs : starEach [a] X.env = [(false, eval a X.env)] := by rfl) (hK : X.K = K := by rfl) : PE X (.Call (.Name "len" p) [a] [] pos) (tD K (v1 fLen ea)) := PE_imp (eLen K ml ha hg hs hK) (t1_imp (by
  intro W x d z μ' Q ok r1 hf q
  unfold fLen at hf
  split at hf
  · rename_i ds hd
    cases hf
    obtain ⟨a, vs, rfl, hs, hv⟩ := lsOf_at ok hd r1
    exact ⟨a, vs, rfl, .inl hs, by rw [← hv.length]; exact q _ W rfl ok .refl (.int _)⟩
  · split at hf
    · rename_i ds hd
      cases hf
      obtain ⟨a, vs, rfl, hs, hv⟩ := tpOf_at hd r1
      exact ⟨a, vs, rfl, .inr hs, by rw [← hv.length]; exact q _ W rfl ok .refl (.int _)⟩
    · cases hf))
def sqOf (μ : M) (x : D) : Option (List D) := match lsOf μ x with
  | some ds => some ds
  | none => tpOf x
theorem sqOf_at {W : Wd} {d : D} {ds : List D} {v : V} (ok : Ok K W) (h : sqOf W.μ d = some ds) (r : DR K W d v) : ∃ a vs, v = .ref a ∧ (SqL K W.H a vs ∨ SqT K W.H a vs) ∧ DRs K W ds vs := by
  unfold sqOf at h
  split at h
  · rename_i ds' hd
    cases h
    obtain ⟨a, vs, e, hs, hv⟩ := lsOf_at ok hd r
    exact ⟨a, vs, e, .inl hs, hv⟩
  · obtain ⟨a, vs, e, hs, hv⟩ := tpOf_at h r
    exact ⟨a, vs, e, .inr hs, hv⟩
def fList (x : D) (μ : M) : Option (D × M) := (sqOf μ x).bind fun ds => some (.lst ds, μ)
abbrev fMin := fI0 fun i j => .int (if j < i then j else i)
abbrev fMax := fI0 fun i j => .int (if j > i then j else i)
theorem t2_imp' {t : TE} {r : R2} {f : D → D → M → Option (D × M)} (ra : R2A K r f) (ht : ∀ σ H Q, tOp r (tD K ea) (tD K eb) σ H Q → t σ H Q) : ∀ σ H Q, tD K (v2 f ea eb) σ H Q → t σ H Q := fun σ H Q h => ht σ H Q (t2_imp ra σ H Q h)
theorem mm_eq {x y : V} {g : Int → Int → V} {Q : VK} {H : Hp} : (∃ i j, [x, y] = [V.int i, V.int j] ∧ Q (g i j) H) = (∃ i j, x = V.int i ∧ y = V.int j ∧ Q (g i j) H) := propext ⟨fun ⟨i, j, e, q⟩ => by cases e; exact ⟨i, j, rfl, rfl, q⟩, fun ⟨i, j, e1, e2, q⟩ => by cases e1; cases e2; exact ⟨i, j, rfl, q⟩⟩
theorem x_min (ml : X.mg "min" = none) (ha : PE X a (tD K ea)) (hb : PE X b (tD K eb)) (hc : X.calm = true := by rfl) (hg : Gl X "min" := by rfl) (hs : starEach [a, b] X.env = [(false, eval a X.env), (false, eval b X.env)] := by rfl) (hs2 : starEach [b] X.env = [(false, eval b X.env)] := by rfl) :
    PE X (.Call (.Name "min" p) [a, b] [] pos) (tD K (v2 fMin ea eb)) := PE_imp (eMin ml ha hb hc hg hs hs2) (t2_imp' (ra_I0 fun _ _ _ => .int _) fun σ H Q h => by simp only [mm_eq (g := fun i j => V.int (if j < i then j else i))]; exact h)
theorem x_max (ml : X.mg "max" = none) (ha : PE X a (tD K ea)) (hb : PE X b (tD K eb)) (hc : X.calm = true := by rfl) (hg : Gl X "max" := by rfl) (hs : starEach [a, b] X.env = [(false, eval a X.env), (false, eval b X.env)] := by rfl) (hs2 : starEach [b] X.env = [(false, eval b X.env)] := by rfl) :
    PE X (.Call (.Name "max" p) [a, b] [] pos) (tD K (v2 fMax ea eb)) := PE_imp (eMax ml ha hb hc hg hs hs2) (t2_imp' (ra_I0 fun _ _ _ => .int _) fun σ H Q h => by simp only [mm_eq (g := fun i j => V.int (if j > i then j else i))]; exact h)
def fIntB : D → M → Option (D × M)
  | .bl k, μ => some (.int (if k then 1 else 0), μ)
  | _, _ => none
end
end L3
set_option Elab.async false
set_option linter.all false
set_option maxRecDepth 100000
namespace L3
open PySem PySem.Spec L2
def py : Nat → M → D → Option PyData
  | 0, _, _ => none
  | n + 1, μ, d => match d with
    | .non => some .none
    | .bl b => some (.bool b)
    | .int i => some (.int i)
    | .str x => some (.str x)
    | .lst xs => (optAll (py n μ) xs).bind fun ys => some (.list ys)
    | .scr xs => (optAll (py n μ) xs).bind fun ys => some (.list ys)
    | .tup xs => (optAll (py n μ) xs).bind fun ys => some (.tuple ys)
    | .gt xs => (optAll (py n μ) xs).bind fun ys => some (.tuple ys)
    | .ref k => match μ[k]? with
      | some (some (.lst xs)) => (optAll (py n μ) xs).bind fun ys => some (.list ys)
      | _ => none
theorem dps_all {K : PySem.W.Frag} {W : Wd} {f : D → Option PyData} (h : ∀ d v pd, DR K W d v → f d = some pd → Dp K W.H v pd) : ∀ {xs : List D} {vs : List V} {ys : List PyData}, DRs K W xs vs → optAll f xs = some ys → Dps K W.H vs ys
  | _, _, _, .nil, e => by cases e; exact .nil
  | _, _, _, .cons r t, e => by
    obtain ⟨y, e1, e⟩ := bnd e
    obtain ⟨ys, e2, e⟩ := bnd e
    cases e
    exact .cons (h _ _ _ r e1) (dps_all h t e2)
theorem py_dp {K : PySem.W.Frag} {W : Wd} (ok : Ok K W) : ∀ (n : Nat) (d : D) (v : V) (pd : PyData), DR K W d v → py n W.μ d = some pd → Dp K W.H v pd
  | 0, _, _, _, _, e => by cases e
  | n + 1, d, v, pd, r, e => by
    cases d with
    | non => cases e; cases r; exact .non
    | bl b => cases e; cases r; exact .bl b
    | int i => cases e; cases r; exact .int i
    | str x => cases e; cases r; exact .str x
    | lst xs =>
      obtain ⟨ys, e1, e⟩ := bnd e
      cases e
      cases r with
      | lst h _ hs => exact .lst (SqL.of h) (dps_all (py_dp ok n) hs e1)
    | scr xs =>
      obtain ⟨ys, e1, e⟩ := bnd e
      cases e
      cases r with
      | scr h hs => exact .lst h.seq (dps_all (py_dp ok n) hs e1)
    | tup xs =>
      obtain ⟨ys, e1, e⟩ := bnd e
      cases e
      cases r with
      | tup h hs => exact .tup (SqT.of h) (dps_all (py_dp ok n) hs e1)
    | gt xs =>
      obtain ⟨ys, e1, e⟩ := bnd e
      cases e
      cases r with
      | gt h hs => exact .tup h (dps_all (py_dp ok n) hs e1)
    | ref k =>
      simp only [py] at e
      split at e
      · rename_i xs hk
        obtain ⟨ys, e1, e⟩ := bnd e
        cases e
        obtain ⟨a, vs, rfl, _, h, hs⟩ := ref_at ok hk r
        exact .lst (SqL.of h) (dps_all (py_dp ok n) hs e1)
      · cases e
def eqD (x y : D) (μ : M) : Option Bool := match x, y with
  | .int i, .int j => some (decide (i = j))
  | .str a, .str b => if PyData.strOk a && PyData.strOk b then some (decide (a = b)) else none
  | x, y => (py 65 μ x).bind fun d => (py 65 μ y).bind fun e => if (d.canLay0 && e.canLay0 && decide (d.depth ≤ 64)) = true then some (PyData.eqv d e) else none
theorem eqD_at {K : PySem.W.Frag} {W : Wd} {x y : D} {v u : V} {b : Bool} (ok : Ok K W) (rx : DR K W x v) (ry : DR K W y u) (h : eqD x y W.μ = some b) : ∃ d e, Dp K W.H v d ∧ Dp K W.H u e ∧ (d.canLay0 && e.canLay0 && decide (d.depth ≤ 64)) = true ∧ PyData.eqv d e = b := by
  unfold eqD at h
  split at h
  · cases h
    cases rx; cases ry
    exact ⟨_, _, .int _, .int _, by simp [PyData.canLay0, PyData.depth], by simp [PyData.eqv]; rw [Bool.eq_iff_iff]; simp⟩
  · split at h
    · rename_i hs
      cases h
      cases rx; cases ry
      refine ⟨_, _, .str _, .str _, by simpa [PyData.canLay0, PyData.depth] using hs, by simp [PyData.eqv]; rw [Bool.eq_iff_iff]; simp⟩
    · cases h
  · obtain ⟨d, e1, h⟩ := bnd h
    obtain ⟨e, e2, h⟩ := bnd h
    split at h
    · rename_i hc
      cases h
      exact ⟨d, e, py_dp ok _ _ _ _ rx e1, py_dp ok _ _ _ _ ry e2, hc, rfl⟩
    · cases h
def fEq (x y : D) (μ : M) : Option (D × M) := (eqD x y μ).bind fun b => some (.bl b, μ)
def fNe (x y : D) (μ : M) : Option (D × M) := (eqD x y μ).bind fun b => some (.bl (!b), μ)
section
variable {X : Cx} {K : PySem.W.Frag} {a b c e : Expr} {ea eb ec : EV} {ba bb : BV} {pos p : Pos} {es : List Expr} {el : LV} {k : Nat}
theorem ra_eq : R2A K (fun x y H Q => ∃ d e, Dp K H x d ∧ Dp K H y e ∧ (d.canLay0 && e.canLay0 && decide (d.depth ≤ 64)) = true ∧ Q (.bl (PyData.eqv d e)) H) fEq := by
  intro W x y d e z μ' Q ok r1 r2 hf q
  obtain ⟨b, hb, hf⟩ := bnd hf
  cases hf
  obtain ⟨d', e', h1, h2, h3, h4⟩ := eqD_at ok r1 r2 hb
  exact ⟨d', e', h1, h2, h3, by rw [h4]; exact q _ W rfl ok .refl (.bl _)⟩
theorem ra_ne : R2A K (fun x y H Q => ∃ d e, Dp K H x d ∧ Dp K H y e ∧ (d.canLay0 && e.canLay0 && decide (d.depth ≤ 64)) = true ∧ Q (.bl (!PyData.eqv d e)) H) fNe := by
  intro W x y d e z μ' Q ok r1 r2 hf q
  obtain ⟨b, hb, hf⟩ := bnd hf
  cases hf
  obtain ⟨d', e', h1, h2, h3, h4⟩ := eqD_at ok r1 r2 hb
  exact ⟨d', e', h1, h2, h3, by rw [h4]; exact q _ W rfl ok .refl (.bl _)⟩
theorem x_eq (hr : Room k X.A) (ha : PE X a (tD K ea)) (hb : PE X b (tD K eb)) (hK : X.K = K := by rfl) : PE X (.Compare a [.Eq] [b] pos) (tD K (v2 fEq ea eb)) := by
  subst hK; exact x_cmp (op_eqD hr.units) ra_eq ha hb (nomark _)
theorem x_neT (hr : Room k X.A) (ha : PE X a (tD K ea)) (hb : PE X b (tD K eb)) (hK : X.K = K := by rfl) : PT X (.Compare a [.NotEq] [b] pos) (tDB K (vT (v2 fNe ea eb))) := by
  subst hK; exact x_cmpT (op_neD hr.units) ra_ne ha hb (nomark _)
def flV : D → Option V
  | .non => some .non
  | .bl b => some (.bl b)
  | .int i => some (.int i)
  | .str x => some (.str x)
  | _ => none
theorem flV_at {W : Wd} {d : D} {v u : V} (h : flV d = some u) (r : DR K W d v) : v = u ∧ flatV u = true := by
  cases d <;> cases h <;> cases r <;> exact ⟨rfl, rfl⟩
theorem flVs_at {W : Wd} : ∀ {ds : List D} {vs us : List V}, optAll flV ds = some us → DRs K W ds vs → vs = us ∧ us.all flatV = true
  | _, _, _, h, .nil => by cases h; exact ⟨rfl, rfl⟩
  | _, _, _, h, .cons r t => by
    obtain ⟨u, h1, h⟩ := bnd h
    obtain ⟨us, h2, h⟩ := bnd h
    cases h
    obtain ⟨e1, f1⟩ := flV_at h1 r
    obtain ⟨e2, f2⟩ := flVs_at h2 t
    exact ⟨by rw [e1, e2], by simp [f1, f2]⟩
def fIn (neg : Bool) (x y : D) (μ : M) : Option (D × M) := (flV x).bind fun v => (sqOf μ y).bind fun ds => (optAll flV ds).bind fun us => some (.bl (if neg then !inV v us else inV v us), μ)
theorem ra_in {neg : Bool} : R2A K (rIn K neg) (fIn neg) := by
  intro W x y d e z μ' Q ok r1 r2 hf q
  obtain ⟨v, h1, hf⟩ := bnd hf
  obtain ⟨ds, h2, hf⟩ := bnd hf
  obtain ⟨us, h3, hf⟩ := bnd hf
  cases hf
  obtain ⟨rfl, f1⟩ := flV_at h1 r1
  obtain ⟨a, vs, rfl, hs, hv⟩ := sqOf_at ok h2 r2
  obtain ⟨rfl, f2⟩ := flVs_at h3 hv
  exact ⟨a, _, rfl, hs, f1, f2, q _ W rfl ok .refl (.bl _)⟩
theorem x_in (ha : PE X a (tD K ea)) (hb : PE X b (tD K eb)) (hm : behindInMarks .In b = false := by rfl) (hK : X.K = K := by rfl) : PE X (.Compare a [.In] [b] pos) (tD K (v2 (fIn false) ea eb)) := PE_imp (eIn K ha hb hm hK) (t2_imp ra_in)
def tru (μ : M) : D → Option Bool
  | .non => some false
  | .bl b => some b
  | .int i => some (i != 0)
  | .tup ds => some (!ds.isEmpty)
  | .gt ds => some (!ds.isEmpty)
  | .lst ds => some (!ds.isEmpty)
  | .scr ds => some (!ds.isEmpty)
  | .ref k => match μ[k]? with
    | some (some (.lst ds)) => some (!ds.isEmpty)
    | some (some (.dK kvs)) => some (!kvs.isEmpty)
    | _ => none
  | .str _ => none
theorem DRs.empty {W : Wd} {ds : List D} {vs : List V} (r : DRs K W ds vs) : ds.isEmpty = vs.isEmpty := by cases r <;> rfl
theorem tru_at {W : Wd} {d : D} {v : V} {b : Bool} (ok : Ok K W) (h : tru W.μ d = some b) (r : DR K W d v) : TruV K v W.H b := by
  cases d with
  | non => cases h; cases r; rfl
  | bl k => cases h; cases r; rfl
  | int i => cases h; cases r; rfl
  | str x => cases h
  | tup ds =>
    cases h
    cases r with
    | tup h hs => exact .inr (.inl ⟨_, SqT.of h, by rw [DRs.empty hs]⟩)
  | gt ds =>
    cases h
    cases r with
    | gt h hs => exact .inr (.inl ⟨_, h, by rw [DRs.empty hs]⟩)
  | lst ds =>
    cases h
    cases r with
    | lst h _ hs => exact .inl ⟨_, SqL.of h, by rw [DRs.empty hs]⟩
  | scr ds =>
    cases h
    cases r with
    | scr h hs => exact .inl ⟨_, h.seq, by rw [DRs.empty hs]⟩
  | ref k =>
    simp only [tru] at h
    split at h
    · rename_i ds hk
      cases h
      obtain ⟨a, vs, rfl, _, hh, hs⟩ := ref_at ok hk r
      exact .inl ⟨_, SqL.of hh, by rw [DRs.empty hs]⟩
    · rename_i kvs hk
      cases h
      cases r with
      | ref ha =>
        obtain ⟨a', ho, h1, h2, vs, rfl, r⟩ := ok.at_ k _ hk
        rw [ha] at h1
        cases h1
        exact .inr (.inr ⟨vs, h2, by cases r <;> rfl⟩)
    · cases h
def bTru (ea : EV) : BV := fun Γ μ => (ea Γ μ).bind fun p => (tru p.2 p.1).bind fun b => some (b, p.2)
theorem x_truth (ha : PE X a (tD K ea)) (he : ∀ whole, isTrue a X.env whole = (do let v ← whole; standAt a.pos; holding [v] (truthy v)) := by intro _; rfl) (hK : X.K = K := by rfl) : PT X a (tDB K (bTru ea)) := by
  subst hK
  refine PT_imp (pt_truth ha he) fun σ H Q h => ?_
  obtain ⟨W, Γ, b, μ', rfl, ok, en, e, q⟩ := h
  obtain ⟨p1, e1, e⟩ := bnd e
  obtain ⟨b1, e2, e⟩ := bnd e
  cases e
  exact ⟨W, Γ, p1.1, p1.2, rfl, ok, en, e1, fun x W1 hμ ok1 s1 r1 => ⟨b, tru_at ok1 (by rw [hμ]; exact e2) r1, q W1 hμ ok1 s1⟩⟩
def tyD (μ : M) : D → Option String
  | .non => some "NoneType"
  | .bl _ => some "bool"
  | .int _ => some "int"
  | .str _ => some "str"
  | .tup _ => some "tuple"
  | .gt _ => some "tuple"
  | .lst _ => some "list"
  | .scr _ => some "list"
  | .ref k => match μ[k]? with
    | some (some (.lst _)) => some "list"
    | some (some (.dK _)) => some "dict"
    | _ => none
theorem tyD_at {W : Wd} {d : D} {v : V} {t : String} (ok : Ok K W) (h : tyD W.μ d = some t) (r : DR K W d v) : TyN K W.H v t := by
  cases d with
  | non => cases h; cases r; exact .non
  | bl k => cases h; cases r; exact .bl _
  | int i => cases h; cases r; exact .int _
  | str x => cases h; cases r; exact .str _
  | tup ds =>
    cases h
    cases r with
    | tup h hs => exact .tup (SqT.of h)
  | gt ds =>
    cases h
    cases r with
    | gt h hs => exact .tup h
  | lst ds =>
    cases h
    cases r with
    | lst h _ hs => exact .lst (SqL.of h)
  | scr ds =>
    cases h
    cases r with
    | scr h hs => exact .lst h.seq
  | ref k =>
    simp only [tyD] at h
    split at h
    · rename_i ds hk
      cases h
      obtain ⟨a, vs, rfl, _, hh, hs⟩ := ref_at ok hk r
      exact .lst (SqL.of hh)
    · rename_i kvs hk
      cases h
      cases r with
      | ref ha =>
        obtain ⟨a', ho, h1, h2, vs, rfl, r⟩ := ok.at_ k _ hk
        rw [ha] at h1
        cases h1
        exact .dK h2
    · cases h
def fIsi (c : String) (x : D) (μ : M) : Option (D × M) := (tyD μ x).bind fun t => some (.bl (subT t c), μ)
theorem x_isi (c : String) (ml : X.mg "isinstance" = none) (ha : PE X a (tD K ea)) (hb : PE X b (tC (.ty c))) (hc : clNames.contains c = true := by decide) (hg : Gl X "isinstance" := by rfl) (hs : starEach [a, b] X.env = [(false, eval a X.env), (false, eval b X.env)] := by rfl) (hs2 : starEach [b] X.env = [(false, eval b X.env)] := by rfl) (hK : X.K = K := by rfl) :
    PE X (.Call (.Name "isinstance" p) [a, b] [] pos) (tD K (v1 (fIsi c) ea)) := PE_imp (eIsi K ml ha hb hg hs hs2 hK) (t1_imp (by
  intro W x d z μ' Q ok r1 hf q
  obtain ⟨t, ht, hf⟩ := bnd hf
  cases hf
  exact ⟨x, t, c, rfl, tyD_at ok ht r1, hc, q _ W rfl ok .refl (.bl _)⟩))
def vFrz (ea : EV) : EV := fun Γ μ => (ea Γ μ).bind fun p => match p.1 with
  | .ref k => match p.2[k]? with
    | some (some (.lst ds)) => some (.lst ds, p.2.set k none)
    | _ => none
  | _ => none
def spM (K : PySem.W.Frag) (f : List D → M → Option (D × M)) : Sp := fun vs H Q _ => ∃ (W : Wd) (ds : List D) (d : D) (μ' : M), W.H = H ∧ Ok K W ∧ DRs K W ds vs ∧ f ds W.μ = some (d, μ') ∧ ∀ v W', W'.μ = μ' → Ok K W' → Step W W' → DR K W' d v → Q v W'.H
theorem x_df {x : Str} {ps : List Str} {f : List D → M → Option (D × M)} {e : Expr} (Df' : Df X.prog X.w X.K X.mg X.base k x ps (spM K f)) (hr : Room k X.A) (ha : PA X (e :: es) (tDL K el)) (hg : Gl X x := by rfl) (hdb : (x == ("__debug__" : Str)) = false := by decide)
    (he : starEach (e :: es) X.env = (false, eval e X.env) :: starEach es X.env := by rfl) (hpl : (backTo pos (starEach es X.env)).any (·.1) = false := by rfl) : PE X (.Call (.Name x p) (e :: es) [] pos) (tD K (vL f el)) := PE_imp (pe_df Df' hr ha hg hdb he hpl) (tL_imp (by
  intro W xs ds z μ' Q ok r hf q
  exact ⟨W, ds, z, μ', rfl, ok, r, hf, q⟩))
def v2l (f : D → D → M → Option (D × M)) (ea eb : EV) : EV := fun Γ μ => (ea Γ μ).bind fun p => (lsOf p.2 p.1).bind fun _ => (eb Γ p.2).bind fun q => f p.1 q.1 q.2
def v1l (f : D → M → Option (D × M)) (ea : EV) : EV := fun Γ μ => (ea Γ μ).bind fun p => (lsOf p.2 p.1).bind fun _ => f p.1 p.2
theorem ty_list {W : Wd} {d : D} {ds : List D} {v : V} (ok : Ok K W) (h : lsOf W.μ d = some ds) (r : DR K W d v) : tyV K "list" v W.H := by
  obtain ⟨a, vs, rfl, hs, _⟩ := lsOf_at ok h r
  exact .inl ⟨rfl, vs, hs⟩
def RMA (K : PySem.W.Frag) (r : V → List V → Hp → VK → Prop) (f : D → D → M → Option (D × M)) : Prop := ∀ (W : Wd) (x y : V) (d e z : D) (μ' : M) (Q : VK), Ok K W → DR K W d x → DR K W e y → f d e W.μ = some (z, μ') →
  (∀ v W', W'.μ = μ' → Ok K W' → Step W W' → DR K W' z v → Q v W'.H) → r x [y] W.H Q
theorem tM_imp {eo : EV} {r : V → List V → Hp → VK → Prop} {f : D → D → M → Option (D × M)} (ra : RMA K r f) : ∀ σ H Q, tD K (v2l f eo ea) σ H Q → tBM K "list" r (tD K eo) (tCons (tD K ea) tNil) σ H Q := fun σ H Q h => by
  obtain ⟨W, Γ, d, μ', rfl, ok, en, e, q⟩ := h
  obtain ⟨p1, e1, e⟩ := bnd e
  obtain ⟨ds, e0, e⟩ := bnd e
  obtain ⟨p2, e2, e⟩ := bnd e
  refine ⟨W, Γ, p1.1, p1.2, rfl, ok, en, e1, fun x W1 hμ ok1 s1 r1 => ⟨ty_list ok1 (by rw [hμ]; exact e0) r1, W1, Γ, p2.1, p2.2, rfl, ok1, en.step ok s1, by rw [hμ]; exact e2, fun y W2 hμ2 ok2 s2 r2 => ?_⟩⟩
  exact ra W2 x y _ _ _ _ Q ok2 (r1.step ok1 s2) r2 (by rw [hμ2]; exact e) fun v W3 hμ3 ok3 s3 r3 => q v W3 hμ3 ok3 ((s1.trans s2).trans s3) r3
def onL (x : D) (μ : M) (g : List D → Option (D × List D)) : Option (D × M) := match x with
  | .ref k => match μ[k]? with
    | some (some (.lst ds)) => (g ds).bind fun r => some (r.1, μ.set k (some (.lst r.2)))
    | _ => none
  | _ => none
theorem onL_at {W : Wd} {x z : D} {v : V} {μ' : M} {g : List D → Option (D × List D)} (ok : Ok K W) (h : onL x W.μ g = some (z, μ')) (r : DR K W x v) :
    ∃ k a ds vs ds', x = .ref k ∧ v = .ref a ∧ W.μ[k]? = some (some (.lst ds)) ∧ W.ρ[k]? = some a ∧ W.H a = some (.lst vs) ∧ DRs K W ds vs ∧ g ds = some (z, ds') ∧ μ' = W.μ.set k (some (.lst ds')) := by
  unfold onL at h
  split at h
  · rename_i k
    split at h
    · rename_i ds hk
      obtain ⟨p, e1, e⟩ := bnd h
      cases e
      obtain ⟨a, vs, rfl, ha, hh, hs⟩ := ref_at ok hk r
      exact ⟨k, a, ds, vs, p.2, rfl, rfl, hk, ha, hh, hs, e1, rfl⟩
    · cases h
  · cases h
theorem put_lst {W : Wd} {k : Nat} {a : Addr} {ds ds' : List D} {vs vs' : List V} (ok : Ok K W) (hk : W.μ[k]? = some (some (.lst ds))) (ha : W.ρ[k]? = some a) (hs : DRs K W ds' vs') :
    Ok K (W.put k a (.lst vs') (.lst ds')) ∧ Step W (W.put k a (.lst vs') (.lst ds')) := ⟨ok_put ok hk ha ⟨vs', rfl, hs⟩, step_put hk ha⟩
def fApp (x y : D) (μ : M) : Option (D × M) := onL x μ fun ds => if ds.length < 1000000 then some (.non, ds ++ [y]) else none
theorem x_app {o : Expr} {eo : EV} {apos : Pos} (ho : PE X o (tD K eo)) (ha : PE X a (tD K ea)) (hs : starEach [a] X.env = [(false, eval a X.env)] := by rfl)
    (hbase : attributeBase o "append" X.env (eval o X.env) = eval o X.env := by rfl) (hline : (apos.endLine == pos.line) = true := by rfl) (hK : X.K = K := by rfl)
    (hfew : ((backTo pos (starEach [a] X.env)).all (fun x => !x.1) && (backToKw pos (keywordEach [] X.env)).all (fun x => x.1.isSome)
      && decide ([a].length + ([] : List Keyword).length + (if ([] : List Keyword).isEmpty then 0 else 1) < 30)) = true := by rfl) :
    PE X (.Call (.Attribute o "append" apos) [a] [] pos) (tD K (v2l fApp eo ea)) := PE_imp (eApp K ho ha hs hbase hline hK hfew) (tM_imp (by
  intro W x y d e z μ' Q ok r1 r2 hf q
  obtain ⟨k, a, ds, vs, ds', rfl, rfl, hk, ha, hh, hs, hg, rfl⟩ := onL_at ok hf r1
  split at hg
  · rename_i hl
    cases hg
    obtain ⟨o1, s1⟩ := put_lst (vs := vs) (vs' := vs ++ [y]) ok hk ha (hs.append (.cons r2 .nil))
    exact ⟨a, vs, y, rfl, rfl, hh, lt_line (by rw [← hs.length]; omega), q _ _ rfl o1 s1 .non⟩
  · cases hg))
end
end L3
set_option Elab.async false
set_option linter.all false
set_option maxRecDepth 100000
namespace L3
open PySem PySem.Spec L2
open Classical in
noncomputable def chk {α : Type} (c : Prop) (x : Option α) : Option α := if c then x else none
theorem chk_some {α : Type} {c : Prop} {x : Option α} {a : α} (h : chk c x = some a) : c ∧ x = some a := by
  unfold chk at h
  split at h
  · exact ⟨by assumption, h⟩
  · cases h
theorem chk_pos {α : Type} {c : Prop} {x : Option α} (h : c) : chk c x = x := by unfold chk; rw [if_pos h]
abbrev GV := D → G → M → Option (G × M)
abbrev GsV := List D → G → M → Option (G × M)
def tDG (K : PySem.W.Frag) (gv : GV) : TG := fun v σ H Q => ∃ (W : Wd) (Γ : G) (d : D) (Γ' : G) (μ' : M), W.H = H ∧ Ok K W ∧ EnvR K W Γ σ ∧ DR K W d v ∧ gv d Γ W.μ = some (Γ', μ') ∧ ∀ W' σ', W'.μ = μ' → Ok K W' → Step W W' → EnvR K W' Γ' σ' → Q σ' W'.H
section
variable {X : Cx} {K : PySem.W.Frag} {pos : Pos}
theorem PG_imp {tg : Expr} {t t' : TG} (h : PG X tg t) (hi : ∀ v σ H Q, t' v σ H Q → t v σ H Q) : PG X tg t' := fun pins s σ H v u Q I r hw => h pins s σ H v u Q I r (hi _ _ _ _ hw)
theorem EnvR.set {W : Wd} {Γ : G} {σ : St} (e : EnvR K W Γ σ) {d : D} {v : V} (r : DR K W d v) (i : Nat) : EnvR K W (Γ.set i (some d)) (σ.set i (some v)) where
  len := by simp [e.len]
  at_ j d' h := by
    by_cases hj : j = i
    · subst hj
      have hlt : j < Γ.length := by have := (List.getElem?_eq_some_iff.mp h).1; simpa using this
      simp [hlt] at h
      subst h
      exact ⟨v, by have := e.len; simp [show j < σ.length by omega], r⟩
    · rw [List.getElem?_set_ne (Ne.symm hj)] at h
      obtain ⟨u, hu, q⟩ := e.at_ j d' h
      exact ⟨u, by rw [List.getElem?_set_ne (Ne.symm hj)]; exact hu, q⟩
def gvName (i : Nat) : GV := fun d Γ μ => some (Γ.set i (some d), μ)
theorem gvName_imp {i : Nat} : ∀ v σ H Q, tDG K (gvName i) v σ H Q → gName i v σ H Q := fun v σ H Q h => by
  obtain ⟨W, Γ, d, Γ', μ', rfl, ok, en, r, e, q⟩ := h
  cases e
  exact q W _ rfl ok .refl (en.set r i)
theorem xg_name {i : Nat} {x : Str} (hN : X.N.Nodup) (hi : X.N[i]? = some x) (hx : Loc X.env.scope x) (hf : X.fn x = true ∨ X.env.scope.names.lookup x = some .local := by first | exact .inl rfl | exact .inr rfl | assumption) : PG X (.Name x pos) (tDG K (gvName i)) := PG_imp (pg_name hN hi hx hf) gvName_imp
def gvNil : GsV := fun ds Γ μ => match ds with
  | [] => some (Γ, μ)
  | _ :: _ => none
def gvCons (g : GV) (gs : GsV) : GsV := fun ds Γ μ => match ds with
  | [] => none
  | d :: r => (g d Γ μ).bind fun p => gs r p.1 p.2
def gvTup (n : Nat) (gs : GsV) : GV := fun d Γ μ => (tpOf d).bind fun ds => if ds.length = n then gs ds Γ μ else none
def gvLst (n : Nat) (gs : GsV) : GV := fun d Γ μ => (lsOf μ d).bind fun ds => if ds.length = n then gs ds Γ μ else none
def gvSub (eo ei : EV) : GV := fun d Γ μ => (eo Γ μ).bind fun p => (ei Γ p.2).bind fun q => match q.1 with
  | .int j => (onL p.1 q.2 fun ds => (ixN ds.length j).bind fun jj => some (.non, ds.set jj d)).bind fun r => some (Γ, r.2)
  | _ => none
theorem xg_sub {o i : Expr} {eo ei : EV} (ho : PE X o (tD K eo)) (hi : PE X i (tD K ei)) (ha : ∀ v, assign (.Subscript o i pos) X.env v = (do
      let ov ← holding [v] (eval o X.env)
      let iv ← holding [v, ov] (eval i X.env)
      standAt pos
      holding [v, ov, iv] (setItem ov iv v)
      release [v, ov, iv] []) := by intro _; rfl) : PG X (.Subscript o i pos) (tDG K (gvSub eo ei)) := PG_imp (pg_sub ho hi set_list ha) fun v σ H Q hh => by
  obtain ⟨W, Γ, d, Γ', μ', rfl, ok, en, r, e, q⟩ := hh
  obtain ⟨p1, e1, e⟩ := bnd e
  obtain ⟨p2, e2, e⟩ := bnd e
  refine ⟨W, Γ, p1.1, p1.2, rfl, ok, en, e1, fun x W1 hμ ok1 s1 r1 => ⟨W1, Γ, p2.1, p2.2, rfl, ok1, en.step ok s1, by rw [hμ]; exact e2, fun y W2 hμ2 ok2 s2 r2 => ?_⟩⟩
  split at e
  · rename_i j hj
    rw [hj] at r2
    cases r2
    obtain ⟨⟨z3, μ3⟩, e3, e⟩ := bnd e
    cases e
    rw [← hμ2] at e3
    obtain ⟨k, a, ds, vs, ds', h1, rfl, hk, ha, hh, hs, hg, h2⟩ := onL_at ok2 e3 (r1.step ok1 s2)
    obtain ⟨jj, hjj, hg⟩ := bnd hg
    cases hg
    obtain ⟨o1, st1⟩ := put_lst (vs := vs) (vs' := vs.set jj v) ok2 hk ha (hs.set ((r.step ok s1).step ok1 s2) jj)
    exact ⟨a, vs, j, jj, rfl, rfl, hh, by rw [← hs.length]; exact hjj, q _ _ h2.symm o1 ((s1.trans s2).trans st1) (((en.step ok s1).step ok1 s2).step ok2 st1)⟩
  · cases e
end
section
variable {X : Cx} {K : PySem.W.Frag} {pos : Pos} {e : Expr} {ea : EV} {st : Stmt} {rest : List Stmt} {sa sb : SV}
def sNx : SV := fun Γ μ => some (.nx, Γ, μ)
def sSeq (a b : SV) : SV := fun Γ μ => (a Γ μ).bind fun o => match o.1 with
  | .nx => b o.2.1 o.2.2
  | .bk => some (.bk, o.2)
  | .ct => some (.ct, o.2)
  | .rt d => some (.rt d, o.2)
theorem xs_nil : PSs X [] (tDS K sNx) := PSs_imp pss_nil fun D σ H h => by
  obtain ⟨W, Γ, o, Γ', μ', rfl, ok, en, e, q⟩ := h
  cases e
  exact q W σ rfl ok .refl en
theorem xs_one (h1 : PS X st (tDS K sa)) : PSs X [st] (tDS K sa) := pss_one h1
theorem xs_cons (h1 : PS X st (tDS K sa)) (h2 : PSs X rest (tDS K sb)) : PSs X (st :: rest) (tDS K (sSeq sa sb)) := PSs_imp (pss_cons h1 h2) fun D σ H h => by
  obtain ⟨W, Γ, o, Γ', μ', rfl, ok, en, e, q⟩ := h
  obtain ⟨⟨o1, Γ1, μ1⟩, e1, e⟩ := bnd e
  refine ⟨W, Γ, o1, Γ1, μ1, rfl, ok, en, e1, fun W1 σ1 hμ ok1 s1 en1 => ?_⟩
  cases o1 with
  | nx => exact ⟨W1, Γ1, o, Γ', μ', rfl, ok1, en1, by rw [hμ]; exact e, fun W2 σ2 hμ2 ok2 s2 en2 => q W2 σ2 hμ2 ok2 (s1.trans s2) en2⟩
  | bk => cases e; exact q W1 σ1 hμ ok1 s1 en1
  | ct => cases e; exact q W1 σ1 hμ ok1 s1 en1
  | rt d => cases e; exact q W1 σ1 hμ ok1 s1 en1
def sBk : SV := fun Γ μ => some (.bk, Γ, μ)
def sCt : SV := fun Γ μ => some (.ct, Γ, μ)
def sExpr (ea : EV) : SV := fun Γ μ => (ea Γ μ).bind fun p => some (.nx, Γ, p.2)
theorem xs_expr (he : PE X e (tD K ea)) (hs : swapsWith e none pos.line X.env = pure false := by rfl) : PS X (.Expr e pos) (tDS K (sExpr ea)) := PS_imp (ps_expr he hs) fun D σ H h => by
  obtain ⟨W, Γ, o, Γ', μ', rfl, ok, en, e, q⟩ := h
  obtain ⟨p1, e1, e⟩ := bnd e
  cases e
  exact ⟨W, Γ, p1.1, p1.2, rfl, ok, en, e1, fun v W1 hμ ok1 s1 r1 => q W1 σ hμ ok1 s1 (en.step ok s1)⟩
def sRet (ea : EV) : SV := fun Γ μ => (ea Γ μ).bind fun p => some (.rt p.1, Γ, p.2)
theorem xs_ret (he : PE X e (tD K ea)) : PS X (.Return (some e) pos) (tDS K (sRet ea)) := PS_imp (ps_ret he) fun D σ H h => by
  obtain ⟨W, Γ, o, Γ', μ', rfl, ok, en, e, q⟩ := h
  obtain ⟨p1, e1, e⟩ := bnd e
  cases e
  exact ⟨W, Γ, p1.1, p1.2, rfl, ok, en, e1, fun v W1 hμ ok1 s1 r1 => q W1 σ hμ ok1 s1 (en.step ok s1) v r1⟩
def sIf (t : BV) (a b : SV) : SV := fun Γ μ => (t Γ μ).bind fun p => if p.1 = true then a Γ p.2 else b Γ p.2
theorem xs_if {c : Expr} {a b : List Stmt} {bc : BV} (hc : PT X c (tDB K bc)) (ha : PSs X a (tDS K sa)) (hb : PSs X b (tDS K sb)) : PS X (.If c a b pos) (tDS K (sIf bc sa sb)) := PS_imp (ps_if hc ha hb) fun D σ H h => by
  obtain ⟨W, Γ, o, Γ', μ', rfl, ok, en, e, q⟩ := h
  obtain ⟨p1, e1, e⟩ := bnd e
  refine ⟨W, Γ, p1.1, p1.2, rfl, ok, en, e1, fun W1 hμ ok1 s1 => ?_⟩
  split at e
  · rename_i hp; rw [if_pos hp]; exact ⟨W1, Γ, o, Γ', μ', rfl, ok1, en.step ok s1, by rw [hμ]; exact e, fun W2 σ2 hμ2 ok2 s2 en2 => q W2 σ2 hμ2 ok2 (s1.trans s2) en2⟩
  · rename_i hp; rw [if_neg hp]; exact ⟨W1, Γ, o, Γ', μ', rfl, ok1, en.step ok s1, by rw [hμ]; exact e, fun W2 σ2 hμ2 ok2 s2 en2 => q W2 σ2 hμ2 ok2 (s1.trans s2) en2⟩
def sAsg (ea : EV) (g : GV) : SV := fun Γ μ => (ea Γ μ).bind fun p => (g p.1 Γ p.2).bind fun q => some (.nx, q.1, q.2)
theorem sAsg_imp {g : GV} : ∀ D σ H, tDS K (sAsg ea g) D σ H → tAsg (tD K ea) (tDG K g) D σ H := fun D σ H h => by
  obtain ⟨W, Γ, o, Γ', μ', rfl, ok, en, e, q⟩ := h
  obtain ⟨p1, e1, e⟩ := bnd e
  obtain ⟨p2, e2, e⟩ := bnd e
  cases e
  exact ⟨W, Γ, p1.1, p1.2, rfl, ok, en, e1, fun v W1 hμ ok1 s1 r1 => ⟨W1, Γ, p1.1, p2.1, p2.2, rfl, ok1, en.step ok s1, r1, by rw [hμ]; exact e2, fun W2 σ2 hμ2 ok2 s2 en2 => q W2 σ2 hμ2 ok2 (s1.trans s2) en2⟩⟩
theorem xs_asg {tg : Expr} {g : GV} (he : PE X e (tD K ea)) (hg : PG X tg (tDG K g)) (hs : swapsWithSole [tg] e pos.line X.env = pure false := by rfl) (hw : swappedStores [tg] e X.env = pure none := by rfl)
    (h1 : (assignEach [tg] X.env).map (·.2) = [assign tg X.env] := by rfl) : PS X (.Assign [tg] e pos) (tDS K (sAsg ea g)) := PS_imp (ps_asg he hg hs hw h1) sAsg_imp
theorem xs_set {i : Nat} {x : Str} {pos' : Pos} (hN : X.N.Nodup) (hi : X.N[i]? = some x) (hx : Loc X.env.scope x) (he : PE X e (tD K ea)) (hs : swapsWith e (some (.Name x pos')) pos.line X.env = pure false := by rfl) (hf : X.fn x = true ∨ X.env.scope.names.lookup x = some .local := by first | exact .inl rfl | exact .inr rfl | assumption) :
    PS X (.Assign [.Name x pos'] e pos) (tDS K (sAsg ea (gvName i))) := PS_imp (ps_set hN hi hx he hs hf) fun D σ H h => by
  obtain ⟨W, Γ, o, Γ', μ', rfl, ok, en, e, q⟩ := h
  obtain ⟨p1, e1, e⟩ := bnd e
  cases e
  exact ⟨W, Γ, p1.1, p1.2, rfl, ok, en, e1, fun v W1 hμ ok1 s1 r1 => q W1 _ hμ ok1 s1 ((en.step ok s1).set r1 i)⟩
def sPar (i j : Nat) (el : LV) : SV := fun Γ μ => (el Γ μ).bind fun p => match p.1 with
  | [v, w] => some (.nx, (Γ.set i (some v)).set j (some w), p.2)
  | _ => none
def sAug (i : Nat) (f : D → D → M → Option (D × M)) (ea : EV) : SV := fun Γ μ => match Γ[i]? with
  | some (some x) => (ea Γ μ).bind fun p => (f x p.1 p.2).bind fun q => some (.nx, Γ.set i (some q.1), q.2)
  | _ => none
abbrev Ck := Option (Nat × List D)
def ckOf : Ck → M → Prop
  | none, _ => True
  | some (k, raw), μ => μ[k]? = some (some (.lst raw))
abbrev IV := G → M → Option ((List D × Ck) × M)
def JR (K : PySem.W.Frag) (W : Wd) (J : It) (its : List D) (c : Ck) : Prop := ckOf c W.μ ∧ ∃ ds vs, DRs K W ds vs ∧ ∀ (W2 : Wd) (i : Nat), Ok K W2 → ckOf c W2.μ → DRs K W2 ds vs →
  (its.length ≤ i → J.stop i W2.H) ∧ ∀ d, its[i]? = some d → J.go i W2.H ∧ ∀ x H', J.yld i W2.H x H' → ∃ W3, W3.H = H' ∧ W3.μ = W2.μ ∧ Ok K W3 ∧ Step W2 W3 ∧ DR K W3 d x
def tDI (K : PySem.W.Frag) (iv : IV) : TI := fun σ H R => ∃ (W : Wd) (Γ : G) (its : List D) (c : Ck) (μ' : M), W.H = H ∧ Ok K W ∧ EnvR K W Γ σ ∧ iv Γ W.μ = some ((its, c), μ') ∧ ∀ J W', W'.μ = μ' → Ok K W' → Step W W' → JR K W' J its c → R J W'.H
theorem PI_imp {tg iter : Expr} {t t' : TI} (h : PI X tg iter t) (hi : ∀ σ H R, t' σ H R → t σ H R) : PI X tg iter t' := fun pins s σ H R I hw => h pins s σ H R I (hi _ _ _ hw)
def lsC (μ : M) : D → Option (List D × Ck)
  | .lst ds => some (ds, none)
  | .scr ds => some (ds, none)
  | .ref k => match μ[k]? with
    | some (some (.lst ds)) => some (ds, some (k, ds))
    | _ => none
  | _ => none
theorem lsC_at {W : Wd} {d : D} {ds : List D} {c : Ck} {v : V} (ok : Ok K W) (h : lsC W.μ d = some (ds, c)) (r : DR K W d v) :
    ckOf c W.μ ∧ ∃ a, v = .ref a ∧ ∀ W2, Ok K W2 → ckOf c W2.μ → DR K W2 d v → ∃ vs, SqL K W2.H a vs ∧ DRs K W2 ds vs := by
  cases d with
  | lst xs =>
    cases h
    cases r with
    | lst h n hs =>
      refine ⟨trivial, _, rfl, fun W2 _ _ r2 => ?_⟩
      cases r2 with
      | lst h n hs => exact ⟨_, SqL.of h, hs⟩
  | scr xs =>
    cases h
    cases r with
    | scr h hs =>
      refine ⟨trivial, _, rfl, fun W2 _ _ r2 => ?_⟩
      cases r2 with
      | scr h hs => exact ⟨_, h.seq, hs⟩
  | ref k =>
    simp only [lsC] at h
    split at h
    · rename_i xs hk
      cases h
      refine ⟨hk, ?_⟩
      cases r with
      | ref ha =>
        refine ⟨_, rfl, fun W2 ok2 c2 r2 => ?_⟩
        obtain ⟨a', vs, e, _, hh, hs⟩ := ref_at ok2 c2 r2
        cases e
        exact ⟨vs, SqL.of hh, hs⟩
    · cases h
  | _ => cases h
def ivL (ea : EV) : IV := fun Γ μ => (ea Γ μ).bind fun p => (lsC p.2 p.1).bind fun s => some (s, p.2)
theorem xi_list {tg a : Expr} (ha : PE X a (tD K ea)) (hK : X.K = K := by rfl) : PI X tg a (tDI K (ivL ea)) := PI_imp (iL K ha hK) fun σ H R h => by
  obtain ⟨W, Γ, its, c, μ', rfl, ok, en, e, q⟩ := h
  obtain ⟨p1, e1, e⟩ := bnd e
  obtain ⟨s, e2, e⟩ := bnd e
  cases e
  refine ⟨W, Γ, p1.1, p1.2, rfl, ok, en, e1, fun v W1 hμ ok1 s1 r1 => ?_⟩
  obtain ⟨c0, a, rfl, hh⟩ := lsC_at ok1 (by rw [hμ]; exact e2) r1
  obtain ⟨vs0, h0, _⟩ := hh W1 ok1 c0 r1
  refine ⟨a, rfl, ⟨_, h0⟩, q (Itl K a) W1 hμ ok1 s1 ⟨c0, [p1.1], [.ref a], .cons r1 .nil, fun W2 i ok2 c2 r2 => ?_⟩⟩
  cases r2 with
  | cons r2 _ =>
    obtain ⟨vs, hs, hv⟩ := hh W2 ok2 c2 r2
    refine ⟨fun hi => ⟨vs, hs, by rw [← hv.length]; exact hi⟩, fun d hd => ?_⟩
    obtain ⟨v, hv1, hv2⟩ := hv.get hd
    refine ⟨⟨vs, v, hs, hv1⟩, fun x H' y => ?_⟩
    obtain ⟨rfl, y⟩ := y
    have := y vs hs
    rw [hv1] at this
    cases this
    exact ⟨W2, rfl, rfl, ok2, .refl, hv2⟩
def ivT (ea : EV) : IV := fun Γ μ => (ea Γ μ).bind fun p => (tpOf p.1).bind fun ds => some ((ds, none), p.2)
def rngD (lo : Int) (n : Nat) : List D := (List.range n).map fun k : Nat => D.int (lo + k)
theorem jr_range {W : Wd} {lo : Int} {n : Nat} : JR K W (Itr lo n) (rngD lo n) none := by
  refine ⟨trivial, [], [], .nil, fun W2 i ok2 _ _ => ⟨fun hi => ?_, fun d hd => ?_⟩⟩
  · show n ≤ i
    simpa [rngD] using hi
  · have hlt := (List.getElem?_eq_some_iff.mp hd).1
    simp [rngD] at hlt
    simp [rngD, hlt] at hd
    subst hd
    refine ⟨hlt, fun x H' y => ?_⟩
    obtain ⟨rfl, rfl⟩ := y
    exact ⟨W2, rfl, rfl, ok2, .refl, .int _⟩
def ivR (ea : EV) : IV := fun Γ μ => (ea Γ μ).bind fun p => match p.1 with
  | .int j => if -1000000000 ≤ j ∧ j ≤ 1000000000 then some ((rngD 0 j.toNat, none), p.2) else none
  | _ => none
theorem xi_range (mr : X.mg "range" = none) {tg a : Expr} {p : Pos} (ha : PE X a (tD K ea)) (hg : Gl X "range" := by rfl) (hs : starEach [a] X.env = [(false, eval a X.env)] := by rfl) : PI X tg (.Call (.Name "range" p) [a] [] pos) (tDI K (ivR ea)) := PI_imp (iR mr ha hg hs) fun σ H R h => by
  obtain ⟨W, Γ, its, c, μ', rfl, ok, en, e, q⟩ := h
  obtain ⟨p1, e1, e⟩ := bnd e
  split at e
  · rename_i j hj
    split at e
    · rename_i hb
      cases e
      refine ⟨W, Γ, p1.1, p1.2, rfl, ok, en, e1, fun v W1 hμ ok1 s1 r1 => ?_⟩
      rw [hj] at r1
      cases r1
      exact ⟨j, rfl, by omega, by omega, q _ W1 hμ ok1 s1 jr_range⟩
    · cases e
  · cases e
def ivR2 (ea eb : EV) : IV := fun Γ μ => (ea Γ μ).bind fun p => (eb Γ p.2).bind fun r => match p.1, r.1 with
  | .int i, .int j => if (-1000000000 ≤ i ∧ i ≤ 1000000000) ∧ -1000000000 ≤ j ∧ j ≤ 1000000000 then some ((rngD i (j - i).toNat, none), r.2) else none
  | _, _ => none
theorem xi_range2 (mr : X.mg "range" = none) {tg a b : Expr} {eb : EV} {p : Pos} (ha : PE X a (tD K ea)) (hb : PE X b (tD K eb)) (hg : Gl X "range" := by rfl) (hs : starEach [a, b] X.env = [(false, eval a X.env), (false, eval b X.env)] := by rfl) (hs2 : starEach [b] X.env = [(false, eval b X.env)] := by rfl) :
    PI X tg (.Call (.Name "range" p) [a, b] [] pos) (tDI K (ivR2 ea eb)) := PI_imp (iR2 mr ha hb hg hs hs2) fun σ H R h => by
  obtain ⟨W, Γ, its, c, μ', rfl, ok, en, e, q⟩ := h
  obtain ⟨p1, e1, e⟩ := bnd e
  obtain ⟨p2, e2, e⟩ := bnd e
  split at e
  · rename_i i j hi hj
    split at e
    · rename_i hb
      cases e
      refine ⟨W, Γ, p1.1, p1.2, rfl, ok, en, e1, fun v W1 hμ ok1 s1 r1 => ⟨W1, Γ, p2.1, p2.2, rfl, ok1, en.step ok s1, by rw [hμ]; exact e2, fun y W2 hμ2 ok2 s2 r2 => ?_⟩⟩
      rw [hi] at r1
      rw [hj] at r2
      cases r1
      cases r2
      exact ⟨i, j, rfl, ⟨by omega, by omega, by omega, by omega⟩, q _ W2 hμ2 ok2 (s1.trans s2) jr_range⟩
    · cases e
  · cases e
noncomputable def forG (c : Ck) (g : GV) (body : SV) : List D → SV
  | [], Γ, μ => some (.nx, Γ, μ)
  | d :: r, Γ, μ => (g d Γ μ).bind fun p => (body p.1 p.2).bind fun o => match o.1 with
    | .nx => chk (ckOf c o.2.2) (forG c g body r o.2.1 o.2.2)
    | .ct => chk (ckOf c o.2.2) (forG c g body r o.2.1 o.2.2)
    | .bk => some (.nx, o.2)
    | .rt d => some (.rt d, o.2)
noncomputable def sFor (iv : IV) (g : GV) (body : SV) : SV := fun Γ μ => (iv Γ μ).bind fun s => forG s.1.2 g body s.1.1 Γ s.2
theorem xs_for {tg iter : Expr} {body : List Stmt} {iv : IV} {g : GV} (hp : PassesOwn (model X.prog X.w) X.A X.env X.xe) (hc : X.calm = true) (hi : PI X tg iter (tDI K iv)) (hg : PG X tg (tDG K g)) (hb : PSs X body (tDS K sb))
    (hs : ∀ x, foldedSetIterable iter X.env x = pure x := by intro _; rfl) : PS X (.For tg iter body [] pos) (tDS K (sFor iv g sb)) := PS_imp (ps_for hp hc hi hg hb hs) fun D σ H h => by
  obtain ⟨W, Γ, o, Γ', μ', rfl, ok, en, e, q⟩ := h
  obtain ⟨⟨⟨its, c⟩, μ1⟩, e1, e⟩ := bnd e
  refine ⟨W, Γ, its, c, μ1, rfl, ok, en, e1, fun J W1 hμ1 ok1 s1 jr => ?_⟩
  obtain ⟨c1, ds, vs, r1, hj⟩ := jr
  refine ⟨fun i m σ2 H2 => m = its.length - i ∧ i ≤ its.length ∧ ∃ W2 Γ2, W2.H = H2 ∧ Ok K W2 ∧ Step W1 W2 ∧ EnvR K W2 Γ2 σ2 ∧ ckOf c W2.μ ∧ forG c g sb (its.drop i) Γ2 W2.μ = some (o, Γ', μ'), ⟨its.length, by simp, Nat.zero_le _, W1, Γ, rfl, ok1, .refl, en.step ok s1, c1, by rw [hμ1]; exact e⟩, ?_⟩
  rintro i m σ2 H2 ⟨rfl, hi, W2, Γ2, rfl, ok2, s2, en2, c2, e2⟩
  obtain ⟨hstop, hgo⟩ := hj W2 i ok2 c2 (r1.step ok1 s2)
  by_cases hlt : i < its.length
  · refine .inr ?_
    have hd : its[i]? = some its[i] := List.getElem?_eq_getElem hlt
    obtain ⟨h1, h2⟩ := hgo _ hd
    rw [List.drop_eq_getElem_cons hlt] at e2
    obtain ⟨p, e3, e2⟩ := bnd e2
    obtain ⟨⟨o4, Γ4, μ4⟩, e4, e2⟩ := bnd e2
    refine ⟨h1, fun σ' H' => i + 1 ≤ its.length ∧ ∃ W2 Γ2, W2.H = H' ∧ Ok K W2 ∧ Step W1 W2 ∧ EnvR K W2 Γ2 σ' ∧ ckOf c W2.μ ∧ forG c g sb (its.drop (i + 1)) Γ2 W2.μ = some (o, Γ', μ'), fun σ' H' hN => ⟨its.length - (i + 1), by omega, rfl, hN⟩, fun x H' hy => ?_⟩
    obtain ⟨W3, rfl, hμ3, ok3, s3, r3⟩ := h2 x H' hy
    refine ⟨W3, Γ2, its[i], p.1, p.2, rfl, ok3, en2.step ok2 s3, r3, by rw [hμ3]; exact e3, fun W4 σ4 hμ4 ok4 s4 en4 => ⟨W4, p.1, o4, Γ4, μ4, rfl, ok4, en4, by rw [hμ4]; exact e4, fun W5 σ5 hμ5 ok5 s5 en5 => ?_⟩⟩
    have st := s2.trans (s3.trans (s4.trans s5))
    cases o4 with
    | nx => obtain ⟨hc5, e2⟩ := chk_some e2; exact ⟨hlt, W5, Γ4, rfl, ok5, st, en5, by rw [hμ5]; exact hc5, by rw [hμ5]; exact e2⟩
    | ct => obtain ⟨hc5, e2⟩ := chk_some e2; exact ⟨hlt, W5, Γ4, rfl, ok5, st, en5, by rw [hμ5]; exact hc5, by rw [hμ5]; exact e2⟩
    | bk => cases e2; exact q W5 σ5 hμ5 ok5 (s1.trans st) en5
    | rt d => cases e2; exact q W5 σ5 hμ5 ok5 (s1.trans st) en5
  · have e' : i = its.length := by omega
    subst e'
    rw [List.drop_eq_nil_of_le (Nat.le_refl _)] at e2
    cases e2
    exact .inl ⟨hstop (Nat.le_refl _), q W2 σ2 rfl ok2 (s1.trans s2) en2⟩
end
end L3
set_option Elab.async false
set_option linter.all false
set_option maxRecDepth 100000
namespace L3
open PySem PySem.Spec L2
structure StepB (p : Addr) (W W' : Wd) : Prop where
  ρ : ∀ (k : Nat) a, W.ρ[k]? = some a → W'.ρ[k]? = some a
  live : ∀ a, RL W' a → RL W a ∨ W.H a = none
  keep : ∀ a o, a ≠ p → W.H a = some o → ¬ RL W a → W'.H a = some o
  hid : W'.hid = W.hid
  still : ∀ a, W.H a ≠ none → W'.H a ≠ none
section
variable {K : PySem.W.Frag} {W W' W'' : Wd} {p : Addr}
theorem Step.b (s : Step W W') : StepB p W W' := ⟨s.ρ, s.live, fun a o _ h n => s.keep a o h n, s.hid, s.still⟩
theorem StepB.nlive (s : StepB p W W') {a : Addr} {o : HO} (h : W.H a = some o) (n : ¬ RL W a) : ¬ RL W' a := fun z => by
  rcases s.live a z with z | z
  · exact n z
  · rw [h] at z; cases z
theorem StepB.trans (s : StepB p W W') (t : StepB p W' W'') : StepB p W W'' where
  ρ k a h := t.ρ k a (s.ρ k a h)
  live a h := by
    rcases t.live a h with z | z
    · exact s.live a z
    · exact .inr (Classical.byContradiction fun n => s.still a n z)
  keep a o hp h n := t.keep a o hp (s.keep a o hp h n) (s.nlive h n)
  hid := t.hid.trans s.hid
  still a h := t.still a (s.still a h)
mutual
theorem DR.stepB (ok : Ok K W) (hp : W.hid p) (hl : ∃ ys, W.H p = some (.lst ys)) (s : StepB p W W') : ∀ {d : D} {v : V}, DR K W d v → DR K W' d v
  | _, _, .non => .non
  | _, _, .bl b => .bl b
  | _, _, .int i => .int i
  | _, _, .str x => .str x
  | _, _, .ref h => .ref (s.ρ _ _ h)
  | _, _, .lst r n h => .lst (s.keep _ _ (fun z => n (.inr (by rw [z]; exact hp))) r (fun z => n (.inl z))) (fun z => z.elim (s.nlive r (fun z => n (.inl z))) (fun z => n (.inr (by rw [s.hid] at z; exact z)))) (DRs.stepB ok hp hl s h)
  | _, _, .scr r h => .scr (by
      rcases r with ⟨o, r⟩ | r
      · obtain ⟨ys, hl⟩ := hl
        exact .inl ⟨o, s.keep _ _ (fun z => by rw [z, hl] at r; cases r) r (ok.nofrz r)⟩
      · exact .inr r) (DRs.stepB ok hp hl s h)
  | _, _, .tup r h => .tup (by
      obtain ⟨ys, hl⟩ := hl
      exact s.keep _ _ (fun z => by rw [z, hl] at r; cases r) r (ok.notup (.inl r))) (DRs.stepB ok hp hl s h)
  | _, _, .gt r h => .gt (by
      rcases r with r | r
      · have n := ok.notup r
        obtain ⟨ys, hl⟩ := hl
        rcases r with r | ⟨o, r⟩
        · exact .inl (.inl (s.keep _ _ (fun z => by rw [z, hl] at r; cases r) r n))
        · exact .inl (.inr ⟨o, s.keep _ _ (fun z => by rw [z, hl] at r; cases r) r n⟩)
      · exact .inr r) (DRs.stepB ok hp hl s h)
theorem DRs.stepB (ok : Ok K W) (hp : W.hid p) (hl : ∃ ys, W.H p = some (.lst ys)) (s : StepB p W W') : ∀ {ds : List D} {vs : List V}, DRs K W ds vs → DRs K W' ds vs
  | _, _, .nil => .nil
  | _, _, .cons h t => .cons (h.stepB ok hp hl s) (DRs.stepB ok hp hl s t)
end
theorem OR.stepB (ok : Ok K W) (hp : W.hid p) (hl : ∃ ys, W.H p = some (.lst ys)) (s : StepB p W W') {a : Addr} {o : O} {ho : HO} (h : OR K W a o ho) : OR K W' a o ho := by
  cases o with
  | lst ds => obtain ⟨vs, e, q⟩ := h; exact ⟨vs, e, q.stepB ok hp hl s⟩
  | dK kvs => obtain ⟨vs, e, q⟩ := h; exact ⟨vs, e, Paired.mapP q fun _ _ ⟨e, q⟩ => ⟨e, q.stepB ok hp hl s⟩⟩
  | ins C fs => obtain ⟨vs, e, q⟩ := h; exact ⟨vs, e, Paired.mapP q fun _ _ ⟨e, q⟩ => ⟨e, q.stepB ok hp hl s⟩⟩
  | exc C => exact h
theorem EnvR.stepB {Γ : G} {σ : St} (e : EnvR K W Γ σ) (ok : Ok K W) (hp : W.hid p) (hl : ∃ ys, W.H p = some (.lst ys)) (s : StepB p W W') : EnvR K W' Γ σ := ⟨e.len, fun i d h => let ⟨v, a, b⟩ := e.at_ i d h; ⟨v, a, b.stepB ok hp hl s⟩⟩
def Wd.re (W : Wd) (p : Addr) (o : HO) : Wd := { W with H := upd W.H p o }
theorem stepB_re {o : HO} : StepB p W (W.re p o) where
  ρ _ _ h := h
  live _ h := .inl h
  keep a u hp e _ := by show upd W.H p o a = _; rw [upd_ne hp]; exact e
  hid := rfl
  still a n := by
    show upd W.H p o a ≠ none
    by_cases e : a = p
    · subst e; rw [upd_same]; simp
    · rw [upd_ne e]; exact n
theorem ok_re (ok : Ok K W) (hp : W.hid p) (hl : ∃ ys, W.H p = some (.lst ys)) {o : HO} : Ok K (W.re p o) where
  len := ok.len
  nd := ok.nd
  rs a m := (stepB_re (W := W) (p := p) (o := o)).still a (ok.rs a m)
  at_ k u e := by
    obtain ⟨a, ho, h1, h2, h3⟩ := ok.at_ k u e
    have hne : a ≠ p := fun z => (ok.hd p hp).2 (z ▸ ⟨k, u, e, h1⟩)
    exact ⟨a, ho, h1, by show upd W.H p o a = _; rw [upd_ne hne]; exact h2, h3.stepB ok hp hl stepB_re⟩
  hd0 a z := ⟨(stepB_re (W := W) (p := p) (o := o)).still a (ok.hd a z).1, (ok.hd0 a z).2⟩
mutual
theorem DR.hide (hp : W.H p = none) (ok : Ok K W) {o : HO} : ∀ {d : D} {v : V}, DR K W d v → DR K (W.hide p o) d v
  | _, _, .non => .non
  | _, _, .bl b => .bl b
  | _, _, .int i => .int i
  | _, _, .str x => .str x
  | _, _, .ref h => .ref h
  | _, _, .lst r n h => .lst (by show upd W.H p o _ = _; rw [upd_ne (ne_of_none r hp)]; exact r) (fun z => z.elim (fun z => n (.inl z)) (fun z => z.elim (fun z => by rw [z, hp] at r; cases r) (fun z => n (.inr z)))) (DRs.hide hp ok h)
  | _, _, .scr r h => .scr (sf_step ok (step_lay hp) r) (DRs.hide hp ok h)
  | _, _, .tup r h => .tup (by show upd W.H p o _ = _; rw [upd_ne (ne_of_none r hp)]; exact r) (DRs.hide hp ok h)
  | _, _, .gt r h => .gt (tp_step ok (step_lay hp) r) (DRs.hide hp ok h)
theorem DRs.hide (hp : W.H p = none) (ok : Ok K W) {o : HO} : ∀ {ds : List D} {vs : List V}, DRs K W ds vs → DRs K (W.hide p o) ds vs
  | _, _, .nil => .nil
  | _, _, .cons h t => .cons (h.hide hp ok) (DRs.hide hp ok t)
end
theorem OR.hide (hp : W.H p = none) (ok : Ok K W) {o : HO} {a : Addr} {x : O} {ho : HO} (h : OR K W a x ho) : OR K (W.hide p o) a x ho := by
  cases x with
  | lst ds => obtain ⟨vs, e, q⟩ := h; exact ⟨vs, e, q.hide hp ok⟩
  | dK kvs => obtain ⟨vs, e, q⟩ := h; exact ⟨vs, e, Paired.mapP q fun _ _ ⟨e, q⟩ => ⟨e, q.hide hp ok⟩⟩
  | ins C fs => obtain ⟨vs, e, q⟩ := h; exact ⟨vs, e, Paired.mapP q fun _ _ ⟨e, q⟩ => ⟨e, q.hide hp ok⟩⟩
  | exc C => exact h
theorem EnvR.hide {Γ : G} {σ : St} (e : EnvR K W Γ σ) (hp : W.H p = none) (ok : Ok K W) {o : HO} : EnvR K (W.hide p o) Γ σ := ⟨e.len, fun i d h => let ⟨v, a, b⟩ := e.at_ i d h; ⟨v, a, b.hide hp ok⟩⟩
theorem ok_hide (ok : Ok K W) (hp : W.H p = none) {o : HO} : Ok K (W.hide p o) where
  len := ok.len
  nd := ok.nd
  rs a m := (step_lay (o := o) hp).still a (ok.rs a m)
  at_ k u e := by
    obtain ⟨a, ho, h1, h2, h3⟩ := ok.at_ k u e
    exact ⟨a, ho, h1, by show upd W.H p o a = _; rw [upd_ne (ne_of_none h2 hp)]; exact h2, h3.hide hp ok⟩
  hd0 a z := by
    rcases z with rfl | z
    · exact ⟨by show upd W.H a o a ≠ none; rw [upd_same]; simp, fun m => ok.rs a m hp⟩
    · exact ⟨(step_lay (o := o) hp).still a (ok.hd a z).1, (ok.hd0 a z).2⟩
def Wd.show (W : Wd) (h : Addr → Prop) : Wd := { W with hid := h }
mutual
theorem DR.show {h : Addr → Prop} (hs : ∀ a, h a → W.hid a) : ∀ {d : D} {v : V}, DR K W d v → DR K (W.show h) d v
  | _, _, .non => .non
  | _, _, .bl b => .bl b
  | _, _, .int i => .int i
  | _, _, .str x => .str x
  | _, _, .ref h => .ref h
  | _, _, .lst r n h => .lst r (fun z => n (z.elim .inl (fun z => .inr (hs _ z)))) (DRs.show hs h)
  | _, _, .scr r h => .scr r (DRs.show hs h)
  | _, _, .tup r h => .tup r (DRs.show hs h)
  | _, _, .gt r h => .gt r (DRs.show hs h)
theorem DRs.show {h : Addr → Prop} (hs : ∀ a, h a → W.hid a) : ∀ {ds : List D} {vs : List V}, DRs K W ds vs → DRs K (W.show h) ds vs
  | _, _, .nil => .nil
  | _, _, .cons h t => .cons (h.show hs) (DRs.show hs t)
end
theorem ok_show (ok : Ok K W) {h : Addr → Prop} (hs : ∀ a, h a → W.hid a) : Ok K (W.show h) where
  len := ok.len
  nd := ok.nd
  rs := ok.rs
  at_ k u e := by
    obtain ⟨a, ho, h1, h2, h3⟩ := ok.at_ k u e
    refine ⟨a, ho, h1, h2, ?_⟩
    cases u with
    | lst ds => obtain ⟨vs, e, q⟩ := h3; exact ⟨vs, e, q.show hs⟩
    | dK kvs => obtain ⟨vs, e, q⟩ := h3; exact ⟨vs, e, Paired.mapP q fun _ _ ⟨e, q⟩ => ⟨e, q.show hs⟩⟩
    | ins C fs => obtain ⟨vs, e, q⟩ := h3; exact ⟨vs, e, Paired.mapP q fun _ _ ⟨e, q⟩ => ⟨e, q.show hs⟩⟩
    | exc C => exact h3
  hd0 a z := ok.hd0 a (hs a z)
theorem step_around {o : HO} (hp : W.H p = none) (s : StepB p (W.hide p o) W') : Step W (W'.show W.hid) where
  ρ k a h := s.ρ k a h
  live a z := by
    rcases s.live a z with z | z
    · exact .inl z
    · have z : upd W.H p o a = none := z
      by_cases e : a = p
      · subst e; rw [upd_same] at z; cases z
      · rw [upd_ne e] at z; exact .inr z
  keep a u e n := s.keep a u (ne_of_none e hp) (by show upd W.H p o a = _; rw [upd_ne (ne_of_none e hp)]; exact e) n
  hid := rfl
  still a n := s.still a (by
    show upd W.H p o a ≠ none
    by_cases e : a = p
    · subst e; rw [upd_same]; simp
    · rw [upd_ne e]; exact n)
theorem nrl_hid (ok : Ok K W) (hp : W.hid p) : ¬ RL W p := (ok.hd p hp).2
end
def capG (own : List Str) (cap : List (Str × Nat)) (Γ : G) : G := own.map (fun _ => none) ++ cap.map fun p => (Γ[p.2]?).join
theorem EnvR.cap {K : PySem.W.Frag} {W : Wd} {Γ : G} {σ : St} (e : EnvR K W Γ σ) (own : List Str) (cap : List (Str × Nat)) : EnvR K W (capG own cap Γ) (capSt own cap σ) where
  len := by simp [capG, capSt]
  at_ i d h := by
    unfold capG at h
    unfold capSt
    by_cases hi : i < own.length
    · rw [List.getElem?_append_left (by simpa using hi)] at h
      simp [hi] at h
    · rw [List.getElem?_append_right (by simpa using hi)] at h ⊢
      simp only [List.length_map, List.getElem?_map] at h ⊢
      cases hc : cap[i - own.length]? with
      | none => rw [hc] at h; cases h
      | some p =>
        rw [hc] at h
        simp only [Option.map_some] at h ⊢
        cases hg : Γ[p.2]? with
        | none => rw [hg] at h; cases h
        | some x =>
          rw [hg] at h
          cases x with
          | none => cases h
          | some d' =>
            cases h
            obtain ⟨v, hv, r⟩ := e.at_ _ _ hg
            exact ⟨v, by rw [hv]; rfl, r⟩
noncomputable def compG (c : Ck) (g : GV) (tc : BV) (te : EV) : List D → G → M → Option (List D × M)
  | [], _, μ => some ([], μ)
  | d :: r, Γ, μ => (g d Γ μ).bind fun p => (tc p.1 p.2).bind fun t => if t.1 = true then (te p.1 t.2).bind fun v => chk (ckOf c v.2) ((compG c g tc te r p.1 v.2).bind fun q => some (v.1 :: q.1, q.2)) else chk (ckOf c t.2) (compG c g tc te r p.1 t.2)
def bYes : BV := fun _ μ => some (true, μ)
section
variable {X : Cx} {K : PySem.W.Frag} {N' own : List Str} {cap : List (Str × Nat)} {scope : Scope} {tg iter elt : Expr} {ifs : List Expr} {pos : Pos} {iv : IV} {g : GV} {tc : BV} {te : EV}
theorem PIf_imp {t t' : TT} (h : PIf X ifs t) (hi : ∀ σ H Q, t' σ H Q → t σ H Q) : PIf X ifs t' := fun pins s σ H Q I hw => h pins s σ H Q I (hi _ _ _ hw)
theorem xif_nil : PIf X [] (tDB K bYes) := PIf_imp pif_nil fun σ H Q h => by
  obtain ⟨W, Γ, b, μ', rfl, ok, en, e, q⟩ := h
  cases e
  exact q W rfl ok .refl
theorem xif_one {c : Expr} (h : PT X c (tDB K tc)) : PIf X [c] (tDB K tc) := pif_one h
theorem comp_turns {W1 : Wd} {J : It} {its : List D} {c : Ck} {Γ0 : G} {σ0 : St} {rs : List D} {μ' : M} {p : Addr} {Z : Hp → Prop} (ok1 : Ok K W1) (hp : W1.H p = none) (jr : JR K W1 J its c) (en : EnvR K W1 Γ0 σ0) (hl : its.length ≤ 1000000)
    (e : compG c g tc te its Γ0 W1.μ = some (rs, μ')) (hZ : ∀ W' ys, W'.μ = μ' → Ok K W' → StepB p (W1.hide p (.lst [])) W' → W'.hid p → W'.H p = some (.lst ys) → DRs K W' rs ys → Z W'.H) :
    CompTurns J (tDG K g) (tDB K tc) (tD K te) p σ0 W1.H Z := by
  obtain ⟨c1, ds, vs, r1, hj⟩ := jr
  refine ⟨fun i m σ2 H2 => m = its.length - i ∧ i ≤ its.length ∧ ∃ W2 Γ2 done rest ys, W2.H = H2 ∧ Ok K W2 ∧ StepB p (W1.hide p (.lst [])) W2 ∧ W2.hid p ∧ W2.H p = some (.lst ys) ∧ DRs K W2 done ys ∧ ys.length ≤ i ∧ EnvR K W2 Γ2 σ2 ∧ ckOf c W2.μ ∧ compG c g tc te (its.drop i) Γ2 W2.μ = some (rest, μ') ∧ done ++ rest = rs, ?_, ?_⟩
  · exact ⟨its.length, by simp, Nat.zero_le _, W1.hide p (.lst []), Γ0, [], rs, [], rfl, ok_hide ok1 hp, ⟨fun _ _ h => h, fun _ h => .inl h, fun _ _ _ h _ => h, rfl, fun _ h => h⟩, .inl rfl, upd_same, .nil, Nat.le_refl _, en.hide hp ok1, c1, e, rfl⟩
  rintro i m σ2 H2 ⟨rfl, hi, W2, Γ2, done, rest, ys, rfl, ok2, s2, hp2, hy2, rd, hyl, en2, c2, e2, ed⟩
  have rj : DRs K W2 ds vs := (r1.hide hp ok1).stepB (ok_hide ok1 hp) (.inl rfl) ⟨[], upd_same⟩ s2
  obtain ⟨hstop, hgo⟩ := hj W2 i ok2 c2 rj
  by_cases hlt : i < its.length
  · refine .inr ?_
    have hd : its[i]? = some its[i] := List.getElem?_eq_getElem hlt
    obtain ⟨h1, h2⟩ := hgo _ hd
    rw [List.drop_eq_getElem_cons hlt] at e2
    obtain ⟨pg, e3, e2⟩ := bnd e2
    obtain ⟨pt, e4, e2⟩ := bnd e2
    refine ⟨h1, fun σ' H' => i + 1 ≤ its.length ∧ ∃ W2 Γ2 done rest ys, W2.H = H' ∧ Ok K W2 ∧ StepB p (W1.hide p (.lst [])) W2 ∧ W2.hid p ∧ W2.H p = some (.lst ys) ∧ DRs K W2 done ys ∧ ys.length ≤ i + 1 ∧ EnvR K W2 Γ2 σ' ∧ ckOf c W2.μ ∧ compG c g tc te (its.drop (i + 1)) Γ2 W2.μ = some (rest, μ') ∧ done ++ rest = rs, fun σ' H' hN => ⟨its.length - (i + 1), by omega, rfl, hN⟩, fun x H' hy => ?_⟩
    obtain ⟨W3, rfl, hμ3, ok3, s3, r3⟩ := h2 x H' hy
    refine ⟨W3, Γ2, its[i], pg.1, pg.2, rfl, ok3, en2.step ok2 s3, r3, by rw [hμ3]; exact e3, fun W4 σ4 hμ4 ok4 s4 en4 => ⟨W4, pg.1, pt.1, pt.2, rfl, ok4, en4, by rw [hμ4]; exact e4, fun W5 hμ5 ok5 s5 => ?_⟩⟩
    have s25 := s3.trans (s4.trans s5)
    split at e2
    · rename_i ht
      obtain ⟨pv, e5, e2⟩ := bnd e2
      obtain ⟨c5, e2⟩ := chk_some e2
      obtain ⟨pq, e6, e2⟩ := bnd e2
      cases e2
      refine ite2 (fun _ => ?_) (fun n => absurd ht n)
      refine ⟨W5, pg.1, pv.1, pv.2, rfl, ok5, en4.step ok4 s5, by rw [hμ5]; exact e5, fun v W6 hμ6 ok6 s6 r6 => ?_⟩
      have s26 := s25.trans s6
      have hp6 : W6.hid p := by rw [s26.hid]; exact hp2
      have hy6 : W6.H p = some (.lst ys) := s26.keep _ _ hy2 (nrl_hid ok2 hp2)
      have rd6 := rd.step ok2 s26
      refine ⟨ys, hy6, lt_line (by omega), hlt, W6.re p (.lst (ys ++ [v])), pg.1, done ++ [pv.1], pq.1, ys ++ [v], rfl, ok_re ok6 hp6 ⟨_, hy6⟩, (s2.trans s26.b).trans stepB_re, hp6, upd_same, ?_, by simp; omega, (((en4.step ok4 s5).step ok5 s6).stepB ok6 hp6 ⟨_, hy6⟩ stepB_re), by show ckOf c W6.μ; rw [hμ6]; exact c5, by show compG c g tc te _ _ W6.μ = _; rw [hμ6]; exact e6, by simpa using ed⟩
      exact (rd6.append (.cons r6 .nil)).stepB ok6 hp6 ⟨_, hy6⟩ stepB_re
    · rename_i ht
      obtain ⟨c5, e2⟩ := chk_some e2
      refine ite2 (fun n => absurd n ht) (fun _ => ?_)
      exact ⟨hlt, W5, pg.1, done, rest, ys, rfl, ok5, s2.trans s25.b, by rw [s25.hid]; exact hp2, s25.keep _ _ hy2 (nrl_hid ok2 hp2), rd.step ok2 s25, by omega, en4.step ok4 s5, by rw [hμ5]; exact c5, by rw [hμ5]; exact e2, ed⟩
  · have e' : i = its.length := by omega
    subst e'
    rw [List.drop_eq_nil_of_le (Nat.le_refl _)] at e2
    cases e2
    rw [List.append_nil] at ed
    subst ed
    exact .inl ⟨hstop (Nat.le_refl _), hZ W2 ys rfl ok2 s2 hp2 hy2 rd⟩
noncomputable def vComp (own : List Str) (cap : List (Str × Nat)) (iv : IV) (g : GV) (tc : BV) (te : EV) : EV := fun Γ μ => (iv Γ μ).bind fun s => if s.1.1.length ≤ 1000000 then (compG s.1.2 g tc te s.1.1 (capG own cap Γ) s.2).bind fun q => some (.lst q.1, q.2) else none
theorem comp_data {W W1 W' : Wd} {p : Addr} {rs : List D} {ys : List V} (s1 : Step W W1) (hp : W1.H p = none) (ok1 : Ok K W1) (ok' : Ok K W') (s : StepB p (W1.hide p (.lst [])) W') (hp' : W'.hid p) (hy : W'.H p = some (.lst ys)) (r : DRs K W' rs ys) :
    Ok K (W'.show W1.hid) ∧ Step W (W'.show W1.hid) ∧ DR K (W'.show W1.hid) (.lst rs) (.ref p) := by
  have hs : ∀ a, W1.hid a → W'.hid a := fun a z => by rw [s.hid]; exact .inr z
  refine ⟨ok_show ok' hs, s1.trans (step_around hp s), .lst hy (fun z => ?_) (r.show hs)⟩
  rcases z with z | z
  · exact nrl_hid ok' hp' z
  · exact fresh_nhid ok1 hp z
theorem vComp_at {W : Wd} {Γ : G} {σ : St} {d : D} {μ' : M} (ok : Ok K W) (en : EnvR K W Γ σ) (e : vComp own cap iv g tc te Γ W.μ = some (d, μ')) {Z : Addr → Hp → Prop} (q : ∀ v W', W'.μ = μ' → Ok K W' → Step W W' → DR K W' d v → ∀ p, v = .ref p → Z p W'.H) :
    tDI K iv σ W.H fun J H1 => ∀ p, H1 p = none → CompTurns J (tDG K g) (tDB K tc) (tD K te) p (capSt own cap σ) H1 (Z p) := by
  obtain ⟨⟨⟨its, c⟩, μ1⟩, e1, e⟩ := bnd e
  refine ⟨W, Γ, its, c, μ1, rfl, ok, en, e1, fun J W1 hμ1 ok1 s1 jr p hp => ?_⟩
  split at e
  · rename_i hl
    obtain ⟨⟨rs, μ2⟩, e2, e⟩ := bnd e
    cases e
    refine comp_turns ok1 hp jr ((en.step ok s1).cap own cap) hl (by rw [hμ1]; exact e2) fun W' ys hμ' ok' s' hp' hy r => ?_
    obtain ⟨a1, a2, a3⟩ := comp_data s1 hp ok1 ok' s' hp' hy r
    exact q _ (W'.show W1.hid) hμ' a1 a2 a3 p rfl
  · cases e
theorem x_comp (S : CompScope X N' own cap scope) (hi : PI X tg iter (tDI K iv))
    (hg : ∀ cl C s₀ H₀ ex, PG (compCx X N' scope cl C s₀ H₀ ex) tg (tDG K g)) (ht : ∀ cl C s₀ H₀ ex, PIf (compCx X N' scope cl C s₀ H₀ ex) ifs (tDB K tc)) (he : ∀ cl C s₀ H₀ ex, PE (compCx X N' scope cl C s₀ H₀ ex) elt (tD K te))
    (hx : ∀ e s, X.xe e s → False := by exact fun _ _ z => z) (hc : X.calm = true := by rfl) (hs : ∀ x, foldedSetIterable iter X.env x = pure x := by intro _; rfl) :
    PE X (.ListComp elt [⟨tg, iter, ifs, 0⟩] scope pos) (tD K (vComp own cap iv g tc te)) := PE_imp (pe_comp S hi hg ht he hx hc hs) fun σ H Q h => by
  obtain ⟨W, Γ, d, μ', rfl, ok, en, e, q⟩ := h
  exact vComp_at ok en e fun v W' h1 h2 h3 h4 p hv => by subst hv; exact q _ W' h1 h2 h3 h4
end
end L3
set_option Elab.async false
set_option linter.all false
set_option maxRecDepth 100000
namespace L3
open PySem PySem.Spec L2
open PyProof.Rows (envOfC)
def runF (n m : Nat) (es : SV) : List D → M → Option (D × M) := fun ds μ => if ds.length = m then (es (ds.map some ++ List.replicate (n - ds.length) none) μ).bind fun o => match o.1 with
    | .rt d => some (d, o.2.2)
    | .nx => some (.non, o.2.2)
    | _ => none
  else none
section
variable {P : Program} {w : World} {K : PySem.W.Frag} {mg : Str → Option Value} {base : Heap}
theorem env_start {W : Wd} {ds : List D} {vs : List V} {n : Nat} (r : DRs K W ds vs) : EnvR K W (ds.map some ++ List.replicate (n - ds.length) none) (vs.map some ++ List.replicate (n - vs.length) none) where
  len := by simp [r.length]
  at_ i d h := by
    by_cases hi : i < ds.length
    · rw [List.getElem?_append_left (by simpa using hi)] at h
      rw [List.getElem?_append_left (by simpa using r.length ▸ hi)]
      simp only [List.getElem?_map] at h ⊢
      cases hd : ds[i]? with
      | none => rw [hd] at h; cases h
      | some d' =>
        rw [hd] at h
        cases h
        obtain ⟨v, hv, q⟩ := r.get hd
        exact ⟨v, by rw [hv]; rfl, q⟩
    · rw [List.getElem?_append_right (by simpa using hi)] at h
      simp [List.getElem?_replicate] at h
theorem fn_m {x qual : Str} {st : Stmt} {f : Addr} {fd : FuncData} {N ps : List Str} {k : Nat} {es : SV} (F : Fun K x qual st f fd) (S : FnScope N ps (defScope st))
    (hb : ∀ (cdv : Value) (A : Around) (outer : List Env) (s : Shared) (H : Hp) (E : XK), Room k (A.deeper (envOfC qual (defScope st) s.heap.objs.size f cdv)) → PSs (cxOf CX0 P w K mg base N qual (defScope st) f cdv A outer s H E).nox (defBody st) (tDS K es)) :
    FnOk P w K mg base CX0 (k + 1) f fd ps (spM K (runF N.length ps.length es)) := by
  refine F.ok S (fun vs H Q E h => ?_) (fun cdv A outer s H vs Q E hr h => ?_)
  · obtain ⟨W, ds, d, μ', _, _, r, e, _⟩ := h
    unfold runF at e
    split at e
    · rename_i hl; rw [← r.length]; exact hl
    · cases e
  · obtain ⟨W, ds, d, μ', rfl, ok, r, e, q⟩ := h
    refine ⟨_, hb cdv A outer s W.H E hr, ?_⟩
    unfold runF at e
    split at e
    · obtain ⟨⟨o, Γ', μ2⟩, e1, e⟩ := bnd e
      refine ⟨W, _, o, Γ', μ2, rfl, ok, env_start r, e1, fun W' σ' hμ ok' s' en' => ?_⟩
      cases o with
      | rt z => cases e; exact fun v rv => q v W' hμ ok' s' rv
      | nx => cases e; exact q _ W' hμ ok' s' .non
      | bk => cases e
      | ct => cases e
    · cases e
end
section
variable {K : PySem.W.Frag} {W W' : Wd} {n : Nat}
end
end L3
set_option Elab.async false
set_option linter.all false
set_option maxRecDepth 100000
namespace L3
open PySem PySem.Spec L2
section
variable {X : Cx} {K : PySem.W.Frag} {a b c e : Expr} {ea eb ec : EV} {pos p : Pos}
theorem R2A.or {r r' : R2} {f g h : D → D → M → Option (D × M)} (ra : R2A K r f) (rb : R2A K r' g) (hh : ∀ x y μ z, h x y μ = some z → f x y μ = some z ∨ g x y μ = some z) : R2A K (fun x y H Q => r x y H Q ∨ r' x y H Q) h := by
  intro W x y d e z μ' Q ok r1 r2 hf q
  rcases hh _ _ _ _ hf with hf | hf
  · exact .inl (ra W x y d e z μ' Q ok r1 r2 hf q)
  · exact .inr (rb W x y d e z μ' Q ok r1 r2 hf q)
theorem ra_cat : R2A K rCat fCat := by
  intro W x y d e z μ' Q ok r1 r2 hf q
  obtain ⟨xs, hx, hf⟩ := bnd hf
  obtain ⟨ys, hy, hf⟩ := bnd hf
  split at hf
  · rename_i hl
    cases hf
    obtain ⟨a, vs, rfl, ha, hv⟩ := wlOf_at ok hx r1
    obtain ⟨b, us, rfl, hb, hu⟩ := wlOf_at ok hy r2
    exact ⟨a, b, vs, us, rfl, rfl, ha, hb, le_line (by rw [← hv.length, ← hu.length]; omega), fun p hp => q _ (W.lay p (.lst (vs ++ us))) rfl (ok_lay ok hp) (step_lay hp) (dr_lst ok hp (hv.append hu))⟩
  · cases hf
theorem ra_rep : R2A K rRep fRep := by
  intro W x y d e z μ' Q ok r1 r2 hf q
  obtain ⟨xs, hx, hf⟩ := bnd hf
  split at hf
  · split at hf
    · rename_i hl
      cases hf
      cases r2
      obtain ⟨a, vs, rfl, ha, hv⟩ := wlOf_at ok hx r1
      exact ⟨a, _, vs, rfl, rfl, ha, by omega, by omega, le_line (by rw [← hv.length]; omega), fun p hp => q _ (W.lay p _) rfl (ok_lay ok hp) (step_lay hp) (dr_lst ok hp (hv.rep _))⟩
    · cases hf
  · cases hf
def fCatT (x y : D) (μ : M) : Option (D × M) := match x with
  | .tup xs => (tpOf y).bind fun ys => if xs ≠ [] ∧ xs.length + ys.length ≤ 1000000 then some (.tup (xs ++ ys), μ) else none
  | _ => none
instance {α : Type} {xs : List α} : Decidable (xs ≠ []) := by cases xs <;> simp <;> infer_instance
theorem ra_catT : R2A K (rCatT K) fCatT := by
  intro W x y d e z μ' Q ok r1 r2 hf q
  unfold fCatT at hf
  split at hf
  · rename_i xs
    obtain ⟨ys, hy, hf⟩ := bnd hf
    split at hf
    case isFalse => cases hf
    rename_i hl
    cases hf
    have rr := r1
    obtain ⟨a, vs, rfl, ha, hv⟩ := tpOf_at (ds := xs) rfl r1
    obtain ⟨b, us, rfl, hb, hu⟩ := tpOf_at hy r2
    refine ⟨a, b, vs, us, rfl, rfl, ha, hb, fun z => ?_, le_line (by rw [← hv.length, ← hu.length]; omega), fun z => ?_, fun _ p hp => q _ (W.lay p (.tup (vs ++ us))) rfl (ok_lay ok hp) (step_lay hp) (dr_tup ok hp (hv.append hu))⟩
    · have := hv.length
      rw [z] at this
      exact hl.1 (List.length_eq_zero_iff.mp this)
    · have h0 := hu.length
      rw [z] at h0
      have h1 := List.length_eq_zero_iff.mp h0
      subst h1
      refine q _ W rfl ok .refl ?_
      rw [List.append_nil]
      exact rr
  · cases hf
def fPlus (x y : D) (μ : M) : Option (D × M) := match x with
  | .int i => match y with
    | .int j => some (.int (i + j), μ)
    | _ => none
  | .tup _ => fCatT x y μ
  | _ => fCat x y μ
theorem x_plus (ha : PE X a (tD K ea)) (hb : PE X b (tD K eb)) (hK : X.K = K := by rfl) : PE X (.BinOp a .Add b pos) (tD K (v2 fPlus ea eb)) := by
  subst hK
  refine x_op (op_add.or (op_cat.or op_catT)) ((ra_I0 (h := fun i j => .int (i + j)) fun _ _ _ => .int _).or (ra_cat.or ra_catT (h := fun x y μ => match x with | .tup _ => fCatT x y μ | _ => fCat x y μ) fun x y μ z h => ?_) fun x y μ z h => ?_) ha hb
  · split at h
    · exact .inr h
    · exact .inl h
  · unfold fPlus at h
    split at h
    · split at h
      · exact .inl h
      · cases h
    · exact .inr h
    · rename_i h1 h2
      refine .inr ?_
      split
      · exact absurd rfl (h2 _)
      · exact h
def fTimes (x y : D) (μ : M) : Option (D × M) := match x with
  | .int i => match y with
    | .int j => if CMul i j then some (.int (i * j), μ) else none
    | _ => none
  | _ => fRep x y μ
theorem x_times (ha : PE X a (tD K ea)) (hb : PE X b (tD K eb)) : PE X (.BinOp a .Mult b pos) (tD K (v2 fTimes ea eb)) := by
  refine x_op (op_mul.or op_rep) ((ra_I (C := CMul) (h := fun i j => .int (i * j)) fun _ _ _ => .int _).or ra_rep fun x y μ z h => ?_) ha hb
  unfold fTimes at h
  split at h
  · split at h
    · exact .inl h
    · cases h
  · exact .inr h
def vChain (f g : D → D → M → Option (D × M)) (ea eb ec : EV) : EV := fun Γ μ => (ea Γ μ).bind fun p => (eb Γ p.2).bind fun q => (f p.1 q.1 q.2).bind fun t => match t.1 with
  | .bl true => (ec Γ t.2).bind fun r => g q.1 r.1 r.2
  | .bl false => some (.bl false, t.2)
  | _ => none
theorem vChain_imp {r r' : R2} {f g : D → D → M → Option (D × M)} (ra : R2A K r f) (rb : R2A K r' g) : ∀ σ H Q, tD K (vChain f g ea eb ec) σ H Q → tChain r r' (tD K ea) (tD K eb) (tD K ec) σ H Q := fun σ H Q h => by
  obtain ⟨W, Γ, d, μ', rfl, ok, en, e, q⟩ := h
  obtain ⟨p1, e1, e⟩ := bnd e
  obtain ⟨p2, e2, e⟩ := bnd e
  obtain ⟨p3, e3, e⟩ := bnd e
  refine ⟨W, Γ, p1.1, p1.2, rfl, ok, en, e1, fun x W1 hμ ok1 s1 r1 => ⟨W1, Γ, p2.1, p2.2, rfl, ok1, en.step ok s1, by rw [hμ]; exact e2, fun y W2 hμ2 ok2 s2 r2 => ?_⟩⟩
  refine ra W2 x y _ _ _ _ _ ok2 (r1.step ok1 s2) r2 (by rw [hμ2]; exact e3) fun v W3 hμ3 ok3 s3 r3 => ?_
  split at e
  · rename_i hp; rw [hp] at r3; cases r3
    obtain ⟨p4, e4, e⟩ := bnd e
    refine ⟨true, rfl, iteT ⟨W3, Γ, p4.1, p4.2, rfl, ok3, ((en.step ok s1).step ok1 s2).step ok2 s3, by rw [hμ3]; exact e4, fun z W4 hμ4 ok4 s4 r4 => ?_⟩⟩
    exact rb W4 y z _ _ _ _ _ ok4 ((r2.step ok2 s3).step ok3 s4) r4 (by rw [hμ4]; exact e) fun v5 W5 hμ5 ok5 s5 r5 => q v5 W5 hμ5 ok5 (s1.trans (s2.trans (s3.trans (s4.trans s5)))) r5
  · rename_i hp; rw [hp] at r3; cases r3; cases e
    exact ⟨false, rfl, iteF (q _ W3 hμ3 ok3 (s1.trans (s2.trans s3)) (.bl _))⟩
  · cases e
theorem x_chainT {op op' : CmpOp} {r r' : R2} {f g : D → D → M → Option (D × M)} (ho : OpR X (compareOp op) r) (ra : R2A K r f) (ho' : OpR X (compareOp op') r') (rb : R2A K r' g) (ha : PE X a (tD K ea)) (hb : PE X b (tD K eb)) (hc : PE X c (tD K ec))
    (hm : lastMarks [op, op'] [b, c] = false := by with_unfolding_all rfl) : PT X (.Compare a [op, op'] [b, c] pos) (tDB K (vT (vChain f g ea eb ec))) := PT_imp (pt_chain ho ho' ha hb hc hm) (vT_imp (vChain_imp ra rb))
theorem ra_le : R2A K (rI0 fun i j => .bl (decide (i ≤ j))) fLe := ra_I0 fun _ _ _ => .bl _
end
section
variable {X : Cx} {K : PySem.W.Frag} {ea eb : EV} {pos p : Pos}
def enumD (ds : List D) : List D := ds.zipIdx.map fun x => D.tup [.int (x.2 : Nat), x.1]
def ivEn (ea : EV) : IV := fun Γ μ => (ea Γ μ).bind fun p => (lsC p.2 p.1).bind fun s => some ((enumD s.1, s.2), p.2)
def zipD : List D → List D → List D
  | x :: xs, y :: ys => .tup [x, y] :: zipD xs ys
  | _, _ => []
def ivZ (ea eb : EV) : IV := fun Γ μ => (ea Γ μ).bind fun p => (eb Γ p.2).bind fun q => match p.1, q.1 with
  | .lst xs, .lst ys => some ((zipD xs ys, none), q.2)
  | _, _ => none
end
end L3
set_option Elab.async false
set_option linter.all false
set_option maxRecDepth 100000
namespace L3
open PySem PySem.Spec L2
noncomputable def innerG (c : Ck) (g : GV) (tc : BV) (te : EV) : List D → G → M → Option (List D × G × M)
  | [], Γ, μ => some ([], Γ, μ)
  | d :: r, Γ, μ => (g d Γ μ).bind fun p => (tc p.1 p.2).bind fun t => if t.1 = true then (te p.1 t.2).bind fun v => chk (ckOf c v.2) ((innerG c g tc te r p.1 v.2).bind fun q => some (v.1 :: q.1, q.2)) else chk (ckOf c t.2) (innerG c g tc te r p.1 t.2)
noncomputable def compG2 (c : Ck) (g : GV) (tc : BV) (iv2 : IV) (g2 : GV) (tc2 : BV) (te : EV) : List D → G → M → Option (List D × M)
  | [], _, μ => some ([], μ)
  | d :: r, Γ, μ => (g d Γ μ).bind fun p => (tc p.1 p.2).bind fun t => if t.1 = true then (iv2 p.1 t.2).bind fun s => (innerG s.1.2 g2 tc2 te s.1.1 p.1 s.2).bind fun q => chk (ckOf c q.2.2) ((compG2 c g tc iv2 g2 tc2 te r q.2.1 q.2.2).bind fun z => some (q.1 ++ z.1, z.2)) else chk (ckOf c t.2) (compG2 c g tc iv2 g2 tc2 te r p.1 t.2)
section
variable {X : Cx} {K : PySem.W.Frag} {N' own : List Str} {cap : List (Str × Nat)} {scope : Scope} {tg iter elt tg2 iter2 : Expr} {ifs ifs2 : List Expr} {pos : Pos} {iv iv2 : IV} {g g2 : GV} {tc tc2 : BV} {te : EV}
theorem inner_turns {W : Wd} {J : It} {its : List D} {c : Ck} {Γ0 : G} {σ0 : St} {done0 rs : List D} {ys0 : List V} {Γ' : G} {μ' : M} {p : Addr} {Z : St → Hp → Prop} (ok : Ok K W) (hp : W.hid p) (hy : W.H p = some (.lst ys0)) (rd0 : DRs K W done0 ys0) (jr : JR K W J its c) (en : EnvR K W Γ0 σ0)
    (e : innerG c g tc te its Γ0 W.μ = some (rs, Γ', μ')) (hl : done0.length + rs.length ≤ 1000000) (hZ : ∀ W' σ' ys, W'.μ = μ' → Ok K W' → StepB p W W' → W'.hid p → W'.H p = some (.lst ys) → DRs K W' (done0 ++ rs) ys → EnvR K W' Γ' σ' → Z σ' W'.H) :
    TurnsIn J (tDG K g) (tDB K tc) (tD K te) p σ0 W.H Z := by
  obtain ⟨c1, ds, vs, r1, hj⟩ := jr
  refine ⟨fun i m σ2 H2 => m = its.length - i ∧ i ≤ its.length ∧ ∃ W2 Γ2 done rest ys, W2.H = H2 ∧ Ok K W2 ∧ StepB p W W2 ∧ W2.hid p ∧ W2.H p = some (.lst ys) ∧ DRs K W2 done ys ∧ EnvR K W2 Γ2 σ2 ∧ ckOf c W2.μ ∧ innerG c g tc te (its.drop i) Γ2 W2.μ = some (rest, Γ', μ') ∧ done ++ rest = done0 ++ rs, ?_, ?_⟩
  · exact ⟨its.length, by simp, Nat.zero_le _, W, Γ0, done0, rs, ys0, rfl, ok, Step.refl.b, hp, hy, rd0, en, c1, e, rfl⟩
  rintro i m σ2 H2 ⟨rfl, hi, W2, Γ2, done, rest, ys, rfl, ok2, s2, hp2, hy2, rd, en2, c2, e2, ed⟩
  have rj : DRs K W2 ds vs := r1.stepB ok hp ⟨_, hy⟩ s2
  obtain ⟨hstop, hgo⟩ := hj W2 i ok2 c2 rj
  by_cases hlt : i < its.length
  · refine .inr ?_
    have hd : its[i]? = some its[i] := List.getElem?_eq_getElem hlt
    obtain ⟨h1, h2⟩ := hgo _ hd
    rw [List.drop_eq_getElem_cons hlt] at e2
    obtain ⟨pg, e3, e2⟩ := bnd e2
    obtain ⟨pt, e4, e2⟩ := bnd e2
    refine ⟨h1, fun σ' H' => i + 1 ≤ its.length ∧ ∃ W2 Γ2 done rest ys, W2.H = H' ∧ Ok K W2 ∧ StepB p W W2 ∧ W2.hid p ∧ W2.H p = some (.lst ys) ∧ DRs K W2 done ys ∧ EnvR K W2 Γ2 σ' ∧ ckOf c W2.μ ∧ innerG c g tc te (its.drop (i + 1)) Γ2 W2.μ = some (rest, Γ', μ') ∧ done ++ rest = done0 ++ rs, fun σ' H' hN => ⟨its.length - (i + 1), by omega, rfl, hN⟩, fun x H' hy => ?_⟩
    obtain ⟨W3, rfl, hμ3, ok3, s3, r3⟩ := h2 x H' hy
    refine ⟨W3, Γ2, its[i], pg.1, pg.2, rfl, ok3, en2.step ok2 s3, r3, by rw [hμ3]; exact e3, fun W4 σ4 hμ4 ok4 s4 en4 => ⟨W4, pg.1, pt.1, pt.2, rfl, ok4, en4, by rw [hμ4]; exact e4, fun W5 hμ5 ok5 s5 => ?_⟩⟩
    have s25 := s3.trans (s4.trans s5)
    split at e2
    · rename_i ht
      obtain ⟨pv, e5, e2⟩ := bnd e2
      obtain ⟨c5, e2⟩ := chk_some e2
      obtain ⟨⟨q1, Γq, μq⟩, e6, e2⟩ := bnd e2
      cases e2
      refine ite2 (fun _ => ?_) (fun n => absurd ht n)
      refine ⟨W5, pg.1, pv.1, pv.2, rfl, ok5, en4.step ok4 s5, by rw [hμ5]; exact e5, fun v W6 hμ6 ok6 s6 r6 => ?_⟩
      have s26 := s25.trans s6
      have hp6 : W6.hid p := by rw [s26.hid]; exact hp2
      have hy6 : W6.H p = some (.lst ys) := s26.keep _ _ hy2 (nrl_hid ok2 hp2)
      have rd6 := rd.step ok2 s26
      have hlen : ys.length < 1000000 := by
        have h1 := congrArg List.length ed
        simp only [List.length_append, List.length_cons] at h1
        rw [← rd.length]; omega
      refine ⟨ys, hy6, lt_line (by omega), hlt, W6.re p (.lst (ys ++ [v])), pg.1, done ++ [pv.1], q1, ys ++ [v], rfl, ok_re ok6 hp6 ⟨_, hy6⟩, (s2.trans s26.b).trans stepB_re, hp6, upd_same, ?_, (((en4.step ok4 s5).step ok5 s6).stepB ok6 hp6 ⟨_, hy6⟩ stepB_re), by show ckOf c W6.μ; rw [hμ6]; exact c5, by show innerG c g tc te _ _ W6.μ = _; rw [hμ6]; exact e6, by simpa using ed⟩
      exact (rd6.append (.cons r6 .nil)).stepB ok6 hp6 ⟨_, hy6⟩ stepB_re
    · rename_i ht
      obtain ⟨c5, e2⟩ := chk_some e2
      refine ite2 (fun n => absurd n ht) (fun _ => ?_)
      exact ⟨hlt, W5, pg.1, done, rest, ys, rfl, ok5, s2.trans s25.b, by rw [s25.hid]; exact hp2, s25.keep _ _ hy2 (nrl_hid ok2 hp2), rd.step ok2 s25, en4.step ok4 s5, by rw [hμ5]; exact c5, by rw [hμ5]; exact e2, ed⟩
  · have e' : i = its.length := by omega
    subst e'
    rw [List.drop_eq_nil_of_le (Nat.le_refl _)] at e2
    cases e2
    rw [List.append_nil] at ed
    subst ed
    exact .inl ⟨hstop (Nat.le_refl _), hZ W2 σ2 ys rfl ok2 s2 hp2 hy2 rd en2⟩
theorem comp_turns2 {W1 : Wd} {J : It} {its : List D} {c : Ck} {Γ0 : G} {σ0 : St} {rs : List D} {μ' : M} {p : Addr} {Z : Hp → Prop} (ok1 : Ok K W1) (hp : W1.H p = none) (jr : JR K W1 J its c) (en : EnvR K W1 Γ0 σ0) (hl : rs.length ≤ 1000000)
    (e : compG2 c g tc iv2 g2 tc2 te its Γ0 W1.μ = some (rs, μ')) (hZ : ∀ W' ys, W'.μ = μ' → Ok K W' → StepB p (W1.hide p (.lst [])) W' → W'.hid p → W'.H p = some (.lst ys) → DRs K W' rs ys → Z W'.H) :
    CompTurns2 J (tDG K g) (tDB K tc) (tDI K iv2) (tDG K g2) (tDB K tc2) (tD K te) p σ0 W1.H Z := by
  obtain ⟨c1, ds, vs, r1, hj⟩ := jr
  refine ⟨fun i m σ2 H2 => m = its.length - i ∧ i ≤ its.length ∧ ∃ W2 Γ2 done rest ys, W2.H = H2 ∧ Ok K W2 ∧ StepB p (W1.hide p (.lst [])) W2 ∧ W2.hid p ∧ W2.H p = some (.lst ys) ∧ DRs K W2 done ys ∧ EnvR K W2 Γ2 σ2 ∧ ckOf c W2.μ ∧ compG2 c g tc iv2 g2 tc2 te (its.drop i) Γ2 W2.μ = some (rest, μ') ∧ done ++ rest = rs, ?_, ?_⟩
  · exact ⟨its.length, by simp, Nat.zero_le _, W1.hide p (.lst []), Γ0, [], rs, [], rfl, ok_hide ok1 hp, ⟨fun _ _ h => h, fun _ h => .inl h, fun _ _ _ h _ => h, rfl, fun _ h => h⟩, .inl rfl, upd_same, .nil, en.hide hp ok1, c1, e, rfl⟩
  rintro i m σ2 H2 ⟨rfl, hi, W2, Γ2, done, rest, ys, rfl, ok2, s2, hp2, hy2, rd, en2, c2, e2, ed⟩
  have rj : DRs K W2 ds vs := (r1.hide hp ok1).stepB (ok_hide ok1 hp) (.inl rfl) ⟨[], upd_same⟩ s2
  obtain ⟨hstop, hgo⟩ := hj W2 i ok2 c2 rj
  by_cases hlt : i < its.length
  · refine .inr ?_
    have hd : its[i]? = some its[i] := List.getElem?_eq_getElem hlt
    obtain ⟨h1, h2⟩ := hgo _ hd
    rw [List.drop_eq_getElem_cons hlt] at e2
    obtain ⟨pg, e3, e2⟩ := bnd e2
    obtain ⟨pt, e4, e2⟩ := bnd e2
    refine ⟨h1, fun σ' H' => i + 1 ≤ its.length ∧ ∃ W2 Γ2 done rest ys, W2.H = H' ∧ Ok K W2 ∧ StepB p (W1.hide p (.lst [])) W2 ∧ W2.hid p ∧ W2.H p = some (.lst ys) ∧ DRs K W2 done ys ∧ EnvR K W2 Γ2 σ' ∧ ckOf c W2.μ ∧ compG2 c g tc iv2 g2 tc2 te (its.drop (i + 1)) Γ2 W2.μ = some (rest, μ') ∧ done ++ rest = rs, fun σ' H' hN => ⟨its.length - (i + 1), by omega, rfl, hN⟩, fun x H' hy => ?_⟩
    obtain ⟨W3, rfl, hμ3, ok3, s3, r3⟩ := h2 x H' hy
    refine ⟨W3, Γ2, its[i], pg.1, pg.2, rfl, ok3, en2.step ok2 s3, r3, by rw [hμ3]; exact e3, fun W4 σ4 hμ4 ok4 s4 en4 => ⟨W4, pg.1, pt.1, pt.2, rfl, ok4, en4, by rw [hμ4]; exact e4, fun W5 hμ5 ok5 s5 => ?_⟩⟩
    have s25 := s3.trans (s4.trans s5)
    split at e2
    · rename_i ht
      obtain ⟨⟨⟨its2, k2⟩, μi⟩, e5, e2⟩ := bnd e2
      obtain ⟨⟨q1, Γq, μq⟩, e6, e2⟩ := bnd e2
      obtain ⟨c6, e2⟩ := chk_some e2
      obtain ⟨z, e7, e2⟩ := bnd e2
      cases e2
      refine ite2 (fun _ => ?_) (fun n => absurd ht n)
      refine ⟨W5, pg.1, its2, k2, μi, rfl, ok5, en4.step ok4 s5, by rw [hμ5]; exact e5, fun J2 W6 hμ6 ok6 s6 jr6 => ?_⟩
      have s26 := s25.trans s6
      have hp6 : W6.hid p := by rw [s26.hid]; exact hp2
      have hy6 : W6.H p = some (.lst ys) := s26.keep _ _ hy2 (nrl_hid ok2 hp2)
      have hlen : done.length + q1.length ≤ 1000000 := by
        have h1 := congrArg List.length ed
        simp only [List.length_append] at h1
        omega
      refine inner_turns ok6 hp6 hy6 (rd.step ok2 s26) jr6 ((en4.step ok4 s5).step ok5 s6) (by rw [hμ6]; exact e6) hlen fun W7 σ7 ys7 hμ7 ok7 s7 hp7 hy7 rd7 en7 => ?_
      exact ⟨hlt, W7, Γq, done ++ q1, z.1, ys7, rfl, ok7, (s2.trans s26.b).trans s7, hp7, hy7, rd7, en7, by rw [hμ7]; exact c6, by rw [hμ7]; exact e7, by simpa using ed⟩
    · rename_i ht
      obtain ⟨c5, e2⟩ := chk_some e2
      refine ite2 (fun n => absurd n ht) (fun _ => ?_)
      exact ⟨hlt, W5, pg.1, done, rest, ys, rfl, ok5, s2.trans s25.b, by rw [s25.hid]; exact hp2, s25.keep _ _ hy2 (nrl_hid ok2 hp2), rd.step ok2 s25, en4.step ok4 s5, by rw [hμ5]; exact c5, by rw [hμ5]; exact e2, ed⟩
  · have e' : i = its.length := by omega
    subst e'
    rw [List.drop_eq_nil_of_le (Nat.le_refl _)] at e2
    cases e2
    rw [List.append_nil] at ed
    subst ed
    exact .inl ⟨hstop (Nat.le_refl _), hZ W2 ys rfl ok2 s2 hp2 hy2 rd⟩
noncomputable def vComp2 (own : List Str) (cap : List (Str × Nat)) (iv : IV) (g : GV) (tc : BV) (iv2 : IV) (g2 : GV) (tc2 : BV) (te : EV) : EV := fun Γ μ => (iv Γ μ).bind fun s => (compG2 s.1.2 g tc iv2 g2 tc2 te s.1.1 (capG own cap Γ) s.2).bind fun q => if q.1.length ≤ 1000000 then some (.lst q.1, q.2) else none
theorem vComp2_at {W : Wd} {Γ : G} {σ : St} {d : D} {μ' : M} (ok : Ok K W) (en : EnvR K W Γ σ) (e : vComp2 own cap iv g tc iv2 g2 tc2 te Γ W.μ = some (d, μ')) {Z : Addr → Hp → Prop} (q : ∀ v W', W'.μ = μ' → Ok K W' → Step W W' → DR K W' d v → ∀ p, v = .ref p → Z p W'.H) :
    tDI K iv σ W.H fun J H1 => ∀ p, H1 p = none → CompTurns2 J (tDG K g) (tDB K tc) (tDI K iv2) (tDG K g2) (tDB K tc2) (tD K te) p (capSt own cap σ) H1 (Z p) := by
  obtain ⟨⟨⟨its, c⟩, μ1⟩, e1, e⟩ := bnd e
  refine ⟨W, Γ, its, c, μ1, rfl, ok, en, e1, fun J W1 hμ1 ok1 s1 jr p hp => ?_⟩
  obtain ⟨⟨rs, μ2⟩, e2, e⟩ := bnd e
  split at e
  · rename_i hl
    cases e
    refine comp_turns2 ok1 hp jr ((en.step ok s1).cap own cap) hl (by rw [hμ1]; exact e2) fun W' ys hμ' ok' s' hp' hy r => ?_
    obtain ⟨a1, a2, a3⟩ := comp_data s1 hp ok1 ok' s' hp' hy r
    exact q _ (W'.show W1.hid) hμ' a1 a2 a3 p rfl
  · cases e
theorem xs_setComp2 {i : Nat} {y : Str} {py spos : Pos} (hN : X.N.Nodup) (hi' : X.N[i]? = some y) (hy : X.env.scope.names.lookup y = some .local) (S : CompScope X N' own cap scope) (hi : PI X tg iter (tDI K iv))
    (hg : ∀ cl C s₀ H₀ ex, PG (compCx X N' scope cl C s₀ H₀ ex) tg (tDG K g)) (ht : ∀ cl C s₀ H₀ ex, PIf (compCx X N' scope cl C s₀ H₀ ex) ifs (tDB K tc))
    (hi2 : ∀ cl C s₀ H₀ ex, PI (compCx X N' scope cl C s₀ H₀ ex) tg2 iter2 (tDI K iv2)) (hg2 : ∀ cl C s₀ H₀ ex, PG (compCx X N' scope cl C s₀ H₀ ex) tg2 (tDG K g2)) (ht2 : ∀ cl C s₀ H₀ ex, PIf (compCx X N' scope cl C s₀ H₀ ex) ifs2 (tDB K tc2))
    (he : ∀ cl C s₀ H₀ ex, PE (compCx X N' scope cl C s₀ H₀ ex) elt (tD K te))
    (hsw : swapsWith (.ListComp elt [⟨tg, iter, ifs, 0⟩, ⟨tg2, iter2, ifs2, 0⟩] scope pos) (some (.Name y py)) spos.line X.env = pure true := by rfl)
    (hx : ∀ e s, X.xe e s → False := by exact fun _ _ z => z) (hc : X.calm = true := by rfl) (hs : ∀ x, foldedSetIterable iter X.env x = pure x := by intro _; rfl) (hs2 : ∀ cl C x, foldedSetIterable iter2 (compEnvC scope cl C X.env) x = pure x := by intro _ _ _; rfl) :
    PS X (.Assign [.Name y py] (.ListComp elt [⟨tg, iter, ifs, 0⟩, ⟨tg2, iter2, ifs2, 0⟩] scope pos) spos) (tDS K (sAsg (vComp2 own cap iv g tc iv2 g2 tc2 te) (gvName i))) := PS_imp (ps_setComp2 hN hi' hy S hi hg ht hi2 hg2 ht2 he hsw hx hc hs hs2) fun D σ H h => by
  obtain ⟨W, Γ, o, Γ', μ', rfl, ok, en, e, q⟩ := h
  obtain ⟨p1, e1, e⟩ := bnd e
  cases e
  exact vComp2_at (Z := fun p H2 => D.nx (σ.set i (some (.ref p))) H2) ok en e1 fun v W' h1 h2 h3 h4 p hv => by subst hv; exact q W' _ h1 h2 h3 ((en.step ok h3).set h4 i)
end
end L3
set_option Elab.async false
set_option linter.all false
set_option maxRecDepth 100000
namespace L3
open PySem PySem.Spec L2
section
variable {n : Nat} {μ : M}
theorem py_lst {xs : List D} : py (n + 1) μ (.lst xs) = (optAll (py n μ) xs).bind fun ys => some (.list ys) := rfl
theorem py_tup {xs : List D} : py (n + 1) μ (.tup xs) = (optAll (py n μ) xs).bind fun ys => some (.tuple ys) := rfl
theorem bs {α β : Type} {a : α} {f : α → Option β} : (some a).bind f = f a := rfl
theorem optAll_map {α β γ : Type} {f : β → Option γ} {g : α → β} {h : α → γ} : ∀ {l : List α}, (∀ x ∈ l, f (g x) = some (h x)) → optAll f (l.map g) = some (l.map h)
  | [], _ => rfl
  | x :: r, e => by
    have e1 := e x (by simp)
    have e2 := optAll_map (l := r) fun y hy => e y (by simp [hy])
    simp only [List.map_cons, optAll, e1, e2, bs]
end
section
variable {Γ : G} {μ μ1 μ2 : M} {ea eb : EV} {x y d : D} {f : D → D → M → Option (D × M)} {f1 : D → M → Option (D × M)} {sa sb : SV} {i : Nat}
theorem e_var (h : Γ[i]? = some (some d)) : vVar i Γ μ = some (d, μ) := by unfold vVar; rw [h]
theorem e_2 (h1 : ea Γ μ = some (x, μ1)) (h2 : eb Γ μ1 = some (y, μ2)) : v2 f ea eb Γ μ = f x y μ2 := by unfold v2; rw [h1, bs, h2, bs]
theorem e_1 (h1 : ea Γ μ = some (x, μ1)) : v1 f1 ea Γ μ = f1 x μ1 := by unfold v1; rw [h1, bs]
end
def kSeq (b : SV) : Option (Out × G × M) → Option (Out × G × M)
  | some (.nx, Γ, μ) => b Γ μ
  | x => x
@[simp] theorem kSeq_nx {b : SV} {Γ : G} {μ : M} : kSeq b (some (.nx, Γ, μ)) = b Γ μ := rfl
@[simp] theorem kSeq_rt {b : SV} {d : D} {Γ : G} {μ : M} : kSeq b (some (.rt d, Γ, μ)) = some (.rt d, Γ, μ) := rfl
@[simp] theorem kSeq_bk {b : SV} {Γ : G} {μ : M} : kSeq b (some (.bk, Γ, μ)) = some (.bk, Γ, μ) := rfl
@[simp] theorem kSeq_ct {b : SV} {Γ : G} {μ : M} : kSeq b (some (.ct, Γ, μ)) = some (.ct, Γ, μ) := rfl
@[simp] theorem sSeq_eq {a b : SV} {Γ : G} {μ : M} : sSeq a b Γ μ = kSeq b (a Γ μ) := by
  unfold sSeq kSeq
  cases h : a Γ μ with
  | none => rfl
  | some o => obtain ⟨o1, Γ1, μ1⟩ := o; cases o1 <;> rfl
section
variable {Γ : G} {μ μ1 : M} {ea eb ec : EV} {ba bb : BV} {el : LV} {sa sb : SV} {i j : Nat} {d x y : D} {ds : List D} {b : Bool}
@[simp] theorem vVar_eq : vVar i Γ μ = match Γ[i]? with
  | some (some d) => some (d, μ)
  | _ => none := rfl
@[simp] theorem vC_eq : vC d Γ μ = some (d, μ) := rfl
def kV1 (f : D → M → Option (D × M)) : Option (D × M) → Option (D × M)
  | some (x, μ) => f x μ
  | none => none
@[simp] theorem kV1_s {f : D → M → Option (D × M)} : kV1 f (some (x, μ)) = f x μ := rfl
@[simp] theorem v1_eq {f : D → M → Option (D × M)} : v1 f ea Γ μ = kV1 f (ea Γ μ) := by
  unfold v1 kV1; cases ea Γ μ <;> rfl
def kV2b (f : D → D → M → Option (D × M)) (x : D) : Option (D × M) → Option (D × M)
  | some (y, μ) => f x y μ
  | none => none
@[simp] theorem kV2b_s {f : D → D → M → Option (D × M)} : kV2b f x (some (y, μ)) = f x y μ := rfl
def kV2 (f : D → D → M → Option (D × M)) (eb : EV) (Γ : G) : Option (D × M) → Option (D × M)
  | some (x, μ) => kV2b f x (eb Γ μ)
  | none => none
@[simp] theorem kV2_s {f : D → D → M → Option (D × M)} : kV2 f eb Γ (some (x, μ)) = kV2b f x (eb Γ μ) := rfl
@[simp] theorem v2_eq {f : D → D → M → Option (D × M)} : v2 f ea eb Γ μ = kV2 f eb Γ (ea Γ μ) := by
  unfold v2 kV2
  cases ea Γ μ with
  | none => rfl
  | some p => show (eb Γ p.2).bind _ = kV2b f p.1 (eb Γ p.2); cases eb Γ p.2 <;> rfl
def kT : Option (D × M) → Option (Bool × M)
  | some (.bl b, μ) => some (b, μ)
  | _ => none
@[simp] theorem kT_s : kT (some (.bl b, μ)) = some (b, μ) := rfl
@[simp] theorem vT_eq : vT ea Γ μ = kT (ea Γ μ) := by
  unfold vT kT
  cases ea Γ μ with
  | none => rfl
  | some p => obtain ⟨p1, p2⟩ := p; cases p1 <;> rfl
def kAnd (bb : BV) (Γ : G) : Option (Bool × M) → Option (Bool × M)
  | some (c, μ) => if c = true then bb Γ μ else some (false, μ)
  | none => none
@[simp] theorem kAnd_s {c : Bool} : kAnd bb Γ (some (c, μ)) = if c = true then bb Γ μ else some (false, μ) := rfl
@[simp] theorem bAnd_eq : bAnd ba bb Γ μ = kAnd bb Γ (ba Γ μ) := by unfold bAnd kAnd; cases ba Γ μ <;> rfl
def kOr (bb : BV) (Γ : G) : Option (Bool × M) → Option (Bool × M)
  | some (c, μ) => if c = true then some (true, μ) else bb Γ μ
  | none => none
@[simp] theorem kOr_s {c : Bool} : kOr bb Γ (some (c, μ)) = if c = true then some (true, μ) else bb Γ μ := rfl
@[simp] theorem bOr_eq : bOr ba bb Γ μ = kOr bb Γ (ba Γ μ) := by unfold bOr kOr; cases ba Γ μ <;> rfl
def kNot : Option (Bool × M) → Option (Bool × M)
  | some (c, μ) => some (!c, μ)
  | none => none
@[simp] theorem kNot_s {c : Bool} : kNot (some (c, μ)) = some (!c, μ) := rfl
@[simp] theorem bNot_eq : bNot ba Γ μ = kNot (ba Γ μ) := by unfold bNot kNot; cases ba Γ μ <;> rfl
def kIf (ea eb : EV) (Γ : G) : Option (Bool × M) → Option (D × M)
  | some (c, μ) => if c = true then ea Γ μ else eb Γ μ
  | none => none
@[simp] theorem kIf_s {c : Bool} : kIf ea eb Γ (some (c, μ)) = if c = true then ea Γ μ else eb Γ μ := rfl
@[simp] theorem vIf_eq : vIf ba ea eb Γ μ = kIf ea eb Γ (ba Γ μ) := by unfold vIf kIf; cases ba Γ μ <;> rfl
def kSIf (sa sb : SV) (Γ : G) : Option (Bool × M) → Option (Out × G × M)
  | some (c, μ) => if c = true then sa Γ μ else sb Γ μ
  | none => none
@[simp] theorem kSIf_s {c : Bool} : kSIf sa sb Γ (some (c, μ)) = if c = true then sa Γ μ else sb Γ μ := rfl
@[simp] theorem sIf_eq : sIf ba sa sb Γ μ = kSIf sa sb Γ (ba Γ μ) := by unfold sIf kSIf; cases ba Γ μ <;> rfl
def kVAnd (eb : EV) (Γ : G) : Option (D × M) → Option (D × M)
  | some (.bl c, μ) => if c = true then eb Γ μ else some (.bl false, μ)
  | _ => none
@[simp] theorem kVAnd_s {c : Bool} : kVAnd eb Γ (some (.bl c, μ)) = if c = true then eb Γ μ else some (.bl false, μ) := rfl
@[simp] theorem vAnd_eq : vAnd ea eb Γ μ = kVAnd eb Γ (ea Γ μ) := by
  unfold vAnd kVAnd
  cases ea Γ μ with
  | none => rfl
  | some p =>
    obtain ⟨p1, p2⟩ := p
    cases p1 with
    | bl c => cases c <;> rfl
    | _ => rfl
def kVOr (eb : EV) (Γ : G) : Option (D × M) → Option (D × M)
  | some (.bl c, μ) => if c = true then some (.bl true, μ) else eb Γ μ
  | _ => none
@[simp] theorem kVOr_s {c : Bool} : kVOr eb Γ (some (.bl c, μ)) = if c = true then some (.bl true, μ) else eb Γ μ := rfl
@[simp] theorem vOr_eq : vOr ea eb Γ μ = kVOr eb Γ (ea Γ μ) := by
  unfold vOr kVOr
  cases ea Γ μ with
  | none => rfl
  | some p =>
    obtain ⟨p1, p2⟩ := p
    cases p1 with
    | bl c => cases c <;> rfl
    | _ => rfl
@[simp] theorem lNil_eq : lNil Γ μ = some ([], μ) := rfl
def kLc2 (x : D) : Option (List D × M) → Option (List D × M)
  | some (r, μ) => some (x :: r, μ)
  | none => none
@[simp] theorem kLc2_s {r : List D} : kLc2 x (some (r, μ)) = some (x :: r, μ) := rfl
def kLc (el : LV) (Γ : G) : Option (D × M) → Option (List D × M)
  | some (x, μ) => kLc2 x (el Γ μ)
  | none => none
@[simp] theorem kLc_s : kLc el Γ (some (x, μ)) = kLc2 x (el Γ μ) := rfl
@[simp] theorem lCons_eq : lCons ea el Γ μ = kLc el Γ (ea Γ μ) := by
  unfold lCons kLc
  cases ea Γ μ with
  | none => rfl
  | some p => show (el Γ p.2).bind _ = kLc2 p.1 (el Γ p.2); cases el Γ p.2 <;> rfl
def kL (f : List D → M → Option (D × M)) : Option (List D × M) → Option (D × M)
  | some (r, μ) => f r μ
  | none => none
@[simp] theorem kL_s {f : List D → M → Option (D × M)} {r : List D} : kL f (some (r, μ)) = f r μ := rfl
@[simp] theorem vL_eq {f : List D → M → Option (D × M)} : vL f el Γ μ = kL f (el Γ μ) := by unfold vL kL; cases el Γ μ <;> rfl
@[simp] theorem sNx_eq : sNx Γ μ = some (.nx, Γ, μ) := rfl
@[simp] theorem sBk_eq : sBk Γ μ = some (.bk, Γ, μ) := rfl
@[simp] theorem sCt_eq : sCt Γ μ = some (.ct, Γ, μ) := rfl
def kEx (Γ : G) : Option (D × M) → Option (Out × G × M)
  | some (_, μ) => some (.nx, Γ, μ)
  | none => none
@[simp] theorem kEx_s : kEx Γ (some (x, μ)) = some (.nx, Γ, μ) := rfl
@[simp] theorem sExpr_eq : sExpr ea Γ μ = kEx Γ (ea Γ μ) := by unfold sExpr kEx; cases ea Γ μ <;> rfl
def kRt (Γ : G) : Option (D × M) → Option (Out × G × M)
  | some (x, μ) => some (.rt x, Γ, μ)
  | none => none
@[simp] theorem kRt_s : kRt Γ (some (x, μ)) = some (.rt x, Γ, μ) := rfl
@[simp] theorem sRet_eq : sRet ea Γ μ = kRt Γ (ea Γ μ) := by unfold sRet kRt; cases ea Γ μ <;> rfl
def kG : Option (G × M) → Option (Out × G × M)
  | some (Γ, μ) => some (.nx, Γ, μ)
  | none => none
@[simp] theorem kG_s : kG (some (Γ, μ)) = some (.nx, Γ, μ) := rfl
def kAs (g : GV) (Γ : G) : Option (D × M) → Option (Out × G × M)
  | some (x, μ) => kG (g x Γ μ)
  | none => none
@[simp] theorem kAs_s {g : GV} : kAs g Γ (some (x, μ)) = kG (g x Γ μ) := rfl
@[simp] theorem sAsg_eq {g : GV} : sAsg ea g Γ μ = kAs g Γ (ea Γ μ) := by
  unfold sAsg kAs
  cases ea Γ μ with
  | none => rfl
  | some p => show (g p.1 Γ p.2).bind _ = kG (g p.1 Γ p.2); cases g p.1 Γ p.2 <;> rfl
def kPar (i j : Nat) (Γ : G) : Option (List D × M) → Option (Out × G × M)
  | some ([v, w], μ) => some (.nx, (Γ.set i (some v)).set j (some w), μ)
  | _ => none
@[simp] theorem kPar_s : kPar i j Γ (some ([x, y], μ)) = some (.nx, (Γ.set i (some x)).set j (some y), μ) := rfl
@[simp] theorem sPar_eq : sPar i j el Γ μ = kPar i j Γ (el Γ μ) := by
  unfold sPar kPar
  cases el Γ μ with
  | none => rfl
  | some p =>
    obtain ⟨p1, p2⟩ := p
    match p1 with
    | [] => rfl
    | [_] => rfl
    | [_, _] => rfl
    | _ :: _ :: _ :: _ => rfl
def kAu2 (i : Nat) (Γ : G) : Option (D × M) → Option (Out × G × M)
  | some (x, μ) => some (.nx, Γ.set i (some x), μ)
  | none => none
@[simp] theorem kAu2_s : kAu2 i Γ (some (x, μ)) = some (.nx, Γ.set i (some x), μ) := rfl
def kAu (f : D → D → M → Option (D × M)) (i : Nat) (Γ : G) (x : D) : Option (D × M) → Option (Out × G × M)
  | some (y, μ) => kAu2 i Γ (f x y μ)
  | none => none
@[simp] theorem kAu_s {f : D → D → M → Option (D × M)} : kAu f i Γ x (some (y, μ)) = kAu2 i Γ (f x y μ) := rfl
@[simp] theorem sAug_eq {f : D → D → M → Option (D × M)} : sAug i f ea Γ μ = match Γ[i]? with
  | some (some x) => kAu f i Γ x (ea Γ μ)
  | _ => none := by
  unfold sAug
  cases hg : Γ[i]? with
  | none => rfl
  | some o =>
    cases o with
    | none => rfl
    | some x =>
      show (ea Γ μ).bind _ = kAu f i Γ x (ea Γ μ)
      cases ea Γ μ with
      | none => rfl
      | some p => show (f x p.1 p.2).bind _ = kAu2 i Γ (f x p.1 p.2); cases f x p.1 p.2 <;> rfl
@[simp] theorem gvName_eq : gvName i d Γ μ = some (Γ.set i (some d), μ) := rfl
@[simp] theorem gvNil_eq : gvNil [] Γ μ = some (Γ, μ) := rfl
def kGs (gs : GsV) (ds : List D) : Option (G × M) → Option (G × M)
  | some (Γ, μ) => gs ds Γ μ
  | none => none
@[simp] theorem kGs_s {gs : GsV} : kGs gs ds (some (Γ, μ)) = gs ds Γ μ := rfl
@[simp] theorem gvCons_eq {g : GV} {gs : GsV} : gvCons g gs (d :: ds) Γ μ = kGs gs ds (g d Γ μ) := by
  show (g d Γ μ).bind _ = _
  unfold kGs; cases g d Γ μ <;> rfl
@[simp] theorem gvTup_eq {n : Nat} {gs : GsV} : gvTup n gs (.tup ds) Γ μ = if ds.length = n then gs ds Γ μ else none := rfl
@[simp] theorem gvLst_eq {n : Nat} {gs : GsV} : gvLst n gs (.lst ds) Γ μ = if ds.length = n then gs ds Γ μ else none := rfl
def kOn (μ : M) (k : Nat) : Option (D × List D) → Option (D × M)
  | some (d, l) => some (d, μ.set k (some (.lst l)))
  | none => none
@[simp] theorem kOn_s {l : List D} : kOn μ i (some (d, l)) = some (d, μ.set i (some (.lst l))) := rfl
def kSb3 (Γ : G) : Option (D × M) → Option (G × M)
  | some (_, μ) => some (Γ, μ)
  | none => none
@[simp] theorem kSb3_s : kSb3 Γ (some (x, μ)) = some (Γ, μ) := rfl
def sbF (d : D) (j : Int) (ds : List D) : Option (D × List D) := (ixN ds.length j).bind fun jj => some (.non, ds.set jj d)
theorem sbF_at {j : Int} {jj : Nat} (h : ixN ds.length j = some jj) : sbF d j ds = some (.non, ds.set jj d) := by unfold sbF; rw [h]; rfl
@[simp] theorem sbF_0 : sbF d 0 (x :: ds) = some (.non, d :: ds) := by
  refine sbF_at (jj := 0) ?_
  unfold ixN; rw [if_pos (by omega), if_pos (by simp only [List.length_cons]; omega)]; rfl
@[simp] theorem sbF_1 : sbF d 1 (x :: y :: ds) = some (.non, x :: d :: ds) := by
  refine sbF_at (jj := 1) ?_
  unfold ixN; rw [if_pos (by omega), if_pos (by simp only [List.length_cons]; omega)]; rfl
@[simp] theorem sbF_2 {z : D} : sbF d 2 (x :: y :: z :: ds) = some (.non, x :: y :: d :: ds) := by
  refine sbF_at (jj := 2) ?_
  unfold ixN; rw [if_pos (by omega), if_pos (by simp only [List.length_cons]; omega)]; rfl
def kSb2 (d : D) (Γ : G) (o : D) : Option (D × M) → Option (G × M)
  | some (.int j, μ) => kSb3 Γ (onL o μ (sbF d j))
  | _ => none
@[simp] theorem kSb2_s {j : Int} : kSb2 d Γ x (some (.int j, μ)) = kSb3 Γ (onL x μ (sbF d j)) := rfl
def kSb (d : D) (ei : EV) (Γ : G) : Option (D × M) → Option (G × M)
  | some (o, μ) => kSb2 d Γ o (ei Γ μ)
  | none => none
@[simp] theorem kSb_s {ei : EV} : kSb d ei Γ (some (x, μ)) = kSb2 d Γ x (ei Γ μ) := rfl
@[simp] theorem gvSub_eq {eo ei : EV} : gvSub eo ei d Γ μ = kSb d ei Γ (eo Γ μ) := by
  unfold gvSub kSb
  cases eo Γ μ with
  | none => rfl
  | some p =>
    show (ei Γ p.2).bind _ = kSb2 d Γ p.1 (ei Γ p.2)
    cases ei Γ p.2 with
    | none => rfl
    | some q =>
      obtain ⟨q1, q2⟩ := q
      cases q1 with
      | int j =>
        show (onL p.1 q2 _).bind _ = kSb3 Γ (onL p.1 q2 (sbF d j))
        have e : (fun ds => (ixN ds.length j).bind fun jj => some (D.non, ds.set jj d)) = sbF d j := rfl
        rw [e]
        unfold kSb3; cases onL p.1 q2 (sbF d j) <;> rfl
      | _ => rfl
@[simp] theorem oNone_eq : oNone Γ μ = some (none, μ) := rfl
def kO : Option (D × M) → Option (Option Int × M)
  | some (.int i, μ) => some (some i, μ)
  | _ => none
@[simp] theorem kO_s {i : Int} : kO (some (.int i, μ)) = some (some i, μ) := rfl
@[simp] theorem oSome_eq : oSome ea Γ μ = kO (ea Γ μ) := by
  unfold oSome kO
  cases ea Γ μ with
  | none => rfl
  | some p => obtain ⟨p1, p2⟩ := p; cases p1 <;> rfl
def kSl3 (x : D) (l : Option Int) : Option (Option Int × M) → Option (D × M)
  | some (h, μ) => fSl x l h μ
  | none => none
@[simp] theorem kSl3_s {l h : Option Int} : kSl3 x l (some (h, μ)) = fSl x l h μ := rfl
def kSl2 (hi : OV) (Γ : G) (x : D) : Option (Option Int × M) → Option (D × M)
  | some (l, μ) => kSl3 x l (hi Γ μ)
  | none => none
@[simp] theorem kSl2_s {hi : OV} {l : Option Int} : kSl2 hi Γ x (some (l, μ)) = kSl3 x l (hi Γ μ) := rfl
def kSl (lo hi : OV) (Γ : G) : Option (D × M) → Option (D × M)
  | some (x, μ) => kSl2 hi Γ x (lo Γ μ)
  | none => none
@[simp] theorem kSl_s {lo hi : OV} : kSl lo hi Γ (some (x, μ)) = kSl2 hi Γ x (lo Γ μ) := rfl
@[simp] theorem vSl_eq {lo hi : OV} : vSl ea lo hi Γ μ = kSl lo hi Γ (ea Γ μ) := by
  unfold vSl kSl
  cases ea Γ μ with
  | none => rfl
  | some p =>
    show (lo Γ p.2).bind _ = kSl2 hi Γ p.1 (lo Γ p.2)
    cases lo Γ p.2 with
    | none => rfl
    | some q =>
      show (hi Γ q.2).bind _ = kSl3 p.1 q.1 (hi Γ q.2)
      cases hi Γ q.2 <;> rfl
def kTr (μ : M) : Option Bool → Option (Bool × M)
  | some b => some (b, μ)
  | none => none
@[simp] theorem kTr_s : kTr μ (some b) = some (b, μ) := rfl
def kTru : Option (D × M) → Option (Bool × M)
  | some (x, μ) => kTr μ (tru μ x)
  | none => none
@[simp] theorem kTru_s : kTru (some (x, μ)) = kTr μ (tru μ x) := rfl
@[simp] theorem bTru_eq : bTru ea Γ μ = kTru (ea Γ μ) := by
  unfold bTru kTru
  cases ea Γ μ with
  | none => rfl
  | some p => show (tru p.2 p.1).bind _ = kTr p.2 (tru p.2 p.1); cases tru p.2 p.1 <;> rfl
def kFrz : Option (D × M) → Option (D × M)
  | some (.ref k, μ) => match μ[k]? with
    | some (some (.lst ds)) => some (.lst ds, μ.set k none)
    | _ => none
  | _ => none
@[simp] theorem vFrz_eq : vFrz ea Γ μ = kFrz (ea Γ μ) := by
  unfold vFrz kFrz
  cases ea Γ μ with
  | none => rfl
  | some p => obtain ⟨p1, p2⟩ := p; cases p1 <;> rfl
def kM2 (f : D → D → M → Option (D × M)) (eb : EV) (Γ : G) (x : D) (μ : M) : Option (List D) → Option (D × M)
  | some _ => kV2b f x (eb Γ μ)
  | none => none
@[simp] theorem kM2_s {f : D → D → M → Option (D × M)} : kM2 f eb Γ x μ (some ds) = kV2b f x (eb Γ μ) := rfl
def kM (f : D → D → M → Option (D × M)) (eb : EV) (Γ : G) : Option (D × M) → Option (D × M)
  | some (x, μ) => kM2 f eb Γ x μ (lsOf μ x)
  | none => none
@[simp] theorem kM_s {f : D → D → M → Option (D × M)} : kM f eb Γ (some (x, μ)) = kM2 f eb Γ x μ (lsOf μ x) := rfl
@[simp] theorem v2l_eq {f : D → D → M → Option (D × M)} : v2l f ea eb Γ μ = kM f eb Γ (ea Γ μ) := by
  unfold v2l kM
  cases ea Γ μ with
  | none => rfl
  | some p =>
    show (lsOf p.2 p.1).bind _ = kM2 f eb Γ p.1 p.2 (lsOf p.2 p.1)
    cases lsOf p.2 p.1 with
    | none => rfl
    | some l => show (eb Γ p.2).bind _ = kV2b f p.1 (eb Γ p.2); cases eb Γ p.2 <;> rfl
def kM0b (f : D → M → Option (D × M)) (x : D) (μ : M) : Option (List D) → Option (D × M)
  | some _ => f x μ
  | none => none
@[simp] theorem kM0b_s {f : D → M → Option (D × M)} : kM0b f x μ (some ds) = f x μ := rfl
def kM0 (f : D → M → Option (D × M)) : Option (D × M) → Option (D × M)
  | some (x, μ) => kM0b f x μ (lsOf μ x)
  | none => none
@[simp] theorem kM0_s {f : D → M → Option (D × M)} : kM0 f (some (x, μ)) = kM0b f x μ (lsOf μ x) := rfl
@[simp] theorem v1l_eq {f : D → M → Option (D × M)} : v1l f ea Γ μ = kM0 f (ea Γ μ) := by
  unfold v1l kM0
  cases ea Γ μ with
  | none => rfl
  | some p => show (lsOf p.2 p.1).bind _ = kM0b f p.1 p.2 (lsOf p.2 p.1); cases lsOf p.2 p.1 <;> rfl
noncomputable def kFor (g : GV) (body : SV) (Γ : G) : Option ((List D × Ck) × M) → Option (Out × G × M)
  | some ((its, c), μ) => forG c g body its Γ μ
  | none => none
@[simp] theorem kFor_s {g : GV} {c : Ck} : kFor g sa Γ (some ((ds, c), μ)) = forG c g sa ds Γ μ := rfl
@[simp] theorem sFor_eq {iv : IV} {g : GV} : sFor iv g sa Γ μ = kFor g sa Γ (iv Γ μ) := by unfold sFor kFor; cases iv Γ μ <;> rfl
def kI2 (μ : M) : Option (List D × Ck) → Option ((List D × Ck) × M)
  | some s => some (s, μ)
  | none => none
@[simp] theorem kI2_s {s : List D × Ck} : kI2 μ (some s) = some (s, μ) := rfl
def kI : Option (D × M) → Option ((List D × Ck) × M)
  | some (x, μ) => kI2 μ (lsC μ x)
  | none => none
@[simp] theorem kI_s : kI (some (x, μ)) = kI2 μ (lsC μ x) := rfl
@[simp] theorem ivL_eq : ivL ea Γ μ = kI (ea Γ μ) := by
  unfold ivL kI
  cases ea Γ μ with
  | none => rfl
  | some p => show (lsC p.2 p.1).bind _ = kI2 p.2 (lsC p.2 p.1); cases lsC p.2 p.1 <;> rfl
def kIT2 (μ : M) : Option (List D) → Option ((List D × Ck) × M)
  | some ds => some ((ds, none), μ)
  | none => none
@[simp] theorem kIT2_s : kIT2 μ (some ds) = some ((ds, none), μ) := rfl
def kIT : Option (D × M) → Option ((List D × Ck) × M)
  | some (x, μ) => kIT2 μ (tpOf x)
  | none => none
@[simp] theorem kIT_s : kIT (some (x, μ)) = kIT2 μ (tpOf x) := rfl
@[simp] theorem ivT_eq : ivT ea Γ μ = kIT (ea Γ μ) := by
  unfold ivT kIT
  cases ea Γ μ with
  | none => rfl
  | some p => show (tpOf p.1).bind _ = kIT2 p.2 (tpOf p.1); cases tpOf p.1 <;> rfl
def kIE2 (μ : M) : Option (List D × Ck) → Option ((List D × Ck) × M)
  | some s => some ((enumD s.1, s.2), μ)
  | none => none
@[simp] theorem kIE2_s {s : List D × Ck} : kIE2 μ (some s) = some ((enumD s.1, s.2), μ) := rfl
def kIE : Option (D × M) → Option ((List D × Ck) × M)
  | some (x, μ) => kIE2 μ (lsC μ x)
  | none => none
@[simp] theorem kIE_s : kIE (some (x, μ)) = kIE2 μ (lsC μ x) := rfl
@[simp] theorem ivEn_eq : ivEn ea Γ μ = kIE (ea Γ μ) := by
  unfold ivEn kIE
  cases ea Γ μ with
  | none => rfl
  | some p => show (lsC p.2 p.1).bind _ = kIE2 p.2 (lsC p.2 p.1); cases lsC p.2 p.1 <;> rfl
def kIZ2 (x : D) : Option (D × M) → Option ((List D × Ck) × M)
  | some (y, μ) => match x, y with
    | .lst xs, .lst ys => some ((zipD xs ys, none), μ)
    | _, _ => none
  | none => none
@[simp] theorem kIZ2_s {xs ys : List D} : kIZ2 (.lst xs) (some (.lst ys, μ)) = some ((zipD xs ys, none), μ) := rfl
def kIZ (eb : EV) (Γ : G) : Option (D × M) → Option ((List D × Ck) × M)
  | some (x, μ) => kIZ2 x (eb Γ μ)
  | none => none
@[simp] theorem kIZ_s : kIZ eb Γ (some (x, μ)) = kIZ2 x (eb Γ μ) := rfl
@[simp] theorem ivZ_eq : ivZ ea eb Γ μ = kIZ eb Γ (ea Γ μ) := by
  unfold ivZ kIZ
  cases ea Γ μ with
  | none => rfl
  | some p => show (eb Γ p.2).bind _ = kIZ2 p.1 (eb Γ p.2); cases eb Γ p.2 <;> rfl
def kIR : Option (D × M) → Option ((List D × Ck) × M)
  | some (.int j, μ) => if -1000000000 ≤ j ∧ j ≤ 1000000000 then some ((rngD 0 j.toNat, none), μ) else none
  | _ => none
@[simp] theorem kIR_s {j : Int} : kIR (some (.int j, μ)) = if -1000000000 ≤ j ∧ j ≤ 1000000000 then some ((rngD 0 j.toNat, none), μ) else none := rfl
@[simp] theorem ivR_eq : ivR ea Γ μ = kIR (ea Γ μ) := by
  unfold ivR kIR
  cases ea Γ μ with
  | none => rfl
  | some p => obtain ⟨p1, p2⟩ := p; cases p1 <;> rfl
def kIR2b (x : D) : Option (D × M) → Option ((List D × Ck) × M)
  | some (y, μ) => match x, y with
    | .int i, .int j => if (-1000000000 ≤ i ∧ i ≤ 1000000000) ∧ -1000000000 ≤ j ∧ j ≤ 1000000000 then some ((rngD i (j - i).toNat, none), μ) else none
    | _, _ => none
  | none => none
@[simp] theorem kIR2b_s {i j : Int} : kIR2b (.int i) (some (.int j, μ)) = if (-1000000000 ≤ i ∧ i ≤ 1000000000) ∧ -1000000000 ≤ j ∧ j ≤ 1000000000 then some ((rngD i (j - i).toNat, none), μ) else none := rfl
def kIR2 (eb : EV) (Γ : G) : Option (D × M) → Option ((List D × Ck) × M)
  | some (x, μ) => kIR2b x (eb Γ μ)
  | none => none
@[simp] theorem kIR2_s : kIR2 eb Γ (some (x, μ)) = kIR2b x (eb Γ μ) := rfl
@[simp] theorem ivR2_eq : ivR2 ea eb Γ μ = kIR2 eb Γ (ea Γ μ) := by
  unfold ivR2 kIR2
  cases ea Γ μ with
  | none => rfl
  | some p => show (eb Γ p.2).bind _ = kIR2b p.1 (eb Γ p.2); cases eb Γ p.2 <;> rfl
@[simp] theorem bYes_eq : bYes Γ μ = some (true, μ) := rfl
def kCh3 (g : D → D → M → Option (D × M)) (ec : EV) (Γ : G) (y : D) : Option (D × M) → Option (D × M)
  | some (.bl c, μ) => if c = true then kV2b g y (ec Γ μ) else some (.bl false, μ)
  | _ => none
@[simp] theorem kCh3_s {g : D → D → M → Option (D × M)} {c : Bool} : kCh3 g ec Γ y (some (.bl c, μ)) = if c = true then kV2b g y (ec Γ μ) else some (.bl false, μ) := rfl
def kCh2 (f g : D → D → M → Option (D × M)) (ec : EV) (Γ : G) (x : D) : Option (D × M) → Option (D × M)
  | some (y, μ) => kCh3 g ec Γ y (f x y μ)
  | none => none
@[simp] theorem kCh2_s {f g : D → D → M → Option (D × M)} : kCh2 f g ec Γ x (some (y, μ)) = kCh3 g ec Γ y (f x y μ) := rfl
def kCh (f g : D → D → M → Option (D × M)) (eb ec : EV) (Γ : G) : Option (D × M) → Option (D × M)
  | some (x, μ) => kCh2 f g ec Γ x (eb Γ μ)
  | none => none
@[simp] theorem kCh_s {f g : D → D → M → Option (D × M)} : kCh f g eb ec Γ (some (x, μ)) = kCh2 f g ec Γ x (eb Γ μ) := rfl
@[simp] theorem vChain_eq {f g : D → D → M → Option (D × M)} : vChain f g ea eb ec Γ μ = kCh f g eb ec Γ (ea Γ μ) := by
  unfold vChain kCh
  cases ea Γ μ with
  | none => rfl
  | some p =>
    show (eb Γ p.2).bind _ = kCh2 f g ec Γ p.1 (eb Γ p.2)
    cases eb Γ p.2 with
    | none => rfl
    | some q =>
      show (f p.1 q.1 q.2).bind _ = kCh3 g ec Γ q.1 (f p.1 q.1 q.2)
      cases f p.1 q.1 q.2 with
      | none => rfl
      | some t =>
        obtain ⟨t1, t2⟩ := t
        cases t1 with
        | bl c =>
          cases c with
          | true => show (ec Γ t2).bind _ = kV2b g q.1 (ec Γ t2); cases ec Γ t2 <;> rfl
          | false => rfl
        | _ => rfl
def kB (μ : M) : Option Bool → Option (D × M)
  | some b => some (.bl b, μ)
  | none => none
@[simp] theorem kB_s : kB μ (some b) = some (.bl b, μ) := rfl
def kNB (μ : M) : Option Bool → Option (D × M)
  | some b => some (.bl (!b), μ)
  | none => none
@[simp] theorem kNB_s : kNB μ (some b) = some (.bl (!b), μ) := rfl
def kD (μ : M) : Option D → Option (D × M)
  | some d => some (d, μ)
  | none => none
@[simp] theorem kD_s : kD μ (some d) = some (d, μ) := rfl
@[simp] theorem fI0_eq {g : Int → Int → D} {i j : Int} : fI0 g (.int i) (.int j) μ = some (g i j, μ) := rfl
@[simp] theorem fI_eq {C : Int → Int → Prop} [∀ i j, Decidable (C i j)] {g : Int → Int → D} {i j : Int} : fI C g (.int i) (.int j) μ = if C i j then some (g i j, μ) else none := rfl
@[simp] theorem fNeg_eq {i : Int} : fNeg (.int i) μ = some (.int (-i), μ) := rfl
@[simp] theorem fNot_eq {b : Bool} : fNot (.bl b) μ = some (.bl (!b), μ) := rfl
@[simp] theorem fPlus_int {i j : Int} : fPlus (.int i) (.int j) μ = some (.int (i + j), μ) := rfl
@[simp] theorem fTimes_int {i j : Int} : fTimes (.int i) (.int j) μ = if CMul i j then some (.int (i * j), μ) else none := rfl
@[simp] theorem fIntB_eq {b : Bool} : fIntB (.bl b) μ = some (.int (if b then 1 else 0), μ) := rfl
@[simp] theorem fEq_eq : fEq x y μ = kB μ (eqD x y μ) := by unfold fEq kB; cases eqD x y μ <;> rfl
@[simp] theorem fNe_eq : fNe x y μ = kNB μ (eqD x y μ) := by unfold fNe kNB; cases eqD x y μ <;> rfl
@[simp] theorem eqD_int {i j : Int} : eqD (.int i) (.int j) μ = some (decide (i = j)) := rfl
@[simp] theorem eqD_str {a b : Str} : eqD (.str a) (.str b) μ = if PyData.strOk a && PyData.strOk b then some (decide (a = b)) else none := rfl
@[simp] theorem lsOf_lst : lsOf μ (.lst ds) = some ds := rfl
@[simp] theorem lsOf_scr : lsOf μ (.scr ds) = some ds := rfl
@[simp] theorem lsOf_tup : lsOf μ (.tup ds) = none := rfl
@[simp] theorem tpOf_tup : tpOf (.tup ds) = some ds := rfl
@[simp] theorem wlOf_lst : wlOf μ (.lst ds) = some ds := rfl
@[simp] theorem lsC_lst : lsC μ (.lst ds) = some (ds, none) := rfl
@[simp] theorem lsC_scr : lsC μ (.scr ds) = some (ds, none) := rfl
@[simp] theorem fLst_eq : fLst ds μ = if ds.length ≤ 1000 then some (.lst ds, μ) else none := rfl
@[simp] theorem fTup_eq : fTup ds μ = if ds.length ≤ 1000 then some (.tup ds, μ) else none := rfl
@[simp] theorem fNew_eq : fNew ds μ = if ds.length ≤ 1000 then some (.ref μ.length, μ ++ [some (.lst ds)]) else none := rfl
@[simp] theorem fIx_lst {i : Int} : fIx (.lst ds) (.int i) μ = kD μ (atI ds i) := by
  show (atI ds i).bind _ = _
  unfold kD; cases atI ds i <;> rfl
@[simp] theorem fIx_scr {i : Int} : fIx (.scr ds) (.int i) μ = kD μ (atI ds i) := by
  show (atI ds i).bind _ = _
  unfold kD; cases atI ds i <;> rfl
@[simp] theorem fIx_tup {i : Int} : fIx (.tup ds) (.int i) μ = kD μ (atI ds i) := by
  show (atI ds i).bind _ = _
  unfold kD; cases atI ds i <;> rfl
@[simp] theorem fLen_lst : fLen (.lst ds) μ = some (.int ds.length, μ) := rfl
@[simp] theorem fLen_tup : fLen (.tup ds) μ = some (.int ds.length, μ) := rfl
@[simp] theorem fCat_lst {es : List D} : fPlus (.lst ds) (.lst es) μ = if ds.length + es.length ≤ 1000000 then some (.lst (ds ++ es), μ) else none := rfl
@[simp] theorem fList_lst : fList (.lst ds) μ = some (.lst ds, μ) := rfl
@[simp] theorem fSl_lst {lo hi : Option Int} : fSl (.lst ds) lo hi μ = some (.lst (cutD ds lo hi), μ) := rfl
@[simp] theorem fSl_tup {lo hi : Option Int} : fSl (.tup ds) lo hi μ = if HT.sIx ds.length 0 lo = 0 ∧ HT.sIx ds.length ds.length hi = ds.length then none else some (.tup (cutD ds lo hi), μ) := rfl
@[simp] theorem tru_bl {b : Bool} : tru μ (.bl b) = some b := rfl
@[simp] theorem tru_lst : tru μ (.lst ds) = some (!ds.isEmpty) := rfl
@[simp] theorem fRev_lst : fRev (.lst ds) μ = some (.lst ds.reverse, μ) := rfl
theorem atI_n {α : Type} {xs : List α} {j : Nat} {v : α} (h : xs[j]? = some v) : atI xs (j : Int) = some v := by
  have hlt := (List.getElem?_eq_some_iff.mp h).1
  unfold atI ixN
  rw [if_pos (by omega), if_pos (by omega)]
  simpa using h
@[simp] theorem atI_0 {α : Type} {a : α} {l : List α} : atI (a :: l) 0 = some a := atI_n (j := 0) rfl
@[simp] theorem atI_1 {α : Type} {a b : α} {l : List α} : atI (a :: b :: l) 1 = some b := atI_n (j := 1) rfl
@[simp] theorem atI_2 {α : Type} {a b c : α} {l : List α} : atI (a :: b :: c :: l) 2 = some c := atI_n (j := 2) rfl
@[simp] theorem atI_3 {α : Type} {a b c d : α} {l : List α} : atI (a :: b :: c :: d :: l) 3 = some d := atI_n (j := 3) rfl
end
end L3
set_option Elab.async false
set_option linter.all false
set_option maxRecDepth 100000
namespace L3
open PySem PySem.Spec L2
def inI : D → Option Int
  | .int i => some i
  | _ => none
section
variable {K : PySem.W.Frag} {W : Wd}
theorem ints_at : ∀ {ds : List D} {vs : List V} {ns : List Int}, optAll inI ds = some ns → DRs K W ds vs → vs = ns.map V.int
  | _, _, _, h, .nil => by cases h; rfl
  | d :: _, _, _, h, .cons r t => by
    obtain ⟨u, h1, h⟩ := bnd h
    obtain ⟨us, h2, h⟩ := bnd h
    cases h
    cases d <;> cases h1
    cases r
    rw [ints_at h2 t]; rfl
theorem all_ints (ns : List Int) : optAll inI (ns.map D.int) = some ns := by
  have := optAll_map (f := inI) (g := D.int) (h := id) (l := ns) fun x _ => rfl
  simpa using this
end
def mx : Int → List Int → Int
  | a, [] => a
  | a, b :: r => mx (if b > a then b else a) r
theorem mx_is : ∀ (r l : List Int) (a : Int), IsMax a l → IsMax (mx a r) (l ++ r)
  | [], l, a, h => by simpa [mx] using h
  | b :: r, l, a, h => by
    have := mx_is r (l ++ [b]) (if b > a then b else a) h.step
    simpa [mx] using this
theorem isMax_uniq {a b : Int} {l : List Int} (h : IsMax a l) (g : IsMax b l) : a = b := by
  have h1 := h.2 b g.1
  have h2 := g.2 a h.1
  omega
def mxL : List Int → Option Int
  | [] => none
  | a :: r => some (mx a r)
theorem mxL_is {l : List Int} {m : Int} (h : mxL l = some m) : IsMax m l := by
  cases l with
  | nil => cases h
  | cons a r =>
    cases h
    exact mx_is r [a] a ⟨by simp, by simp⟩
section
variable {X : Cx} {K : PySem.W.Frag} {a b : Expr} {ea eb : EV} {pos p kp : Pos}
def fMaxD (x y : D) (μ : M) : Option (D × M) := match y with
  | .int j => (lsOf μ x).bind fun ds => (optAll inI ds).bind fun ns => some (.int ((mxL ns).getD j), μ)
  | _ => none
theorem x_maxD (mm : X.mg "max" = none) (ha : PE X a (tD K ea)) (hb : PE X b (tD K eb)) (hc : X.calm = true := by rfl) (hg : Gl X "max" := by rfl) (hs : starEach [a] X.env = [(false, eval a X.env)] := by rfl) (hK : X.K = K := by rfl)
    (hall : (backToKw pos (keywordEach [⟨some "default", b, kp⟩] X.env)).all (·.1.isSome) = true := by rfl) (hks : (backToKw pos (keywordEach [⟨some "default", b, kp⟩] X.env)).filterMap (·.1) = ([Str.ofString "default"] : List Str) := by rfl)
    (hno : (backToKw pos (keywordEach [⟨some "default", b, kp⟩] X.env)).any (·.1.isNone) = false := by rfl) : PE X (.Call (.Name "max" p) [a] [⟨some "default", b, kp⟩] pos) (tD K (v2 fMaxD ea eb)) := PE_imp (eMaxDef K mm ha hb hc hg hs hK hall hks hno) (t2_imp (by
  intro W x y d e z μ' Q ok r1 r2 hf q
  unfold fMaxD at hf
  split at hf
  · cases r2
    obtain ⟨ds, h1, hf⟩ := bnd hf
    obtain ⟨ns, h2, hf⟩ := bnd hf
    cases hf
    obtain ⟨a, vs, rfl, hs, hv⟩ := lsOf_at ok h1 r1
    have := ints_at h2 hv
    subst this
    refine ⟨a, ns, _, rfl, rfl, hs, fun z => ?_, fun M hM => ?_⟩
    · subst z; exact q _ W rfl ok .refl (.int _)
    · cases hn : mxL ns with
      | none =>
        cases ns with
        | nil => exact absurd hM.1 (by simp)
        | cons _ _ => cases hn
      | some m =>
        rw [isMax_uniq hM (mxL_is hn)]
        have := q (.int m) W rfl ok .refl (by rw [hn]; exact .int _)
        exact this
  · cases hf))
end
theorem forG_inv {c : Ck} {g : GV} {body : SV} (Pv : G → M → Prop) : ∀ (its : List D) (Γ : G) (μ : M), Pv Γ μ →
    (∀ d ∈ its, ∀ Γ μ, Pv Γ μ → ∃ Γ1 μ1 Γ2 μ2, g d Γ μ = some (Γ1, μ1) ∧ body Γ1 μ1 = some (.nx, Γ2, μ2) ∧ ckOf c μ2 ∧ Pv Γ2 μ2) → ∃ Γ' μ', forG c g body its Γ μ = some (.nx, Γ', μ') ∧ Pv Γ' μ'
  | [], Γ, μ, h, _ => ⟨Γ, μ, rfl, h⟩
  | d :: r, Γ, μ, h, hs => by
    obtain ⟨Γ1, μ1, Γ2, μ2, h1, h2, h3, h4⟩ := hs d (by simp) Γ μ h
    obtain ⟨Γ', μ', h5, h6⟩ := forG_inv Pv r Γ2 μ2 h4 fun d hd => hs d (by simp [hd])
    refine ⟨Γ', μ', ?_, h6⟩
    simp only [forG, h1, bs, h2]
    rw [chk_pos h3, h5]
theorem chk_none {α : Type} {μ : M} {x : Option α} : chk (ckOf none μ) x = x := chk_pos trivial
section
variable {μ : M} {k : Nat} {ds : List D}
def kRun : Option (Out × G × M) → Option (D × M)
  | some (.rt d, _, μ) => some (d, μ)
  | some (.nx, _, μ) => some (.non, μ)
  | _ => none
@[simp] theorem kRun_rt {d : D} {Γ : G} : kRun (some (.rt d, Γ, μ)) = some (d, μ) := rfl
@[simp] theorem kRun_nx {Γ : G} : kRun (some (.nx, Γ, μ)) = some (.non, μ) := rfl
@[simp] theorem runF_eq {n m : Nat} {es : SV} : runF n m es ds μ = if ds.length = m then kRun (es (ds.map some ++ List.replicate (n - ds.length) none) μ) else none := by
  unfold runF
  split
  · unfold kRun
    cases es (ds.map some ++ List.replicate (n - ds.length) none) μ with
    | none => rfl
    | some o => obtain ⟨o1, o2, o3⟩ := o; cases o1 <;> rfl
  · rfl
theorem set_get {x y : Option O} (h : μ[k]? = some x) : (μ.set k y)[k]? = some y := by
  have hlt := (List.getElem?_eq_some_iff.mp h).1
  simp [hlt]
theorem set_get_ne {j : Nat} {y : Option O} (h : j ≠ k) : (μ.set k y)[j]? = μ[j]? := List.getElem?_set_ne (Ne.symm h)
theorem lsOf_ref (h : μ[k]? = some (some (.lst ds))) : lsOf μ (.ref k) = some ds := by simp only [lsOf, h]
theorem wlOf_ref (h : μ[k]? = some (some (.lst ds))) : wlOf μ (.ref k) = some ds := by simp only [wlOf, h]
theorem fIx_ref {i : Int} (h : μ[k]? = some (some (.lst ds))) : fIx (.ref k) (.int i) μ = kD μ (atI ds i) := by
  simp only [fIx, lsOf_ref h]
  unfold kD; cases atI ds i <;> rfl
theorem fLen_ref (h : μ[k]? = some (some (.lst ds))) : fLen (.ref k) μ = some (.int ds.length, μ) := by simp only [fLen, lsOf_ref h]
theorem onL_ref {g : List D → Option (D × List D)} (h : μ[k]? = some (some (.lst ds))) : onL (.ref k) μ g = kOn μ k (g ds) := by
  simp only [onL, h]
  unfold kOn; cases g ds <;> rfl
theorem lsC_ref (h : μ[k]? = some (some (.lst ds))) : lsC μ (.ref k) = some (ds, some (k, ds)) := by simp only [lsC, h]
@[simp] theorem ixN_0 {n : Nat} : ixN (n + 1) 0 = some 0 := by unfold ixN; rw [if_pos (by omega), if_pos (by omega)]; rfl
@[simp] theorem ixN_1 {n : Nat} : ixN (n + 2) 1 = some 1 := by unfold ixN; rw [if_pos (by omega), if_pos (by omega)]; rfl
@[simp] theorem ixN_2 {n : Nat} : ixN (n + 3) 2 = some 2 := by unfold ixN; rw [if_pos (by omega), if_pos (by omega)]; rfl
end
end L3
set_option Elab.async false
set_option linter.all false
set_option maxRecDepth 100000
namespace L3
open PySem PySem.Spec L2
section
variable {P : Program} {w : World} {K : PySem.W.Frag} {mg : Str → Option Value} {base : Heap} {f : Addr} {fd : FuncData} {k : Nat}
def spLaw (K : PySem.W.Frag) : Sp := fun vs H Q _ => ∃ (a : Addr) (ns : List Int), vs = [.ref a] ∧ Only H ∧ SqL K H a (ns.map V.int) ∧ ns.length ≤ 63 ∧ ∀ H', Q (.bl true) H'
def W0 (H : Hp) : Wd := ⟨[], [], H, fun _ => False⟩
theorem ok_W0 {H : Hp} : Ok K (W0 H) where
  len := rfl
  nd := by simp [W0]
  rs a h := by simp [W0] at h
  at_ k o h := by simp [W0] at h
  hd0 a h := h.elim
theorem drs_ints {W : Wd} : ∀ ns : List Int, DRs K W (ns.map D.int) (ns.map V.int)
  | [] => .nil
  | n :: r => .cons (.int n) (drs_ints r)
theorem law_of {g : List D → M → Option (D × M)} (F : FnOk P w K mg base CX0 k f fd ["script"] (spM K g)) (h : ∀ ns : List Int, ns.length ≤ 63 → ∃ μ', g [.scr (ns.map D.int)] [] = some (.bl true, μ')) : FnOk P w K mg base CX0 k f fd ["script"] (spLaw K) := F.imp fun vs H Q E hh => by
  obtain ⟨a, ns, rfl, hO, hS, hl, q⟩ := hh
  obtain ⟨μ', e⟩ := h ns hl
  have hF : SqF K H a (ns.map V.int) := by
    rcases hS with (hS | hS) | hS
    · rcases hO a with z | ⟨o, xs, z⟩
      · rw [z] at hS; cases hS
      · rw [z] at hS; cases hS
    · exact .inl hS
    · exact .inr hS
  exact ⟨W0 H, [.scr (ns.map D.int)], .bl true, μ', rfl, ok_W0, .cons (.scr hF (drs_ints ns)) .nil, e, fun v W' _ _ _ r => by cases r; exact q _⟩
end
theorem forG_ix {c : Ck} {g : GV} {body : SV} (Pv : Nat → G → M → Prop) : ∀ (its : List D) (i : Nat) (Γ : G) (μ : M), Pv i Γ μ →
    (∀ j d Γ μ, its[j]? = some d → Pv (i + j) Γ μ → ∃ Γ1 μ1 Γ2 μ2, g d Γ μ = some (Γ1, μ1) ∧ body Γ1 μ1 = some (.nx, Γ2, μ2) ∧ ckOf c μ2 ∧ Pv (i + j + 1) Γ2 μ2) → ∃ Γ' μ', forG c g body its Γ μ = some (.nx, Γ', μ') ∧ Pv (i + its.length) Γ' μ'
  | [], i, Γ, μ, h, _ => ⟨Γ, μ, rfl, h⟩
  | d :: r, i, Γ, μ, h, hs => by
    obtain ⟨Γ1, μ1, Γ2, μ2, h1, h2, h3, h4⟩ := hs 0 d Γ μ rfl h
    obtain ⟨Γ', μ', h5, h6⟩ := forG_ix Pv r (i + 1) Γ2 μ2 h4 fun j d Γ μ hj hp => by
      have := hs (j + 1) d Γ μ (by simpa using hj) (by rw [show i + (j + 1) = i + 1 + j by omega]; exact hp)
      rw [show i + (j + 1) + 1 = i + 1 + j + 1 by omega] at this
      exact this
    refine ⟨Γ', μ', ?_, by rw [List.length_cons, show i + (r.length + 1) = i + 1 + r.length by omega]; exact h6⟩
    simp only [forG, h1, bs, h2]
    rw [chk_pos h3, h5]
theorem rngD_get {lo : Int} {n j : Nat} {d : D} (h : (rngD lo n)[j]? = some d) : j < n ∧ d = .int (lo + j) := by
  have hlt := (List.getElem?_eq_some_iff.mp h).1
  simp [rngD] at hlt
  simp [rngD, hlt] at h
  exact ⟨hlt, h.symm⟩
theorem rng0_get {n j : Nat} {d : D} (h : (rngD 0 n)[j]? = some d) : j < n ∧ d = .int (j : Int) := by
  obtain ⟨a, b⟩ := rngD_get h
  exact ⟨a, by rw [b, Int.zero_add]⟩
theorem rngD_len {lo : Int} {n : Nat} : (rngD lo n).length = n := by simp [rngD]
def kLst : Option (List D × M) → Option (D × M)
  | some (rs, μ) => some (.lst rs, μ)
  | none => none
@[simp] theorem kLst_s {rs : List D} {μ : M} : kLst (some (rs, μ)) = some (.lst rs, μ) := rfl
noncomputable def kComp (own : List Str) (cap : List (Str × Nat)) (g : GV) (tc : BV) (te : EV) (Γ : G) : Option ((List D × Ck) × M) → Option (D × M)
  | some ((its, c), μ) => if its.length ≤ 1000000 then kLst (compG c g tc te its (capG own cap Γ) μ) else none
  | none => none
@[simp] theorem kComp_s {own : List Str} {cap : List (Str × Nat)} {g : GV} {tc : BV} {te : EV} {Γ : G} {its : List D} {c : Ck} {μ : M} : kComp own cap g tc te Γ (some ((its, c), μ)) = if its.length ≤ 1000000 then kLst (compG c g tc te its (capG own cap Γ) μ) else none := rfl
@[simp] theorem vComp_eq {own : List Str} {cap : List (Str × Nat)} {iv : IV} {g : GV} {tc : BV} {te : EV} {Γ : G} {μ : M} : vComp own cap iv g tc te Γ μ = kComp own cap g tc te Γ (iv Γ μ) := by
  unfold vComp kComp
  cases iv Γ μ with
  | none => rfl
  | some s =>
    obtain ⟨⟨its, c⟩, μ1⟩ := s
    show (if its.length ≤ 1000000 then (compG c g tc te its (capG own cap Γ) μ1).bind _ else none) = if its.length ≤ 1000000 then kLst (compG c g tc te its (capG own cap Γ) μ1) else none
    split
    · cases compG c g tc te its (capG own cap Γ) μ1 <;> rfl
    · rfl
def kLst2 : Option (List D × M) → Option (D × M)
  | some (rs, μ) => if rs.length ≤ 1000000 then some (.lst rs, μ) else none
  | none => none
@[simp] theorem kLst2_s {rs : List D} {μ : M} : kLst2 (some (rs, μ)) = if rs.length ≤ 1000000 then some (.lst rs, μ) else none := rfl
noncomputable def kComp2 (own : List Str) (cap : List (Str × Nat)) (g : GV) (tc : BV) (iv2 : IV) (g2 : GV) (tc2 : BV) (te : EV) (Γ : G) : Option ((List D × Ck) × M) → Option (D × M)
  | some ((its, c), μ) => kLst2 (compG2 c g tc iv2 g2 tc2 te its (capG own cap Γ) μ)
  | none => none
@[simp] theorem kComp2_s {own : List Str} {cap : List (Str × Nat)} {iv2 : IV} {g g2 : GV} {tc tc2 : BV} {te : EV} {Γ : G} {its : List D} {c : Ck} {μ : M} : kComp2 own cap g tc iv2 g2 tc2 te Γ (some ((its, c), μ)) = kLst2 (compG2 c g tc iv2 g2 tc2 te its (capG own cap Γ) μ) := rfl
@[simp] theorem vComp2_eq {own : List Str} {cap : List (Str × Nat)} {iv iv2 : IV} {g g2 : GV} {tc tc2 : BV} {te : EV} {Γ : G} {μ : M} : vComp2 own cap iv g tc iv2 g2 tc2 te Γ μ = kComp2 own cap g tc iv2 g2 tc2 te Γ (iv Γ μ) := by
  unfold vComp2 kComp2
  cases iv Γ μ with
  | none => rfl
  | some s =>
    obtain ⟨⟨its, c⟩, μ1⟩ := s
    show (compG2 c g tc iv2 g2 tc2 te its (capG own cap Γ) μ1).bind _ = kLst2 (compG2 c g tc iv2 g2 tc2 te its (capG own cap Γ) μ1)
    cases compG2 c g tc iv2 g2 tc2 te its (capG own cap Γ) μ1 <;> rfl
end L3
set_option Elab.async false
set_option linter.all false
set_option maxRecDepth 100000
namespace L3
open PySem PySem.Spec L2
section
variable {X : Cx} {K : PySem.W.Frag} {pos : Pos} {el : LV} {ea : EV}
end
end L3
set_option Elab.async false
set_option linter.all false
set_option maxRecDepth 100000
namespace L3
open PySem PySem.Spec L2
section
variable {X : Cx} {K : PySem.W.Frag} {a b : Expr} {ea eb : EV} {p p2 pos kp kp2 : Pos}
end
end L3
set_option Elab.async false
set_option linter.all false
set_option maxRecDepth 100000
namespace L3
open PySem PySem.Spec L2
def valD (kvs : List (Key × D)) (k : Key) : Option D := (kvs.find? fun kv => decide (kv.1 = k)).map (·.2)
def putD (kvs : List (Key × D)) (k : Key) (v : D) : List (Key × D) :=
  if (kvs.any fun kv => decide (kv.1 = k)) = true then kvs.map (fun kv => if kv.1 = k then (kv.1, v) else kv) else kvs ++ [(k, v)]
section
variable {K : PySem.W.Frag} {W : Wd}
theorem KR.len {kvs : List (Key × D)} {vs : List (Key × V)} (r : KR K W kvs vs) : kvs.length = vs.length := Paired.length r
theorem KR.any {kvs : List (Key × D)} {vs : List (Key × V)} (r : KR K W kvs vs) (k : Key) : (kvs.any fun kv => decide (kv.1 = k)) = vs.any fun kv => decide (kv.1 = k) := by
  unfold KR at r
  induction r with
  | nil => rfl
  | cons h t ih => rw [List.any_cons, List.any_cons, ih, h.1]
theorem KR.val {kvs : List (Key × D)} {vs : List (Key × V)} (r : KR K W kvs vs) (k : Key) : (valD kvs k).isSome = (valV vs k).isSome := by
  unfold KR at r
  induction r with
  | nil => rfl
  | @cons p q ps qs h t ih =>
    by_cases e : p.1 = k
    · rw [valV_pos (by rw [← h.1]; exact e)]
      simp [valD, List.find?_cons, e]
    · rw [valV_neg (by rw [← h.1]; exact e)]
      simp only [valD, List.find?_cons, e, decide_false] at ih ⊢
      exact ih
theorem KR.snoc {kvs : List (Key × D)} {vs : List (Key × V)} (r : KR K W kvs vs) (k : Key) {d : D} {v : V} (rv : DR K W d v) : KR K W (kvs ++ [(k, d)]) (vs ++ [(k, v)]) := Paired.snoc r ⟨rfl, rv⟩
theorem KR.repl {kvs : List (Key × D)} {vs : List (Key × V)} (r : KR K W kvs vs) (k : Key) {d : D} {v : V} (rv : DR K W d v) :
    KR K W (kvs.map fun kv => if kv.1 = k then (kv.1, d) else kv) (vs.map fun kv => if kv.1 = k then (kv.1, v) else kv) := by
  unfold KR at r ⊢
  induction r with
  | nil => exact .nil
  | @cons p q ps qs h t ih =>
    refine .cons ?_ ih
    show (if p.1 = k then (p.1, d) else p).1 = (if q.1 = k then (q.1, v) else q).1 ∧ DR K W (if p.1 = k then (p.1, d) else p).2 (if q.1 = k then (q.1, v) else q).2
    by_cases e : p.1 = k
    · rw [if_pos e, if_pos (by rw [← h.1]; exact e)]; exact ⟨h.1, rv⟩
    · rw [if_neg e, if_neg (by rw [← h.1]; exact e)]; exact h
theorem KR.put {kvs : List (Key × D)} {vs : List (Key × V)} (r : KR K W kvs vs) (k : Key) {d : D} {v : V} (rv : DR K W d v) : KR K W (putD kvs k d) (putK vs k v) := by
  unfold putD putK
  rw [r.any k]
  by_cases e : (vs.any fun kv => decide (kv.1 = k)) = true
  · rw [if_pos e, if_pos e]; exact r.repl k rv
  · rw [if_neg e, if_neg e]; exact r.snoc k rv
theorem KR.vals {kvs : List (Key × D)} {vs : List (Key × V)} (r : KR K W kvs vs) : DRs K W (kvs.map (·.2)) (vs.map (·.2)) := by
  unfold KR at r
  induction r with
  | nil => exact .nil
  | cons h t ih => exact .cons h.2 ih
end
section
variable {X : Cx} {K : PySem.W.Frag} {a b c e o i value : Expr} {ea eb eo ei : EV} {pos p apos pos' pos1 : Pos} {k : Nat}
end
section
variable {X : Cx} {K : PySem.W.Frag} {N' own : List Str} {cap : List (Str × Nat)} {scope : Scope} {tg iter kx vx : Expr} {ifs : List Expr} {pos : Pos} {iv : IV} {g : GV} {tc : BV} {tk tv : EV}
end
end L3
set_option Elab.async false
set_option linter.all false
set_option maxRecDepth 100000
namespace L3
open PySem PySem.Spec L2
section
variable {X : Cx} {K : PySem.W.Frag} {a b c e o i value : Expr} {ea eb eo ei : EV} {pos p apos pos' pos1 : Pos} {k : Nat}
theorem KR.at {W : Wd} {kvs : List (Key × D)} {vs : List (Key × V)} (r : KR K W kvs vs) {k : Key} {d : D} (h : valD kvs k = some d) : ∃ v, valV vs k = some v ∧ DR K W d v := by
  unfold KR at r
  induction r with
  | nil => cases h
  | @cons p q ps qs hd t ih =>
    by_cases e : p.1 = k
    · have : valD (p :: ps) k = some p.2 := by simp [valD, List.find?_cons, e]
      rw [this] at h
      cases h
      exact ⟨q.2, valV_pos (by rw [← hd.1]; exact e), hd.2⟩
    · have : valD (p :: ps) k = valD ps k := by simp [valD, List.find?_cons, e]
      rw [this] at h
      obtain ⟨v, h1, h2⟩ := ih h
      exact ⟨v, by rw [valV_neg (by rw [← hd.1]; exact e)]; exact h1, h2⟩
end
end L3
set_option Elab.async false
set_option linter.all false
set_option maxRecDepth 100000
namespace L2
open PySem PySem.W PySem.Spec PyProof.Rows
structure FlewH (P : Program) (w : World) (outer : List Env) (L : Addr) (H H' : Hp) (s : Shared) (e : Addr) (C : Value) (B : Heap) (s' : Shared) : Prop where
  os : s'.os = s.os
  bare : AllBare s'.gens
  un : Un (frs outer) [] H H' s.heap s'.heap
  hok : HOk P w H' s'.heap
  trk : ∀ b o, s'.heap.get? b = some o → H' b ≠ none → B.get? b = some o
  old : ∀ b o, s.heap.get? b = some o → H b = none → b ∉ frs outer → B.get? b = some o
  thr : ∀ b o, s.heap.get? b = some o → b ∉ frs outer → ∃ o', B.get? b = some o'
  frf : ∀ b ∈ frs outer, H b = none
  unt : H' e = none
  new : s.heap.get? e = none
  fly : ∃ a0, Heap.HeldW B outer e C a0 L s'.heap
section
variable {P : Program} {w : World} {outer : List Env} {L : Addr} {H H' : Hp} {s s' : Shared} {e : Addr} {C : Value} {B : Heap}
theorem Flew.noted {h2 : Heap} (F : Flew P w outer H H' s e C B s') (hs : s'.heap.UpToSlots h2) (fl : ∃ a0, Heap.HeldW B outer e C a0 L h2) : FlewH P w outer L H H' s e C B { s' with heap := h2 } := by
  obtain ⟨a0, fl⟩ := fl
  obtain ⟨u, k, t⟩ := F.to fl.1 hs
  exact ⟨F.os, F.bare, u, k, t, F.old, F.thr, F.frf, F.unt, F.new, a0, fl⟩
theorem FlewH.to {h2 : Heap} (F : FlewH P w outer L H H' s e C B s') (hB : B.StaysIn h2) (hs : s'.heap.UpToSlots h2) : Un (frs outer) [] H H' s.heap h2 ∧ HOk P w H' h2 ∧ ∀ b o, h2.get? b = some o → H' b ≠ none → B.get? b = some o := by
  obtain ⟨a0, fl⟩ := F.fly
  have kp : ∀ b o, s.heap.get? b = some o → H b = none → b ∉ frs outer → h2.get? b = some o := fun b o x n hb => hB b o (F.old b o x n hb)
  have sl : ∀ b o, s.heap.get? b = some o → H b = none → b ∈ frs outer → ∃ sl, h2.get? b = some { o with slots := sl } := fun b o x n hb => by
    obtain ⟨sl, e1⟩ := F.un.slot b o x n hb (by simp)
    obtain ⟨_, o', e2, d⟩ := fl.2.2.1.mem hb
    rw [e1] at e2
    cases e2
    obtain ⟨sl', e3⟩ := hs b { o with slots := sl } e1 d
    exact ⟨sl', e3⟩
  refine ⟨⟨fun b o x n hb _ => kp b o x n hb, fun b o x n hb _ => sl b o x n hb, F.un.free, fun b o x _ => ?_, F.un.tups, F.un.frzs, F.un.tbls⟩, fun a u eu => ?_, fun b o x n => ?_⟩
  · by_cases hb : b ∈ frs outer
    · obtain ⟨l, e1⟩ := sl b o x (F.frf b hb) hb
      exact ⟨_, e1⟩
    · obtain ⟨o', e1⟩ := F.thr b o x hb
      exact ⟨o', hB b o' e1⟩
  · refine (F.hok a u eu).stay (fun b v hb q => hB b v (F.trk b v q ?_)) (fun _ q => q) fun _ _ q => q
    rcases hb with z | z
    · rw [z, eu]; simp
    · rw [z]; simp
  · cases eu : H' b with
    | none => exact absurd eu n
    | some u =>
      obtain ⟨o1, e1⟩ := (F.hok b u eu).there
      have e2 := F.trk b o1 e1 n
      have e3 := hB b o1 e2
      rw [x] at e3
      cases e3
      exact e2
theorem FlewH.next {h2 : Heap} (F : FlewH P w outer L H H' s e C B s') (hs : s'.heap.UpToSlots h2) (fl : ∃ a0, Heap.HeldW B outer e C a0 L h2) : FlewH P w outer L H H' s e C B { s' with heap := h2 } := by
  obtain ⟨a0, fl⟩ := fl
  obtain ⟨u, k, t⟩ := F.to fl.1 hs
  exact ⟨F.os, F.bare, u, k, t, F.old, F.thr, F.frf, F.unt, F.new, a0, fl⟩
theorem FlewH.lands {h2 : Heap} (F : FlewH P w outer L H H' s e C B s') (hs : s'.heap.UpToSlots h2) (fl : ∃ a0, Heap.FlyingW B outer e C a0 h2) : Flew P w outer H H' s e C B { s' with heap := h2 } := by
  obtain ⟨a0, fl⟩ := fl
  obtain ⟨u, k, t⟩ := F.to fl.1 hs
  exact ⟨F.os, F.bare, u, k, t, F.old, F.thr, F.frf, F.unt, F.new, a0, fl⟩
end
theorem noted_madeW {M : Model} {A : Around} {E : Value → Shared → Prop} {s : Shared} {base h : Heap} {env : Env} {outer : List Env} {L e : Addr} {cls : Value} {args : List Value} {Q : Unit → Shared → Prop}
    (hfr : A.frames = some (env :: outer)) (hf : env.frame = some L) (hkb : base.StaysIn h) (hl : h.FunFrames base (env :: outer)) (hx : Heap.MadeExcOf h s.heap e cls args)
    (hQ : ∀ h' a0, Heap.HeldW base (env :: outer) e cls a0 L h' → s.heap.UpToSlots h' → Q () { s with heap := h' }) : wpAny M A (noteFrame (.ref e) env) Q E s := by
  obtain ⟨t, he, htn, ht⟩ := hx.there
  have fresh : ∀ b, h.get? b = none → base.get? b = none := fun b hb => by
    cases hq : base.get? b with
    | none => rfl
    | some o' => have := hkb b o' hq; rw [hb] at this; cases this
  unfold noteFrame
  simp only [hf]
  refine wpAny_bind (wpAny_field he rfl (show (#[Value.ref t, .none, .none, .none, .bool false, .none] : Array Value)[1]? = some Value.none from rfl) ?_)
  rw [if_neg (show ¬ ((Value.none != Value.none) = true) from by decide)]
  refine wpAny_entryW (a0 := .ref t) hfr (hl.of_keeps fun b o hb _ => ⟨o, hx.keeps b o hb, rfl⟩) hf he (fun b o hb => hx.keeps b o (hkb b o hb)) (fresh e hx.new) rfl (by simp) rfl fun h' hN => ?_
  obtain ⟨k1, k2, k3, k4⟩ := hN
  exact hQ h' _ ⟨k1, fresh e hx.new, k2, k3⟩ k4
end L2
set_option Elab.async false
set_option linter.all false
set_option maxRecDepth 100000
namespace L2
open PySem PySem.W PySem.Spec PyProof.Rows
def Lv (X : Cx) : Prop := X.stack = X.env :: X.outer ∧ X.env.frame = some X.env.locals
def FlX (X : Cx) (E : St → XK) (e : Value) (s' : Shared) : Prop := ∃ (a : Addr) (C : Value) (pins : List (Addr × Obj)) (σ : St) (H H' : Hp) (s : Shared), e = .ref a ∧ Inv X pins σ H s ∧ E σ C none H' ∧
  ((H' = H ∧ ∃ (D : Addr) (vs : List Value) (h' : Heap), C = .ref D ∧ s' = { s with heap := h' } ∧ Heap.MadeExcOf s.heap h' a C vs) ∨ (∃ B, Flew X.prog X.w X.stack H H' s a C B s') ∨ (∃ B, FlewH X.prog X.w X.stack X.env.locals H H' s a C B s'))
section
variable {X : Cx} {E : St → XK} {pins : List (Addr × Obj)} {σ : St} {H H' : Hp} {s s' : Shared} {a : Addr} {C : Value} {B : Heap}
theorem made_noted {M : Model} {A : Around} {E' : Value → Shared → Prop} {D : Addr} {vs : List Value} {h' : Heap} {Q : Unit → Shared → Prop} (lv : Lv X) (hA : A.frames = X.A.frames) (I : Inv X pins σ H s) (hx : Heap.MadeExcOf s.heap h' a (.ref D) vs)
    (hQ : ∀ B h2, FlewH X.prog X.w X.stack X.env.locals H H s a (.ref D) B { s with heap := h2 } → Q () { s with heap := h2 }) : wpAny M A (noteFrame (.ref a) X.env) Q E' { s with heap := h' } := by
  obtain ⟨lv1, lv2⟩ := lv
  have fs : ∀ b, b ∈ frs X.stack → H b = none := I.stkFree
  have inn : ∀ b o, s.heap.get? b = some o → b ∉ frs X.stack → (hideAll s.heap (frs X.stack)).get? b = some o := fun b o e hb => hideAll_get _ e hb
  have hin : ∀ env ∈ X.stack, ∀ a, env.frame = some a → a ∈ frs X.stack := fun env he a ha => List.mem_filterMap.mpr ⟨env, he, ha⟩
  have nfr : ∀ b, H b ≠ none → b ∉ frs X.stack := fun b n z => n (fs b z)
  refine noted_madeW (base := hideAll s.heap (frs X.stack)) (env := X.env) (outer := X.outer) (by rw [hA, I.ok.frames, lv1]) lv2 (fun b o q => of_hideAll _ q) (by rw [← lv1]; exact funFrames_hide I.stack hin) hx fun h2 a0 fl ups => hQ (hideAll s.heap (frs X.stack)) h2 ?_
  have hB := fl.1
  have hkeep : ∀ b o, s.heap.get? b = some o → b ∉ frs X.stack → h2.get? b = some o := fun b o e hb => hB b o (inn b o e hb)
  have hslot : ∀ b o, s.heap.get? b = some o → b ∈ frs X.stack → ∃ sl, h2.get? b = some { o with slots := sl } := fun b o e hb => by
    obtain ⟨_, o', e2, d⟩ := I.stack.mem hb
    rw [e] at e2
    cases e2
    obtain ⟨sl', e3⟩ := ups b o (hx.keeps b o e) d
    exact ⟨sl', e3⟩
  refine ⟨rfl, I.bare, ⟨fun b o x n hb _ => hkeep b o x hb, fun b o x n hb _ => hslot b o x hb, fun b o x n _ => n, fun b o x _ => ?_, fun _ _ z => z, fun _ _ _ z => z, fun _ ps z => ⟨#[], by simpa using z⟩⟩, fun b u eu => ?_, fun b o x n => ?_, fun b o x n hb => inn b o x hb, fun b o x hb => ⟨o, inn b o x hb⟩, fs, ?_, hx.new, a0, ?_⟩
  · by_cases hb : b ∈ frs X.stack
    · obtain ⟨l, e1⟩ := hslot b o x hb; exact ⟨_, e1⟩
    · exact ⟨o, hkeep b o x hb⟩
  · refine (I.hok b u eu).stay (fun c v hb q => hkeep c v q (nfr c ?_)) (fun _ q => q) fun _ _ q => q
    rcases hb with z | z
    · rw [z, eu]; simp
    · rw [z]; simp
  · cases eu : H b with
    | none => exact absurd eu n
    | some u =>
      obtain ⟨o1, e1⟩ := (I.hok b u eu).there
      have e2 := inn b o1 e1 (nfr b n)
      have e3 := hB b o1 e2
      rw [x] at e3
      cases e3
      exact e2
  · cases eu : H a with
    | none => rfl
    | some u =>
      obtain ⟨o1, e1⟩ := (I.hok a u eu).there
      rw [hx.new] at e1
      cases e1
  · rw [← lv1] at fl; exact fl
theorem flx_noted {M : Model} {A : Around} {E' : Value → Shared → Prop} {e : Value} {Q : Unit → Shared → Prop} (lv : Lv X) (hA : A.frames = X.A.frames) (h : FlX X E e s')
    (hQ : ∀ a C pins σ H H' s B s2, e = .ref a → Inv X pins σ H s → E σ C none H' → FlewH X.prog X.w X.stack X.env.locals H H' s a C B s2 → Q () s2) : wpAny M A (noteFrame e X.env) Q E' s' := by
  obtain ⟨a, C, pins, σ, H, H', s, rfl, I, hE, h⟩ := h
  rcases h with ⟨rfl, D, vs, h', rfl, rfl, hx⟩ | ⟨B, F⟩ | ⟨B, F⟩
  · exact made_noted lv hA I hx fun B h2 F => hQ _ _ _ _ _ _ _ _ _ rfl I hE F
  · obtain ⟨a0, fl⟩ := F.fly
    have fl' : Heap.FlyingW B (X.env :: X.outer) a C a0 s'.heap := by rw [← lv.1]; exact fl
    refine wpAny_looks_onW (by rw [hA, I.ok.frames, lv.1]) lv.2 fl' fun h2 hh hs => hQ _ _ _ _ _ _ _ _ _ rfl I hE (F.noted hs ⟨a0, by rw [lv.1]; exact hh⟩)
  · obtain ⟨a0, fl⟩ := F.fly
    exact wpAny_noteFrame_againW lv.2 fl.2.2.2 (hQ _ _ _ _ _ _ _ _ _ rfl I hE F)
end
section
variable {P : Program} {w : World} {K : PySem.W.Frag} {mg : Str → Option Value} {base : Heap} {N : List Str} {qual : Str} {scope : Scope} {f : Addr} {cd : Value} {A : Around} {outer : List Env} {s : Shared} {H : Hp} {E : XK}
theorem flx_leave {e : Value} {s' : Shared} (h : FlX (cxOf (CXr P w) P w K mg base N qual scope f cd A outer s H E) (fun _ => E) e s') : (cxOf (CXr P w) P w K mg base N qual scope f cd A outer s H E).xe e s' := by
  obtain ⟨a, C, pins, σ, H1, H', s1, rfl, I, hE, h⟩ := h
  rcases h with ⟨rfl, D, vs, h', rfl, rfl, hx⟩ | ⟨B, F⟩ | ⟨B, F⟩
  · exact raised I hx hE
  · exact pass_on (E' := E) (fun _ _ _ z => z) pins σ H1 s1 _ s' I ⟨a, C, H', B, rfl, F, hE⟩
  · obtain ⟨a0, fl⟩ := F.fly
    show wpAny (model P w) (A.deeper (envOfC qual scope s.heap.objs.size f cd)) (leaving (envOfC qual scope s.heap.objs.size f cd) (.ref a)) _ _ _
    unfold leaving
    refine wpAny_bind (wpAny_noteFrame_againW rfl fl.2.2.2 (wpAny_landsW fl fun h2 fl2 ups => ?_))
    have F2 := F.lands ups ⟨a0, fl2⟩
    have I2 := Flew.inv (X := cxOf (CXr P w) P w K mg base N qual scope f cd A outer s H E) F2 I
    have out : ∀ b o, s.heap.get? b = some o → b ∉ frs outer → b ∉ frs (envOfC qual scope s.heap.objs.size f cd :: outer) := fun b o e hb z => by
      have z : b ∈ s.heap.objs.size :: frs outer := z
      rcases List.mem_cons.mp z with q | q
      · rw [q] at e; exact Nat.lt_irrefl _ (Heap.lt_size e)
      · exact hb q
    obtain ⟨f1, f2, ⟨_, _, f3⟩, f4⟩ := id fl2
    refine ⟨a, C, H', B, rfl, ⟨I2.os, F2.bare, ⟨fun b o x n hb _ => I2.base.keep b o x n hb (by simp [cxOf]), fun b o x n hb _ => I2.base.slot b o x n hb (by simp [cxOf]), fun b o x n _ => I2.base.free b o x n (by simp [cxOf]), fun b o x _ => I2.base.there b o x (by simp [cxOf]), I2.base.tups, I2.base.frzs, I2.base.tbls⟩, F2.hok, F2.trk,
      fun b o x n hb => F2.old b o (I.base.keep b o x n hb (by simp [cxOf])) (I.base.free b o x n (by simp [cxOf])) (out b o x hb), fun b o x hb => ?_, I.ok.frf, F2.unt, ?_, a0, f1, f2, f3, f4⟩, hE⟩
    · obtain ⟨o1, e1⟩ := I.base.there b o x (by simp [cxOf])
      exact F2.thr b o1 e1 (out b o x hb)
    · cases eo : s.heap.get? a with
      | none => rfl
      | some o =>
        obtain ⟨o1, e1⟩ := I.base.there a o eo (by simp [cxOf])
        rw [F2.new] at e1
        cases e1
end
end L2
set_option Elab.async false
set_option linter.all false
set_option maxRecDepth 100000
namespace L2
open PySem PySem.W PySem.Spec PyProof.Rows
abbrev Cx.fl (X : Cx) (E : St → XK) : Cx := X.wish (FlX X E)
abbrev veBm : List Value := [.type "ValueError", .type "Exception", .type "BaseException", .type "object"]
abbrev RaiseIn (K : Frag) (C : Addr) : Prop := excIn K C veBm "ValueError.__new__" = true
theorem excObj_of {K : Frag} {h : Heap} {C : Addr} {bmB : List Value} {newId : String} (X : K.In h) (q : excIn K C bmB newId = true) :
    ∃ bm N nm q bs hdct sn sub ab col dd k0 k1 k2 k3 k5 mN, h.get? C = some (excClassObj nm q C N bs bm hdct sn sub ab col dd k0 k1 k2 k3 k5 newId) ∧ h.Ns N mN ∧ mN "__init__" = none ∧ OwnTail h bmB bm := by
  unfold excIn at q
  split at q
  · rename_i dd cd sl ho
    split at q
    · rename_i C' bm k0 k1 k2 k3 n k5 hm hs
      simp only [Bool.and_eq_true, beq_iff_eq, Bool.not_eq_true'] at q
      obtain ⟨⟨⟨⟨⟨rfl, rfl⟩, hdel⟩, ht⟩, hok⟩, hni⟩ := q
      obtain ⟨nm, bs, mro, ns, qn, hd, sn, sub, ab, col, del⟩ := cd
      dsimp only at hm hdel hok hni
      subst hm hdel
      have hsl : sl = #[k0, k1, k2, k3, some (.builtin n), k5] := by
        obtain ⟨l⟩ := sl
        simp only at hs
        rw [hs]
      subst hsl
      exact ⟨bm, ns, nm, qn, bs, hd, sn, sub, ab, col, dd, k0, k1, k2, k3, k5, _, X _ _ ho, .of_isNs (isNs_of_in X hok), nsMap_none_of_in X hok hni, tail_of_in X ht⟩
    · cases q
  · cases q
section
variable {X : Cx} {E : St → XK} {e : Expr} {te : TE} {np cpos pos : Pos} {x : Str} {C : Addr}
theorem ps_raise (he : PE (X.fl E) e te) (hg : Gl (X.fl E) x) (hm : X.mg x = some (.ref C)) (hC : RaiseIn X.K C) (hc : X.calm = true) (hd : (x == ("__debug__" : Str)) = false := by decide)
    (hs : starEach [e] X.env = [(false, eval e X.env)] := by rfl) : PS (X.fl E) (.Raise (some (.Call (.Name x np) [e] [] cpos)) none pos) (fun _ σ H => te σ H fun _ H1 => E σ (.ref C) none H1) := by
  intro pins s σ H D I h
  obtain ⟨tl, N, nm, q, bs, hdct, sn, sub, ab, col, dd, k0, k1, k2, k3, k5, mN, hCo, hN, hni, T⟩ := excObj_of I.kIn hC
  have hpl : (backTo cpos (starEach [e] X.env)).any (·.1) = false := by rw [hs]; rfl
  refine wpAny_Raise_call_subT (C := C) (nm := nm) (q := q) (N := N) (bs := bs) (bm := tl) (hdct := hdct) (sn := sn) (sub := sub) (ab := ab) (col := col) (dd := dd) (k0 := k0) (k1 := k1) (k2 := k2) (k3 := k3) (k5 := k5)
    PySem.F.excBase_ValueError (mN := mN) (T.hasType PySem.F.excBase_ValueError.hasBase) (I.ok.hd hc) hpl hni (ld_glob I hg hm ⟨rfl, ?_⟩ hd)
  show wpAny _ _ (evalArgs (.ref C) true (backTo cpos (starEach [e] X.env)) []) _ _ _
  have hpa : PA (X.fl E) [e] (tCons te tNil) := pa_cons he pa_nil (by show starEach [e] X.env = (false, eval e X.env) :: starEach [] X.env; rw [hs]; rfl)
  have hq := hpa cpos pins s σ H (fun vs H1 => vs.length = 1 ∧ E σ (.ref C) none H1) I (by
    unfold tCons tNil
    have z : te σ H (fun v H1 => E σ (.ref C) none H1) := h
    simpa using z)
  have hq : wpAny (model X.prog X.w) X.A (spliced (backTo cpos (starEach [e] X.env))) (AP (X.fl E) pins σ (fun vs H1 => vs.length = 1 ∧ E σ (.ref C) none H1)) (FlX X E) s := hq
  rw [hs] at hq ⊢
  refine Calls.evalArgs_plain (thn hq fun us s2 ⟨vs, H2, I2, r, hl, hE⟩ => ?_)
  obtain ⟨tl', N', nm', q', bs', hdct', sn', sub', ab', col', dd', k0', k1', k2', k3', k5', mN', hCo', hN', hni', T'⟩ := excObj_of I2.kIn hC
  have kx := I2.kIn
  have base : ∀ b o, X.base.get? b = some o → s2.heap.get? b = some o := I2.bk
  have kb : X.K.In X.base := I.ok.mod.kin
  obtain ⟨tl3, N3, nm3, q3, bs3, hdct3, sn3, sub3, ab3, col3, dd3, k03, k13, k23, k33, k53, mN3, hCo3, hN3, hni3, T3⟩ := excObj_of kb hC
  have e1 := (I.bk _ _ hCo3).symm.trans hCo
  cases e1
  obtain ⟨o4, es4, ep4, ho4, hd4, hs4, hf4⟩ := hN
  obtain ⟨o5, es5, ep5, ho5, hd5, hs5, hf5⟩ := hN3
  have e2 := (I.bk _ _ ho5).symm.trans ho4
  cases e2
  rw [hd4] at hd5
  cases hd5
  refine ⟨rfl, by rw [← r.length, hl]; decide, base _ _ hCo3, ⟨_, _, _, base _ _ ho5, hd4, hs4, hf4⟩, T3.keeps base, fun h' a hx => ?_⟩
  exact ⟨a, .ref C, pins, σ, H2, H2, s2, rfl, I2.unwish, hE, .inl ⟨rfl, C, us, h', rfl, rfl, hx⟩⟩
end
def DfX (P : Program) (w : World) (K : PySem.W.Frag) (mg : Str → Option Value) (base : Heap) (k : Nat) (x : Str) (ps : List Str) (sp : Sp) : Prop :=
  ∃ f fd, FnOk P w K mg base (CXr P w) k f fd ps sp ∧ Binds K fd ps [] ∧ PySem.W.keepIn K (.ref f) = true ∧ mg x = some (.ref f)
theorem DfX.mono {P : Program} {w : World} {K : PySem.W.Frag} {mg : Str → Option Value} {base : Heap} {j k : Nat} {x : Str} {ps : List Str} {sp : Sp} (D : DfX P w K mg base j x ps sp) (h : j ≤ k) : DfX P w K mg base k x ps sp := let ⟨f, fd, F, r⟩ := D; ⟨f, fd, F.mono h, r⟩
theorem DfX.imp {P : Program} {w : World} {K : PySem.W.Frag} {mg : Str → Option Value} {base : Heap} {k : Nat} {x : Str} {ps : List Str} {sp sp' : Sp} (D : DfX P w K mg base k x ps sp) (h : ∀ vs H Q E, sp' vs H Q E → sp vs H Q E) : DfX P w K mg base k x ps sp' := let ⟨f, fd, F, r⟩ := D; ⟨f, fd, F.imp h, r⟩
section
variable {X : Cx} {E : St → XK} {k : Nat} {x m : Str} {ps : List Str} {sp : Sp} {e o : Expr} {es : List Expr} {t : TA} {ta : TE} {p pos apos : Pos} {f C : Addr} {fd : FuncData}
theorem run_fnX {pins : List (Addr × Obj)} {σ : St} {H : Hp} {s : Shared} {Q : VK} {us : List Value} {vs : List V} (F : FnOk X.prog X.w X.K X.mg X.base (CXr X.prog X.w) k f fd ps sp) (hr : Room k X.A) (hb : Binds X.K fd ps [])
    (I : Inv (X.fl E) pins σ H s) (r : Vals vs us) (h : sp vs H Q (E σ)) : wpAny (model X.prog X.w) X.A (call (.ref f) us) (EP (X.fl E) pins σ Q) (FlX X E) s := by
  have hl : us.length = ps.length := by rw [← r.length]; exact F.len _ _ _ _ h
  have hb' := hb s us I.kIn (by simpa using hl)
  simp only [List.append_nil] at hb'
  refine wpAny_call (codeAny_mono (F.run X.A X.stack s H ⟨us, []⟩ us vs Q (E σ) hr I.env0 hb' r h) fun r s' hq => ?_)
  cases r with
  | error e =>
    obtain ⟨a, C, H', B, rfl, F, hE⟩ := hq
    exact ⟨a, C, pins, σ, H, H', s, rfl, I.unwish, hE, .inr (.inl ⟨B, F⟩)⟩
  | ok fl =>
    cases fl with
    | ret u => exact I.after hq
    | next => exact False.elim hq
    | brk => exact False.elim hq
    | cont => exact False.elim hq
theorem pe_dfX (D : DfX X.prog X.w X.K X.mg X.base k x ps sp) (hr : Room k X.A) (ha : PA (X.fl E) (e :: es) t) (hg : Gl X x := by rfl) (hdb : (x == ("__debug__" : Str)) = false := by decide)
    (he : starEach (e :: es) X.env = (false, eval e X.env) :: starEach es X.env := by rfl) (hpl : (backTo pos (starEach es X.env)).any (·.1) = false := by rfl) :
    PE (X.fl E) (.Call (.Name x p) (e :: es) [] pos) (fun σ H Q => t σ H fun vs H1 => sp vs H1 Q (E σ)) := by
  obtain ⟨f, fd, F, hb, hk, hm⟩ := D
  intro pins s σ H Q I h
  refine wpAny_Call_Name_kw (ld_glob I hg hm ?_ hdb)
  refine PySem.W.callWith_K (h₀ := X.base) I.ok.mod.kin hk (thn (ha pos pins s σ H _ I h) fun us s1 ⟨vs, H1, I1, r, q⟩ => ⟨I1.kIn, ?_⟩) he hpl
  exact run_fnX F hr hb I1 r q
end
theorem Fun.okX {P : Program} {w : World} {K : PySem.W.Frag} {mg : Str → Option Value} {base : Heap} {x qual : Str} {st : Stmt} {f : Addr} {fd : FuncData} {N ps : List Str} {k : Nat} {sp : Sp} (F : Fun K x qual st f fd) (S : FnScope N ps (defScope st)) (len : ∀ vs H Q E, sp vs H Q E → vs.length = ps.length)
    (hbody : ∀ (cdv : Value) (A : Around) (outer : List Env) (s : Shared) (H : Hp) (vs : List V) (Q : VK) (E : XK), Room k (A.deeper (envOfC qual (defScope st) s.heap.objs.size f cdv)) → sp vs H Q E →
      ∃ t, PSs ((cxOf (CXr P w) P w K mg base N qual (defScope st) f cdv A outer s H E).fl fun _ => E) (defBody st) t ∧ t { nx := fun _ H' => Q .non H', rt := Q } (start N vs) H) : FnOk P w K mg base (CXr P w) (k + 1) f fd ps sp := by
  obtain ⟨oc, od, kV, doc, pm, an, cdv, ct, osl, rfl, lk, hcd⟩ := F.ex
  refine fn_of lk hcd S len fun A outer s H vs Q E hr hsp => ?_
  obtain ⟨t, h, q⟩ := hbody cdv A outer s H vs Q E hr hsp
  refine ⟨t, fun pins s σ H D I hw => ?_, q⟩
  exact wpAny_mono (h pins s σ H D (I.wish _) hw) (fun _ _ z => z.unwish) fun e s' z => flx_leave z
end L2
set_option Elab.async false
set_option linter.all false
set_option maxRecDepth 100000
namespace L2
open PySem PySem.W PySem.Spec PyProof.Rows
abbrev Cx.mkd (X : Cx) (e : Addr) : Cx := { X with A := X.A.mark (some (.ref e)), calm := false, xe := fun _ _ => False }
theorem Inv.mkd {X : Cx} {pins : List (Addr × Obj)} {σ : St} {H : Hp} {s : Shared} (I : Inv X pins σ H s) (e : Addr) : Inv (X.mkd e) pins σ H s :=
  ⟨⟨I.ok.mod, I.ok.kind, I.ok.glob, I.ok.blt, I.ok.above, I.ok.inj, I.ok.has, I.ok.cab, (fun z => nomatch z), I.ok.frames, I.ok.stk, I.ok.exf, I.ok.bs, I.ok.bsz, I.ok.noex, I.ok.exfs, I.ok.funs, I.ok.frf⟩, I.os, I.bare, I.base, I.loc, I.cell, I.free, I.freeC, I.pin, I.hok, I.len⟩
theorem Inv.unmkd {X : Cx} {pins : List (Addr × Obj)} {σ : St} {H : Hp} {s : Shared} {e : Addr} (ok : X.Ok) (I : Inv (X.mkd e) pins σ H s) : Inv X pins σ H s :=
  ⟨ok, I.os, I.bare, I.base, I.loc, I.cell, I.free, I.freeC, I.pin, I.hok, I.len⟩
theorem Inv.pn {X : Cx} {pins qs : List (Addr × Obj)} {σ : St} {H : Hp} {s : Shared} (I : Inv X (pins ++ qs) σ H s) : Inv { X with pn := X.pn ++ pins } qs σ H s :=
  ⟨⟨I.ok.mod, I.ok.kind, I.ok.glob, I.ok.blt, I.ok.above, I.ok.inj, I.ok.has, I.ok.cab, I.ok.hd, I.ok.frames, I.ok.stk, I.ok.exf, I.ok.bs, I.ok.bsz, I.ok.noex, I.ok.exfs, I.ok.funs, I.ok.frf⟩, I.os, I.bare, I.base, I.loc, I.cell, I.free, I.freeC, fun p hp => I.pin p (by
    show p ∈ X.pn ++ (pins ++ qs)
    have hp : p ∈ (X.pn ++ pins) ++ qs := hp
    rwa [List.append_assoc] at hp), I.hok, I.len⟩
theorem Inv.unpn {X : Cx} {pins qs : List (Addr × Obj)} {σ : St} {H : Hp} {s : Shared} (I : Inv { X with pn := X.pn ++ pins } qs σ H s) : Inv X (pins ++ qs) σ H s :=
  ⟨⟨I.ok.mod, I.ok.kind, I.ok.glob, I.ok.blt, I.ok.above, I.ok.inj, I.ok.has, I.ok.cab, I.ok.hd, I.ok.frames, I.ok.stk, I.ok.exf, I.ok.bs, I.ok.bsz, I.ok.noex, I.ok.exfs, I.ok.funs, I.ok.frf⟩, I.os, I.bare, I.base, I.loc, I.cell, I.free, I.freeC, fun p hp => I.pin p (by
    show p ∈ (X.pn ++ pins) ++ qs
    have hp : p ∈ X.pn ++ (pins ++ qs) := hp
    rwa [← List.append_assoc] at hp), I.hok, I.len⟩
theorem Inv.fewer {X : Cx} {pins qs : List (Addr × Obj)} {σ : St} {H : Hp} {s : Shared} (I : Inv X (pins ++ qs) σ H s) : Inv X pins σ H s :=
  ⟨I.ok, I.os, I.bare, I.base, I.loc, I.cell, I.free, I.freeC, fun p hp => I.pin p (by
    show p ∈ X.pn ++ (pins ++ qs)
    have hp : p ∈ X.pn ++ pins := hp
    simp only [List.mem_append] at hp ⊢
    rcases hp with h | h
    · exact .inl h
    · exact .inr (.inl h)), I.hok, I.len⟩
section
variable {P : Program} {w : World} {outer : List Env} {H H' : Hp} {s s' : Shared} {e D : Addr} {B : Heap}
theorem Flew.track (F : Flew P w outer H H' s e (.ref D) B s') : Un (frs outer) [] H (upd H' e (excO e D)) s.heap s'.heap ∧ HOk P w (upd H' e (excO e D)) s'.heap := by
  obtain ⟨a0, fl⟩ := F.fly
  obtain ⟨ob, h1, h2⟩ := fl.there
  have ne : ∀ b o, H' b = some o → b ≠ e := fun b o q z => by rw [z, F.unt] at q; cases q
  refine ⟨⟨F.un.keep, F.un.slot, fun b o x n hx => ?_, F.un.there, fun b xs q => ?_, fun b o u q => ?_, fun b ps q => ?_⟩, fun b o q => ?_⟩
  · have : b ≠ e := fun z => by rw [z, F.new] at x; cases x
    rw [upd_ne this]
    exact F.un.free b o x n hx
  · have z := F.un.tups b xs q
    rw [upd_ne (ne _ _ z)]; exact z
  · have z := F.un.frzs b o u q
    rw [upd_ne (ne _ _ z)]; exact z
  · obtain ⟨m, z⟩ := F.un.tbls b ps q
    exact ⟨m, by rw [upd_ne (ne _ _ z)]; exact z⟩
  · by_cases hb : b = e
    · subst hb
      rw [upd_same] at q
      cases q
      refine ⟨⟨ob, h1, h2⟩, ⟨ob, h1⟩, ?_⟩
      rintro g1 g2 ⟨o, z1, z2⟩ k
      exact ⟨o, k o z1, z2⟩
    · rw [upd_ne hb] at q
      refine (F.hok b o q).stay (fun _ _ _ z => z) (fun c z => ?_) fun c xs z => ?_
      · rw [upd_ne (ne _ _ z)]; exact z
      · rw [upd_ne (ne _ _ z)]; exact z
end
theorem name_goes_ok {M : Model} {A : Around} {E : Value → Shared → Prop} {X : Cx} {pins : List (Addr × Obj)} {σ : St} {H : Hp} {s : Shared} {i : Nat} {n : Str} {pos : Pos} {Q : Unit → Shared → Prop} (I : Inv X pins σ H s) (hN : X.N.Nodup) (hi : X.N[i]? = some n) (hx : X.env.scope.names.lookup n = some .local)
    (h : ∀ s', Inv X pins (σ.set i none) H s' → Q () s') : wpAny M A (do bindName X.env n .none; unbindBehindTheSuite X.env n pos) Q E s := by
  obtain ⟨m, hn, hl⟩ := id I.loc
  have hcls : (X.env.scope.kind == .class || (X.env.scope.kind == .module && X.env.locals != X.env.globals)) = false := by rw [I.ok.kind]; rfl
  have cne := I.cne
  refine wpAny_nameGoes_keeps hx hn hcls fun h' v hn' hs => ?_
  obtain ⟨oL, _, _, hoL, _⟩ := id hn
  have tracked : HOk X.prog X.w H h' := fun b ob e => by
    refine (I.hok b ob e).stay (fun c w' hc q => (hs.2 c ?_).trans q) (fun _ q => q) fun _ _ q => q
    rintro rfl
    rcases hc with rfl | hc
    · rw [I.free] at e; cases e
    · rw [I.free] at hc; cases hc
  refine h _ ⟨I.ok, I.os, I.bare, ⟨fun b o e n hb hx => ?_, fun b o e n hb hx => ?_, I.base.free, fun b o e hx => ?_, I.base.tups, I.base.frzs, I.base.tbls⟩, ⟨_, hn', fun j y v' e1 e2 e3 => ?_⟩, fun y c e => ?_, I.free, I.freeC, fun p hp => ?_, tracked, by simpa using I.len⟩
  · exact (hs.2 b (Nat.ne_of_lt (Nat.lt_of_lt_of_le (Heap.lt_size e) I.ok.above))).trans (I.base.keep b o e n hb hx)
  · obtain ⟨sl, e1⟩ := I.base.slot b o e n hb hx
    exact ⟨sl, (hs.2 b (Nat.ne_of_lt (Nat.lt_of_lt_of_le (Heap.lt_size e) I.ok.above))).trans e1⟩
  · obtain ⟨o', e1⟩ := I.base.there b o e hx
    exact ⟨o', (hs.2 b (Nat.ne_of_lt (Nat.lt_of_lt_of_le (Heap.lt_size e) I.ok.above))).trans e1⟩
  · by_cases hj : j = i
    · subst hj
      have : j < σ.length := by
        have := (List.getElem?_eq_some_iff.mp e2).1
        simpa using this
      rw [List.getElem?_set_self this] at e2
      cases e2
    · rw [List.getElem?_set_ne (Ne.symm hj)] at e2
      obtain ⟨u, ru, lk⟩ := hl j y v' e1 e2 e3
      refine ⟨u, ru, ?_⟩
      have hyn : y ≠ n := fun z => hj ((List.getElem?_inj (List.getElem?_eq_some_iff.mp e1).1 hN).mp (by rw [e1, hi, z]))
      rcases lk with ⟨k1, k2⟩ | ⟨k1, c, k2, k3⟩
      · exact .inl ⟨k1, by show (if y = n then v else m y) = some u; rw [if_neg hyn]; exact k2⟩
      · refine .inr ⟨k1, c, k2, ?_⟩
        obtain ⟨oc, ho, hd⟩ := k3
        exact ⟨oc, (hs.2 c (cne _ _ k2)).trans ho, hd⟩
  · obtain ⟨w', oc, ho, hd⟩ := I.cell y c e
    exact ⟨w', oc, (hs.2 c (cne _ _ e)).trans ho, hd⟩
  · obtain ⟨p1, p2, p3, p4, p5⟩ := I.pin p hp
    exact ⟨(hs.2 _ p3).trans p1, p2, p3, p4, p5⟩
end L2
set_option Elab.async false
set_option linter.all false
set_option maxRecDepth 100000
namespace L2
open PySem PySem.W PySem.Spec PyProof.Rows
def Ends.gone (D : Ends) (i : Nat) : Ends := { nx := fun σ H => D.nx (σ.set i none) H, rt := D.rt, bk := fun σ H => D.bk (σ.set i none) H, ct := fun σ H => D.ct (σ.set i none) H }
section
variable {X : Cx} {body suite : List Stmt} {b₀ : Stmt} {p hp pos : Pos} {n y : Str} {i : Nat} {C0 : Addr} {tb : (St → XK) → TS} {ts : TS}
theorem ps_try (lv : Lv X) (hN : X.N.Nodup) (hi : X.N[i]? = some n) (hl : X.env.scope.names.lookup n = some .local) (hg : Gl X y) (hm : X.mg y = some (.ref C0))
    (hb : ∀ pn E, PSs (Cx.fl { X with pn := pn } E) body (tb E)) (hs : ∀ e, PSs (X.mkd e) (b₀ :: suite) ts) (hd : (y == ("__debug__" : Str)) = false := by decide) :
    PS X (.Try body [.ExceptHandler (some (.Name y p)) (some n) (b₀ :: suite) hp] [] [] pos)
      (fun D σ H => tb (fun σ' C _ H' => ∃ E1, C = .ref E1 ∧ exmOne X.K (.ref E1) (.ref C0) = some true ∧ ∀ a, H' a = none → ts (D.gone i) (σ'.set i (some (.ref a))) (upd H' a (excO a E1))) D σ H) := by
  intro pins s σ H D I h
  have I0 : Inv { X with pn := X.pn ++ pins } [] σ H s := Inv.pn (qs := []) (by simpa using I)
  have lv' : Lv { X with pn := X.pn ++ pins } := lv
  have key : ∃ E0 : St → XK, tb E0 D σ H ∧ ∀ σ' C d H', E0 σ' C d H' → ∃ E1, C = .ref E1 ∧ exmOne X.K (.ref E1) (.ref C0) = some true ∧ ∀ a, H' a = none → ts (D.gone i) (σ'.set i (some (.ref a))) (upd H' a (excO a E1)) := ⟨_, h, fun _ _ _ _ z => z⟩
  obtain ⟨E0, h, hE0⟩ := key
  refine wpAny_Try_except (wpAny_mono (hb _ _ [] s σ H D (I0.wish _) h) (fun f s1 q => ?_) fun e s1 q => ?_)
  · have back : ∀ {σ' : St} {H' : Hp}, Inv (Cx.fl { X with pn := X.pn ++ pins } E0) [] σ' H' s1 → Inv X pins σ' H' s1 := fun J => Inv.fewer (qs := []) (Inv.unpn J.unwish)
    cases f with
    | next =>
      obtain ⟨σ', H', J, z⟩ := q
      exact wpAny_execs_nil ⟨σ', H', back J, z⟩
    | brk => obtain ⟨σ', H', J, z⟩ := q; exact ⟨σ', H', back J, z⟩
    | cont => obtain ⟨σ', H', J, z⟩ := q; exact ⟨σ', H', back J, z⟩
    | ret u => obtain ⟨v, σ', H', J, r, z⟩ := q; exact ⟨v, σ', H', back J, r, z⟩
  · refine flx_noted (X := { X with pn := X.pn ++ pins }) (E := E0) lv' rfl q fun a C qs σ1 H1 H' s0 B s2 he J hE F => ?_
    subst he
    obtain ⟨E1, rfl, hx, hts⟩ := hE0 _ _ _ _ hE
    obtain ⟨a0, fl⟩ := F.fly
    refine wpAny_landsW fl fun h3 fl3 ups3 => ?_
    have F3 := F.lands ups3 ⟨a0, fl3⟩
    have J0 : Inv X (pins ++ qs) σ1 H1 s0 := Inv.unpn J
    have I3 : Inv X (pins ++ qs) σ1 H' { s2 with heap := h3 } := Flew.inv (X := X) F3 J0
    have LT : ∀ {M : Model} {h : Heap}, (∃ o, h.get? a = some o ∧ o.cls = .ref E1) → Looks M h (typeOf (.ref a)) (.ref E1) := fun {M h} ⟨o, z1, z2⟩ => z2 ▸ (Looks.ld z1).andThen .now
    refine wpAny_handleBy_cons (codeAny_handlers_test ?_) (by intro q; cases q)
    refine ld_glob (X := X.mkd a) (I3.mkd a) hg hm ?_ hd
    have hth : ∃ o, h3.get? a = some o ∧ o.cls = .ref E1 := fl3.there
    refine (exm_one (I3.kIn) (LT hth) hx).at ?_
    refine codeAny_handlers_suite_as ?_
    refine lands_againW fl3 fun h4 fl4 ups4 => ?_
    have F4 := F3.next ups4 ⟨a0, fl4⟩
    obtain ⟨un4, hok4⟩ := F4.track
    have I4 : Inv X (pins ++ qs) σ1 (upd H' a (excO a E1)) { s2 with heap := h4 } := J0.call' (ch := []) F4.os un4 hok4 F4.bare fun _ z => nomatch z
    refine store_ok (X := X.mkd a) (v := .ref a) (i := i) (I4.mkd a) hN hi (.inl hl) rfl (fun s5 I5 => ?_) (.inr hl)
    refine wpAny_mono (hs a (pins ++ qs) s5 _ _ (D.gone i) I5 (hts a F4.unt)) (fun f s6 z => ?_) fun _ _ z => False.elim z
    have fin : ∀ {σ' : St} {H'' : Hp} {R : Shared → Prop}, Inv (X.mkd a) (pins ++ qs) σ' H'' s6 → (∀ s7, Inv X pins (σ'.set i none) H'' s7 → R s7) → wpAny (model X.prog X.w) X.A (do bindName X.env n .none; unbindBehindTheSuite X.env n hp) (fun _ s7 => R s7) X.xe s6 := fun {σ' H'' R} K6 k =>
      name_goes_ok (X := X) (Inv.unmkd I.ok K6) hN hi hl fun s7 I7 => k s7 (Inv.fewer I7)
    cases f with
    | next => obtain ⟨σ', H'', J6, z⟩ := z; exact fin J6 fun s7 I7 => ⟨_, _, I7, z⟩
    | brk => obtain ⟨σ', H'', J6, z⟩ := z; exact fin J6 fun s7 I7 => ⟨_, _, I7, z⟩
    | cont => obtain ⟨σ', H'', J6, z⟩ := z; exact fin J6 fun s7 I7 => ⟨_, _, I7, z⟩
    | ret u => obtain ⟨v, σ', H'', J6, r, z⟩ := z; exact fin J6 fun s7 I7 => ⟨v, _, _, I7, r, z⟩
end
end L2
set_option Elab.async false
set_option linter.all false
set_option maxRecDepth 100000
namespace L3
open PySem PySem.Spec L2
open PyProof.Rows (envOfC)
inductive Rs (α : Type) where
  | ok (a : α) | ex (C : Addr)
abbrev EX := G → M → Option (Rs D × M)
abbrev BX := G → M → Option (Rs Bool × M)
abbrev LX := G → M → Option (Rs (List D) × M)
abbrev FX := List D → M → Option (Rs D × M)
inductive OutX where
  | nx | bk | ct | rt (d : D) | ex (C : Addr)
abbrev SX := G → M → Option (OutX × G × M)
section
variable (K : PySem.W.Frag) (E : St → XK)
def finR (E : XK) (Q : VK) (W' : Wd) : Rs D → Prop
  | .ok d => ∀ v, DR K W' d v → Q v W'.H
  | .ex C => E (.ref C) none W'.H
def finB (E : XK) (Q : Bool → Hp → Prop) (W' : Wd) : Rs Bool → Prop
  | .ok b => Q b W'.H
  | .ex C => E (.ref C) none W'.H
def finL (E : XK) (Q : List V → Hp → Prop) (W' : Wd) : Rs (List D) → Prop
  | .ok ds => ∀ vs, DRs K W' ds vs → Q vs W'.H
  | .ex C => E (.ref C) none W'.H
def finX (D : Ends) (W' : Wd) (σ' : St) : OutX → Prop
  | .nx => D.nx σ' W'.H
  | .bk => D.bk σ' W'.H
  | .ct => D.ct σ' W'.H
  | .rt d => ∀ v, DR K W' d v → D.rt v W'.H
  | .ex C => E σ' (.ref C) none W'.H
def tX (ev : EX) : TE := fun σ H Q => ∃ (W : Wd) (Γ : G) (r : Rs D) (μ' : M), W.H = H ∧ Ok K W ∧ EnvR K W Γ σ ∧ ev Γ W.μ = some (r, μ') ∧ ∀ W', W'.μ = μ' → Ok K W' → Step W W' → finR K (E σ) Q W' r
def tXB (ev : BX) : TT := fun σ H Q => ∃ (W : Wd) (Γ : G) (r : Rs Bool) (μ' : M), W.H = H ∧ Ok K W ∧ EnvR K W Γ σ ∧ ev Γ W.μ = some (r, μ') ∧ ∀ W', W'.μ = μ' → Ok K W' → Step W W' → finB (E σ) Q W' r
def tXL (ev : LX) : TA := fun σ H Q => ∃ (W : Wd) (Γ : G) (r : Rs (List D)) (μ' : M), W.H = H ∧ Ok K W ∧ EnvR K W Γ σ ∧ ev Γ W.μ = some (r, μ') ∧ ∀ W', W'.μ = μ' → Ok K W' → Step W W' → finL K (E σ) Q W' r
def tXS (es : SX) : TS := fun D σ H => ∃ (W : Wd) (Γ : G) (out : OutX) (Γ' : G) (μ' : M), W.H = H ∧ Ok K W ∧ EnvR K W Γ σ ∧ es Γ W.μ = some (out, Γ', μ') ∧ ∀ W' σ', W'.μ = μ' → Ok K W' → Step W W' → EnvR K W' Γ' σ' → finX K E D W' σ' out
end
def up (ev : EV) : EX := fun Γ μ => (ev Γ μ).bind fun p => some (.ok p.1, p.2)
def upB (ev : BV) : BX := fun Γ μ => (ev Γ μ).bind fun p => some (.ok p.1, p.2)
def upL (ev : LV) : LX := fun Γ μ => (ev Γ μ).bind fun p => some (.ok p.1, p.2)
def upO : Out → OutX
  | .nx => .nx
  | .bk => .bk
  | .ct => .ct
  | .rt d => .rt d
def upS (es : SV) : SX := fun Γ μ => (es Γ μ).bind fun o => some (upO o.1, o.2)
theorem PA_nox {X : Cx} {es : List Expr} {t : TA} (h : PA X.nox es t) : PA X es t := fun pos pins s σ H Q I hw =>
  wpAny_mono (h pos pins s σ H Q (I.wish _) hw) (fun _ _ ⟨v, H', I', r, q⟩ => ⟨v, H', I'.unwish, r, q⟩) fun _ _ z => False.elim z
section
variable {X : Cx} {E : St → XK} {K : PySem.W.Frag} {e : Expr} {es : List Expr} {st : Stmt} {pos p : Pos} {ev : EV} {bv : BV} {lv : LV} {sv : SV}
theorem upB_imp : ∀ σ H Q, tXB K E (upB bv) σ H Q → tDB K bv σ H Q := fun σ H Q h => by
  obtain ⟨W, Γ, r, μ', rfl, ok, en, e, q⟩ := h
  obtain ⟨p, e1, e⟩ := bnd e
  cases e
  exact ⟨W, Γ, p.1, p.2, rfl, ok, en, e1, fun W' h1 h2 h3 => q W' h1 h2 h3⟩
theorem upL_imp : ∀ σ H Q, tXL K E (upL lv) σ H Q → tDL K lv σ H Q := fun σ H Q h => by
  obtain ⟨W, Γ, r, μ', rfl, ok, en, e, q⟩ := h
  obtain ⟨p, e1, e⟩ := bnd e
  cases e
  exact ⟨W, Γ, p.1, p.2, rfl, ok, en, e1, fun v W' h1 h2 h3 h4 => q W' h1 h2 h3 v h4⟩
theorem upS_imp : ∀ D σ H, tXS K E (upS sv) D σ H → tDS K sv D σ H := fun D σ H h => by
  obtain ⟨W, Γ, o, Γ', μ', rfl, ok, en, e, q⟩ := h
  obtain ⟨⟨o1, Γ1, μ1⟩, e1, e⟩ := bnd e
  cases e
  refine ⟨W, Γ, o1, _, _, rfl, ok, en, e1, fun W' σ' h1 h2 h3 h4 => ?_⟩
  have := q W' σ' h1 h2 h3 h4
  cases o1 <;> exact this
theorem yt_up (h : PT X.nox e (tDB K bv)) : PT X e (tXB K E (upB bv)) := PT_imp h.nox upB_imp
theorem ya_up (h : PA X.nox es (tDL K lv)) : PA X es (tXL K E (upL lv)) := PA_imp (PA_nox h) upL_imp
def spX (K : PySem.W.Frag) (f : FX) : Sp := fun vs H Q E => ∃ (W : Wd) (ds : List D) (r : Rs D) (μ' : M), W.H = H ∧ Ok K W ∧ DRs K W ds vs ∧ f ds W.μ = some (r, μ') ∧ ∀ W', W'.μ = μ' → Ok K W' → Step W W' → finR K E Q W' r
def vLX (f : FX) (el : LX) : EX := fun Γ μ => (el Γ μ).bind fun p => match p.1 with
  | .ok ds => f ds p.2
  | .ex C => some (.ex C, p.2)
theorem tLX_imp {f : FX} {el : LX} {r : List V → Hp → VK → XK → Prop} (ra : ∀ vs H Q E, spX K f vs H Q E → r vs H Q E) : ∀ σ H Q, tX K E (vLX f el) σ H Q → tXL K E el σ H fun vs H1 => r vs H1 Q (E σ) := fun σ H Q h => by
  obtain ⟨W, Γ, r, μ', rfl, ok, en, e, q⟩ := h
  obtain ⟨⟨p1, p2⟩, e1, e⟩ := bnd e
  refine ⟨W, Γ, p1, p2, rfl, ok, en, e1, fun W1 hμ ok1 s1 => ?_⟩
  cases p1 with
  | ex C => cases e; exact q W1 hμ ok1 s1
  | ok ds => exact fun vs rv => ra _ _ _ _ ⟨W1, ds, r, μ', rfl, ok1, rv, by rw [hμ]; exact e, fun W2 hμ2 ok2 s2 => q W2 hμ2 ok2 (s1.trans s2)⟩
theorem y_dfX {x : Str} {ps : List Str} {f : FX} {k : Nat} {el : LX} (D : DfX X.prog X.w X.K X.mg X.base k x ps (spX K f)) (hr : Room k X.A) (ha : PA (X.fl E) (e :: es) (tXL K E el)) (hg : Gl X x := by rfl) (hdb : (x == ("__debug__" : Str)) = false := by decide)
    (he : starEach (e :: es) X.env = (false, eval e X.env) :: starEach es X.env := by rfl) (hpl : (backTo pos (starEach es X.env)).any (·.1) = false := by rfl) : PE (X.fl E) (.Call (.Name x p) (e :: es) [] pos) (tX K E (vLX f el)) :=
  PE_imp (pe_dfX D hr ha hg hdb he hpl) (tLX_imp fun _ _ _ _ z => z)
end
end L3
set_option Elab.async false
set_option linter.all false
set_option maxRecDepth 100000
namespace L3
open PySem PySem.Spec L2
open PyProof.Rows (envOfC)
section
variable {X : Cx} {E : St → XK} {K : PySem.W.Frag} {e : Expr} {es : List Expr} {st : Stmt} {rest : List Stmt} {pos p : Pos} {sa sb : SX} {ex : EX}
def sSeqX (a b : SX) : SX := fun Γ μ => (a Γ μ).bind fun o => match o.1 with
  | .nx => b o.2.1 o.2.2
  | x => some (x, o.2)
theorem ys_nil : PSs X [] (tXS K E (upS sNx)) := PSs_imp xs_nil upS_imp
theorem ys_one (h1 : PS X st (tXS K E sa)) : PSs X [st] (tXS K E sa) := pss_one h1
theorem ys_cons (h1 : PS X st (tXS K E sa)) (h2 : PSs X rest (tXS K E sb)) : PSs X (st :: rest) (tXS K E (sSeqX sa sb)) := PSs_imp (pss_cons h1 h2) fun D σ H h => by
  obtain ⟨W, Γ, o, Γ', μ', rfl, ok, en, e, q⟩ := h
  obtain ⟨⟨o1, Γ1, μ1⟩, e1, e⟩ := bnd e
  refine ⟨W, Γ, o1, Γ1, μ1, rfl, ok, en, e1, fun W1 σ1 hμ ok1 s1 en1 => ?_⟩
  cases o1 with
  | nx => exact ⟨W1, Γ1, o, Γ', μ', rfl, ok1, en1, by rw [hμ]; exact e, fun W2 σ2 hμ2 ok2 s2 en2 => q W2 σ2 hμ2 ok2 (s1.trans s2) en2⟩
  | bk => cases e; exact q W1 σ1 hμ ok1 s1 en1
  | ct => cases e; exact q W1 σ1 hμ ok1 s1 en1
  | rt d => cases e; exact q W1 σ1 hμ ok1 s1 en1
  | ex C => cases e; exact q W1 σ1 hμ ok1 s1 en1
def sExprX (ea : EX) : SX := fun Γ μ => (ea Γ μ).bind fun p => match p.1 with
  | .ok _ => some (.nx, Γ, p.2)
  | .ex C => some (.ex C, Γ, p.2)
theorem ys_expr (he : PE X e (tX K E ex)) (hs : swapsWith e none pos.line X.env = pure false := by rfl) : PS X (.Expr e pos) (tXS K E (sExprX ex)) := PS_imp (ps_expr he hs) fun D σ H h => by
  obtain ⟨W, Γ, o, Γ', μ', rfl, ok, en, e, q⟩ := h
  obtain ⟨⟨p1, p2⟩, e1, e⟩ := bnd e
  refine ⟨W, Γ, p1, p2, rfl, ok, en, e1, fun W1 hμ ok1 s1 => ?_⟩
  cases p1 with
  | ex C => cases e; exact q W1 σ hμ ok1 s1 (en.step ok s1)
  | ok d => cases e; exact fun v rv => q W1 σ hμ ok1 s1 (en.step ok s1)
def sIfX (t : BX) (a b : SX) : SX := fun Γ μ => (t Γ μ).bind fun p => match p.1 with
  | .ok c => if c = true then a Γ p.2 else b Γ p.2
  | .ex C => some (.ex C, Γ, p.2)
theorem ys_if {c : Expr} {a b : List Stmt} {bc : BX} (hc : PT X c (tXB K E bc)) (ha : PSs X a (tXS K E sa)) (hb : PSs X b (tXS K E sb)) : PS X (.If c a b pos) (tXS K E (sIfX bc sa sb)) := PS_imp (ps_if hc ha hb) fun D σ H h => by
  obtain ⟨W, Γ, o, Γ', μ', rfl, ok, en, e, q⟩ := h
  obtain ⟨⟨p1, p2⟩, e1, e⟩ := bnd e
  refine ⟨W, Γ, p1, p2, rfl, ok, en, e1, fun W1 hμ ok1 s1 => ?_⟩
  cases p1 with
  | ex C => cases e; exact q W1 σ hμ ok1 s1 (en.step ok s1)
  | ok k =>
    cases k with
    | true =>
      simp only [finB, if_true]
      exact ⟨W1, Γ, o, Γ', μ', rfl, ok1, en.step ok s1, by rw [hμ]; exact e, fun W2 σ2 hμ2 ok2 s2 en2 => q W2 σ2 hμ2 ok2 (s1.trans s2) en2⟩
    | false =>
      simp only [finB, Bool.false_eq_true, if_false]
      exact ⟨W1, Γ, o, Γ', μ', rfl, ok1, en.step ok s1, by rw [hμ]; exact e, fun W2 σ2 hμ2 ok2 s2 en2 => q W2 σ2 hμ2 ok2 (s1.trans s2) en2⟩
def sTry (cs : List Addr) (i : Nat) (body : SX) (suite : SV) : SV := fun Γ μ => (body Γ μ).bind fun o => match o.1 with
  | .nx => some (.nx, o.2)
  | .bk => some (.bk, o.2)
  | .ct => some (.ct, o.2)
  | .rt d => some (.rt d, o.2)
  | .ex C => if C ∈ cs then (suite (o.2.1.set i (some (.ref o.2.2.length))) (o.2.2 ++ [some (.exc C)])).bind fun z => some (z.1, z.2.1.set i none, z.2.2) else none
theorem EnvR.unset {W : Wd} {Γ : G} {σ : St} (e : EnvR K W Γ σ) (i : Nat) : EnvR K W (Γ.set i none) (σ.set i none) where
  len := by simp [e.len]
  at_ j d h := by
    by_cases hj : j = i
    · subst hj
      by_cases hl : j < Γ.length
      · rw [List.getElem?_set_self hl] at h; cases h
      · rw [List.getElem?_eq_none_iff.mpr (by simpa using hl)] at h; cases h
    · rw [List.getElem?_set_ne (Ne.symm hj)] at h ⊢
      exact e.at_ j d h
theorem xs_try {body suite : List Stmt} {b₀ : Stmt} {hp : Pos} {n y : Str} {i : Nat} {C0 : Addr} {sx : SX} {sv : SV} {cs : List Addr} (lv : Lv X) (hN : X.N.Nodup) (hi : X.N[i]? = some n) (hl : X.env.scope.names.lookup n = some .local) (hm : X.mg y = some (.ref C0))
    (hcs : ∀ C ∈ cs, PySem.W.exmOne X.K (.ref C) (.ref C0) = some true)
    (hb : ∀ pn E, PSs (Cx.fl { X with pn := pn } E) body (tXS K E sx)) (hs : ∀ e, PSs (X.mkd e) (b₀ :: suite) (tDS K sv)) (hg : Gl X y := by rfl) (hd : (y == ("__debug__" : Str)) = false := by decide) :
    PS X (.Try body [.ExceptHandler (some (.Name y p)) (some n) (b₀ :: suite) hp] [] [] pos) (tDS K (sTry cs i sx sv)) := PS_imp (ps_try lv hN hi hl hg hm hb hs hd) fun D σ H h => by
  obtain ⟨W, Γ, o, Γ', μ', rfl, ok, en, e, q⟩ := h
  obtain ⟨⟨o1, Γ1, μ1⟩, e1, e⟩ := bnd e
  refine ⟨W, Γ, o1, Γ1, μ1, rfl, ok, en, e1, fun W1 σ1 hμ ok1 s1 en1 => ?_⟩
  cases o1 with
  | nx => cases e; exact q W1 σ1 hμ ok1 s1 en1
  | bk => cases e; exact q W1 σ1 hμ ok1 s1 en1
  | ct => cases e; exact q W1 σ1 hμ ok1 s1 en1
  | rt d => cases e; exact q W1 σ1 hμ ok1 s1 en1
  | ex C =>
    have e : (if C ∈ cs then (sv (Γ1.set i (some (.ref μ1.length))) (μ1 ++ [some (.exc C)])).bind fun z => some (z.1, z.2.1.set i none, z.2.2) else none) = some (o, Γ', μ') := e
    split at e
    · rename_i hC
      obtain ⟨⟨o2, Γ2, μ2⟩, e2, e⟩ := bnd e
      cases e
      refine ⟨C, rfl, hcs C hC, fun a ha => ?_⟩
      have okn := ok_new (x := .exc C) (o := excO a C) ok1 ha rfl
      have sn := step_new (K := K) (x := .exc C) (o := excO a C) ok1 ha
      refine ⟨W1.new a (excO a C) (.exc C), Γ1.set i (some (.ref μ1.length)), o2, Γ2, μ2, rfl, okn, ?_, ?_, fun W2 σ2 hμ2 ok2 s2 en2 => ?_⟩
      · have := (en1.step ok1 sn).set (dr_new (K := K) (W := W1) (p := a) (o := excO a C) (x := .exc C) ok1) i
        rw [hμ] at this
        exact this
      · show sv _ (W1.μ ++ _) = _
        rw [hμ]; exact e2
      · have st := (s1.trans sn).trans s2
        cases o2 with
        | nx => exact q W2 _ hμ2 ok2 st (en2.unset i)
        | bk => exact q W2 _ hμ2 ok2 st (en2.unset i)
        | ct => exact q W2 _ hμ2 ok2 st (en2.unset i)
        | rt d => exact q W2 _ hμ2 ok2 st (en2.unset i)
    · cases e
end
def runX (n m : Nat) (es : SX) : FX := fun ds μ => if ds.length = m then (es (ds.map some ++ List.replicate (n - ds.length) none) μ).bind fun o => match o.1 with
    | .rt d => some (.ok d, o.2.2)
    | .nx => some (.ok .non, o.2.2)
    | .ex C => some (.ex C, o.2.2)
    | _ => none
  else none
theorem fn_x {P : Program} {w : World} {K : PySem.W.Frag} {mg : Str → Option Value} {base : Heap} {x qual : Str} {st : Stmt} {f : Addr} {fd : FuncData} {N ps : List Str} {k : Nat} {es : SX} (F : Fun K x qual st f fd) (S : FnScope N ps (defScope st))
    (hb : ∀ (cdv : Value) (A : Around) (outer : List Env) (s : Shared) (H : Hp) (E : XK), Room k (A.deeper (envOfC qual (defScope st) s.heap.objs.size f cdv)) → PSs ((cxOf (CXr P w) P w K mg base N qual (defScope st) f cdv A outer s H E).fl fun _ => E) (defBody st) (tXS K (fun _ => E) es)) :
    FnOk P w K mg base (CXr P w) (k + 1) f fd ps (spX K (runX N.length ps.length es)) := by
  refine F.okX S (fun vs H Q E h => ?_) (fun cdv A outer s H vs Q E hr h => ?_)
  · obtain ⟨W, ds, r, μ', _, _, rr, e, _⟩ := h
    unfold runX at e
    split at e
    · rename_i hl; rw [← rr.length]; exact hl
    · cases e
  · obtain ⟨W, ds, r, μ', rfl, ok, rr, e, q⟩ := h
    refine ⟨_, hb cdv A outer s W.H E hr, ?_⟩
    unfold runX at e
    split at e
    · obtain ⟨⟨o, Γ', μ2⟩, e1, e⟩ := bnd e
      refine ⟨W, _, o, Γ', μ2, rfl, ok, env_start rr, e1, fun W' σ' hμ ok' s' en' => ?_⟩
      cases o with
      | rt z => cases e; exact q W' hμ ok' s'
      | nx => cases e; exact q W' hμ ok' s' _ .non
      | ex C => cases e; exact q W' hμ ok' s'
      | bk => cases e
      | ct => cases e
    · cases e
end L3
set_option Elab.async false
set_option linter.all false
set_option maxRecDepth 100000
namespace L2
open PySem PySem.W PySem.Spec PyProof.Rows
section
variable {X : Cx} {a b e : Expr} {es : List Expr} {ta : TE} {p pos : Pos} {c : V} {cs : List V}
end
def clV : V → Option Value
  | .ref a => some (.ref a)
  | .ty n => some (.type n)
  | _ => none
theorem clV_is {v : V} {u : Value} (h : clV v = some u) : RelV v u := by
  cases v with
  | ref a => cases h; rfl
  | ty n => cases h; rfl
  | _ => cases h
end L2
namespace L3
open PySem PySem.Spec L2
section
variable {X : Cx} {K : PySem.W.Frag} {a b e : Expr} {es : List Expr} {ea : EV} {p pos : Pos}
def fIsiX (q : Addr → Option Bool) (x : D) (μ : M) : Option (D × M) := match x with
  | .ref k => match μ[k]? with
    | some (some (.exc C)) => (q C).bind fun b => some (.bl b, μ)
    | _ => none
  | _ => none
def IsX (K : PySem.W.Frag) (c : V) (q : Addr → Option Bool) : Prop := ∃ cv, clV c = some cv ∧ ∀ C b, q C = some b → ExcIn K C ∧ PySem.W.kitOne K (.ref C) cv = some b
theorem exc_at {W : Wd} {k : Nat} {C : Addr} {v : V} (ok : Ok K W) (h : W.μ[k]? = some (some (.exc C))) (r : DR K W (.ref k) v) : ∃ a, v = .ref a ∧ W.H a = some (excO a C) := by
  cases r with
  | ref ha =>
    obtain ⟨a', ho, h1, h2, h3⟩ := ok.at_ k _ h
    rw [ha] at h1
    cases h1
    exact ⟨_, rfl, by rw [h2]; cases (show _ = _ from h3); rfl⟩
theorem x_isiX {c : V} {q : Addr → Option Bool} (hq : IsX K c q) (ml : X.mg "isinstance" = none) (ha : PE X a (tD K ea)) (hb : PE X b (tC c)) (hg : Gl X "isinstance" := by rfl) (hs : starEach [a, b] X.env = [(false, eval a X.env), (false, eval b X.env)] := by rfl) (hs2 : starEach [b] X.env = [(false, eval b X.env)] := by rfl) (hK : X.K = K := by rfl) :
    PE X (.Call (.Name "isinstance" p) [a, b] [] pos) (tD K (v1 (fIsiX q) ea)) := PE_imp (eIsiX K ml ha hb hg hs hs2 hK) (t1_imp (by
  intro W x d z μ' Q ok r1 hf qq
  obtain ⟨cv, hcv, hq⟩ := hq
  unfold fIsiX at hf
  split at hf
  · split at hf
    · rename_i C hk
      obtain ⟨b, hb, hf⟩ := bnd hf
      cases hf
      obtain ⟨a', rfl, hh⟩ := exc_at ok hk r1
      obtain ⟨h1, h2⟩ := hq C b hb
      exact ⟨a', C, c, cv, b, rfl, hh, h1, clV_is hcv, h2, qq _ W rfl ok .refl (.bl _)⟩
    · cases hf
  · cases hf))
end
end L3
set_option Elab.async false
set_option linter.all false
set_option maxRecDepth 100000
namespace L3
open PySem PySem.Spec L2
section
variable {X : Cx} {E : St → XK} {K : PySem.W.Frag} {e e2 : Expr} {es : List Expr} {st : List Stmt} {pos p : Pos} {sv : SV}
theorem yss_up (h : PSs X.nox st (tDS K sv)) : PSs X st (tXS K E (upS sv)) := PSs_imp h.nox upS_imp
def runM : List EV → G → M → Option M
  | [], _, μ => some μ
  | ea :: r, Γ, μ => (ea Γ μ).bind fun p => match p.1 with
    | .int i => if i.natAbs.log2 < 1920 then runM r Γ p.2 else none
    | _ => none
def tJ (K : PySem.W.Frag) (l : List EV) : St → Hp → (Hp → Prop) → Prop := fun σ H Q => ∃ (W : Wd) (Γ : G) (μ' : M), W.H = H ∧ Ok K W ∧ EnvR K W Γ σ ∧ runM l Γ W.μ = some μ' ∧ ∀ W', W'.μ = μ' → Ok K W' → Step W W' → Q W'.H
theorem PJ_imp {t t' : St → Hp → (Hp → Prop) → Prop} (h : PJ X es t) (hi : ∀ σ H Q, t' σ H Q → t σ H Q) : PJ X es t' := fun pins s σ H Q acc n a b I hw => h pins s σ H Q acc n a b I (hi _ _ _ hw)
theorem pj0 : PJ X [] (tJ K []) := PJ_imp pj_nil fun σ H Q h => by
  obtain ⟨W, Γ, μ', rfl, ok, en, e, q⟩ := h
  cases e
  exact q W rfl ok .refl
theorem pj_s {x : Str} {j : Nat} {l : List EV} (hx : x.length ≤ 2000) (hr : PJ X es (tJ K l)) : PJ X (.Constant (.str x) j p :: es) (tJ K l) := pj_str hx hr
theorem pj_v {ea : EV} {l : List EV} (he : PE X e (tD K ea)) (hr : PJ X es (tJ K l)) : PJ X (.FormattedValue e (-1) none p :: es) (tJ K (ea :: l)) := PJ_imp (pj_int he hr) fun σ H Q h => by
  obtain ⟨W, Γ, μ', rfl, ok, en, e, q⟩ := h
  obtain ⟨p1, e1, e⟩ := bnd e
  refine ⟨W, Γ, p1.1, p1.2, rfl, ok, en, e1, fun v W1 hμ ok1 s1 r1 => ?_⟩
  split at e
  · rename_i i hi
    split at e
    · rename_i hl
      rw [hi] at r1
      cases r1
      exact ⟨i, rfl, hl, W1, Γ, μ', rfl, ok1, en.step ok s1, by rw [hμ]; exact e, fun W2 hμ2 ok2 s2 => q W2 hμ2 ok2 (s1.trans s2)⟩
    · cases e
  · cases e
def tMsg (K : PySem.W.Frag) (l : List EV) : TE := fun σ H Q => ∃ (W : Wd) (Γ : G) (μ' : M), W.H = H ∧ Ok K W ∧ EnvR K W Γ σ ∧ runM l Γ W.μ = some μ' ∧ ∀ v W', W'.μ = μ' → Ok K W' → Step W W' → Q v W'.H
theorem x_msg {l : List EV} (h : PJ X (e :: e2 :: es) (tJ K l)) (hl : (e :: e2 :: es).length ≤ 400 := by decide) : PE X (.JoinedStr (e :: e2 :: es) pos) (tMsg K l) := PE_imp (pe_join h hl) fun σ H Q h => by
  obtain ⟨W, Γ, μ', rfl, ok, en, e, q⟩ := h
  exact ⟨W, Γ, μ', rfl, ok, en, e, fun W' h1 h2 h3 z => q _ W' h1 h2 h3⟩
def sRaiseM (C : Addr) (l : List EV) : SX := fun Γ μ => (runM l Γ μ).bind fun μ' => some (.ex C, Γ, μ')
theorem ys_raiseM {l : List EV} {x : Str} {C : Addr} {np cpos : Pos} (he : PE (X.fl E).nox e (tMsg K l)) (hm : X.mg x = some (.ref C)) (hC : RaiseIn X.K C) (hg : Gl X x := by rfl) (hc : X.calm = true := by rfl) (hd : (x == ("__debug__" : Str)) = false := by decide)
    (hs : starEach [e] X.env = [(false, eval e X.env)] := by rfl) : PS (X.fl E) (.Raise (some (.Call (.Name x np) [e] [] cpos)) none pos) (tXS K E (sRaiseM C l)) := PS_imp (ps_raise (te := tMsg K l) (PE.nox he) hg hm hC hc hd hs) fun D σ H h => by
  obtain ⟨W, Γ, o, Γ', μ', rfl, ok, en, e, q⟩ := h
  obtain ⟨μ1, e1, e⟩ := bnd e
  cases e
  exact ⟨W, Γ, _, rfl, ok, en, e1, fun v W1 hμ ok1 s1 => q W1 σ hμ ok1 s1 (en.step ok s1)⟩
end
end L3
set_option Elab.async false
set_option linter.all false
set_option maxRecDepth 100000
namespace L2
open PySem PySem.W PySem.Spec PySem.Calls PyProof.Rows PySem.SeqAt
section
variable {X : Cx} {a o : Expr} {ta to : TE} {p pos : Pos}
end
end L2
namespace L3
open PySem PySem.Spec L2
section
variable {X : Cx} {K : PySem.W.Frag} {a : Expr} {ea : EV} {p pos : Pos}
end
end L3
set_option Elab.async false
set_option linter.all false
set_option maxRecDepth 100000
namespace L3
open PySem PySem.Spec L2
class Enc (α : Type) where
  d : α → D
  p : α → PyData
  k : Nat
  py_eq : ∀ (a : α) (μ : M) (n : Nat), k < n → py n μ (d a) = some (p a)
  lay : ∀ a, (p a).canLay0 = true
  dep : ∀ a, (p a).depth ≤ k
  eqv : ∀ a b, PyData.eqv (p a) (p b) = true ↔ a = b
instance encInt : Enc Int where
  d i := .int i
  p i := .int i
  k := 0
  py_eq a μ n h := by cases n with | zero => omega | succ n => rfl
  lay a := rfl
  dep a := by simp [PyData.depth]
  eqv a b := by simp [PyData.eqv]
instance encNat : Enc Nat where
  d i := .int i
  p i := .int i
  k := 0
  py_eq a μ n h := by cases n with | zero => omega | succ n => rfl
  lay a := rfl
  dep a := by simp [PyData.depth]
  eqv a b := by simp [PyData.eqv]; omega
instance encBool : Enc Bool where
  d i := .bl i
  p i := .bool i
  k := 0
  py_eq a μ n h := by cases n with | zero => omega | succ n => rfl
  lay a := rfl
  dep a := by simp [PyData.depth]
  eqv a b := by cases a <;> cases b <;> simp [PyData.eqv]
section
variable {α β γ : Type} [Enc α] [Enc β] [Enc γ]
theorem enc_all {μ : M} {n : Nat} (h : Enc.k α < n) : ∀ l : List α, optAll (py n μ) (l.map Enc.d) = some (l.map Enc.p)
  | [] => rfl
  | a :: r => by simp only [List.map_cons, optAll, Enc.py_eq a μ n h, enc_all h r, Option.bind_some]
theorem lay_all : ∀ l : List α, PyData.canLayAll0 (l.map Enc.p) = true
  | [] => rfl
  | a :: r => by simp only [List.map_cons, PyData.canLayAll0, Enc.lay a, lay_all r, Bool.and_self]
theorem dep_all : ∀ l : List α, PyData.depthAll (l.map Enc.p) ≤ Enc.k α
  | [] => by simp [PyData.depthAll]
  | a :: r => by
    have h1 := Enc.dep a
    have h2 := dep_all r
    simp only [List.map_cons, PyData.depthAll]
    omega
theorem eqv_all : ∀ l m : List α, PyData.eqvAll (l.map Enc.p) (m.map Enc.p) = true ↔ l = m
  | [], [] => by simp [PyData.eqvAll]
  | [], _ :: _ => by simp [PyData.eqvAll]
  | _ :: _, [] => by simp [PyData.eqvAll]
  | a :: r, b :: s => by
    have h1 := Enc.eqv a b
    have h2 := eqv_all r s
    simp only [List.map_cons, PyData.eqvAll, Bool.and_eq_true, h1, h2, List.cons.injEq]
instance encList : Enc (List α) where
  d l := .lst (l.map Enc.d)
  p l := .list (l.map Enc.p)
  k := Enc.k α + 1
  py_eq l μ n h := by
    cases n with
    | zero => omega
    | succ n => rw [py_lst, enc_all (by omega)]; rfl
  lay l := by simp only [PyData.canLay0]; exact lay_all l
  dep l := by
    have := dep_all l
    simp only [PyData.depth]; omega
  eqv l m := by simp only [PyData.eqv]; exact eqv_all l m
instance encPair : Enc (α × β) where
  d a := .tup [Enc.d a.1, Enc.d a.2]
  p a := .tuple [Enc.p a.1, Enc.p a.2]
  k := max (Enc.k α) (Enc.k β) + 1
  py_eq a μ n h := by
    cases n with
    | zero => omega
    | succ n => rw [py_tup]; simp only [optAll, Enc.py_eq a.1 μ n (by omega), Enc.py_eq a.2 μ n (by omega), Option.bind_some]
  lay a := by simp only [PyData.canLay0, PyData.canLayAll0, Enc.lay a.1, Enc.lay a.2, Bool.and_self]
  dep a := by
    have h1 := Enc.dep a.1
    have h2 := Enc.dep a.2
    simp only [PyData.depth, PyData.depthAll]; omega
  eqv a b := by
    obtain ⟨a1, a2⟩ := a
    obtain ⟨b1, b2⟩ := b
    have h1 := Enc.eqv a1 b1
    have h2 := Enc.eqv a2 b2
    simp only [PyData.eqv, PyData.eqvAll, Bool.and_true, Bool.and_eq_true, h1, h2, Prod.mk.injEq]
structure Tri (α β γ : Type) where
  a : α
  b : β
  c : γ
  deriving DecidableEq
instance encTri : Enc (Tri α β γ) where
  d t := .tup [Enc.d t.a, Enc.d t.b, Enc.d t.c]
  p t := .tuple [Enc.p t.a, Enc.p t.b, Enc.p t.c]
  k := max (Enc.k α) (max (Enc.k β) (Enc.k γ)) + 1
  py_eq a μ n h := by
    cases n with
    | zero => omega
    | succ n => rw [py_tup]; simp only [optAll, Enc.py_eq a.a μ n (by omega), Enc.py_eq a.b μ n (by omega), Enc.py_eq a.c μ n (by omega), Option.bind_some]
  lay a := by simp only [PyData.canLay0, PyData.canLayAll0, Enc.lay a.a, Enc.lay a.b, Enc.lay a.c, Bool.and_self]
  dep a := by
    have h1 := Enc.dep a.a
    have h2 := Enc.dep a.b
    have h3 := Enc.dep a.c
    simp only [PyData.depth, PyData.depthAll]; omega
  eqv a b := by
    obtain ⟨a1, a2, a3⟩ := a
    obtain ⟨b1, b2, b3⟩ := b
    have h1 := Enc.eqv a1 b1
    have h2 := Enc.eqv a2 b2
    have h3 := Enc.eqv a3 b3
    simp only [PyData.eqv, PyData.eqvAll, Bool.and_true, Bool.and_eq_true, h1, h2, h3, Tri.mk.injEq]
end
section
variable {μ : M} {x y : D} {a b : PyData}
def isInt : D → Bool
  | .int _ => true
  | _ => false
variable {α : Type} [Enc α] [DecidableEq α] {s t : α}
end
section
variable {Γ : G} {μ : M}
@[simp] theorem up_s {ev : EV} {d : D} {μ1 : M} (h : ev Γ μ = some (d, μ1)) : up ev Γ μ = some (.ok d, μ1) := by unfold up; rw [h]; rfl
theorem upB_s {ev : BV} {b : Bool} {μ1 : M} (h : ev Γ μ = some (b, μ1)) : upB ev Γ μ = some (.ok b, μ1) := by unfold upB; rw [h]; rfl
theorem upL_s {ev : LV} {ds : List D} {μ1 : M} (h : ev Γ μ = some (ds, μ1)) : upL ev Γ μ = some (.ok ds, μ1) := by unfold upL; rw [h]; rfl
theorem upS_s {es : SV} {o : Out} {Γ1 : G} {μ1 : M} (h : es Γ μ = some (o, Γ1, μ1)) : upS es Γ μ = some (upO o, Γ1, μ1) := by unfold upS; rw [h]; rfl
theorem seqX_nx {a b : SX} {Γ1 : G} {μ1 : M} (h : a Γ μ = some (.nx, Γ1, μ1)) : sSeqX a b Γ μ = b Γ1 μ1 := by unfold sSeqX; rw [h]; rfl
theorem seqX_ex {a b : SX} {C : Addr} {Γ1 : G} {μ1 : M} (h : a Γ μ = some (.ex C, Γ1, μ1)) : sSeqX a b Γ μ = some (.ex C, Γ1, μ1) := by unfold sSeqX; rw [h]; rfl
theorem ifX_t {t : BX} {a b : SX} {μ1 : M} (h : t Γ μ = some (.ok true, μ1)) : sIfX t a b Γ μ = a Γ μ1 := by unfold sIfX; rw [h]; rfl
theorem ifX_f {t : BX} {a b : SX} {μ1 : M} (h : t Γ μ = some (.ok false, μ1)) : sIfX t a b Γ μ = b Γ μ1 := by unfold sIfX; rw [h]; rfl
theorem vLX_s {f : FX} {el : LX} {ds : List D} {μ1 : M} (h : el Γ μ = some (.ok ds, μ1)) : vLX f el Γ μ = f ds μ1 := by unfold vLX; rw [h]; rfl
theorem exprX_e {ea : EX} {C : Addr} {μ1 : M} (h : ea Γ μ = some (.ex C, μ1)) : sExprX ea Γ μ = some (.ex C, Γ, μ1) := by unfold sExprX; rw [h]; rfl
theorem try_ex {cs : List Addr} {i : Nat} {b : SX} {s : SV} {C : Addr} {Γ1 Γ2 : G} {μ1 μ2 : M} {o : Out} (h : b Γ μ = some (.ex C, Γ1, μ1)) (hc : C ∈ cs) (h2 : s (Γ1.set i (some (.ref μ1.length))) (μ1 ++ [some (.exc C)]) = some (o, Γ2, μ2)) : sTry cs i b s Γ μ = some (o, Γ2.set i none, μ2) := by
  unfold sTry; rw [h]
  show (if C ∈ cs then _ else none) = _
  rw [if_pos hc, h2]; rfl
theorem runX_rt {n m : Nat} {es : SX} {ds : List D} {d : D} {Γ1 : G} {μ1 : M} (hl : ds.length = m) (h : es (ds.map some ++ List.replicate (n - ds.length) none) μ = some (.rt d, Γ1, μ1)) : runX n m es ds μ = some (.ok d, μ1) := by
  unfold runX; rw [if_pos hl, h]; rfl
theorem runX_ex {n m : Nat} {es : SX} {ds : List D} {C : Addr} {Γ1 : G} {μ1 : M} (hl : ds.length = m) (h : es (ds.map some ++ List.replicate (n - ds.length) none) μ = some (.ex C, Γ1, μ1)) : runX n m es ds μ = some (.ex C, μ1) := by
  unfold runX; rw [if_pos hl, h]; rfl
end
structure Kp (k : Nat) (μ μ' : M) : Prop where
  len : μ.length ≤ μ'.length
  at_ : ∀ j, j < μ.length → j ≠ k → μ'[j]? = μ[j]?
theorem Kp.refl {k : Nat} {μ : M} : Kp k μ μ := ⟨Nat.le_refl _, fun _ _ _ => rfl⟩
theorem Kp.trans {k : Nat} {μ μ1 μ2 : M} (h : Kp k μ μ1) (g : Kp k μ1 μ2) : Kp k μ μ2 := ⟨Nat.le_trans h.len g.len, fun j hj n => (g.at_ j (Nat.lt_of_lt_of_le hj h.len) n).trans (h.at_ j hj n)⟩
theorem Kp.get {k j : Nat} {μ μ' : M} {o : Option O} (h : Kp k μ μ') (e : μ[j]? = some o) (n : j ≠ k) : μ'[j]? = some o := (h.at_ j (List.getElem?_eq_some_iff.mp e).1 n).trans e
structure Gr (μ μ' : M) : Prop where
  len : μ.length ≤ μ'.length
  at_ : ∀ j, j < μ.length → μ'[j]? = μ[j]?
theorem Gr.refl {μ : M} : Gr μ μ := ⟨Nat.le_refl _, fun _ _ => rfl⟩
theorem Gr.trans {μ μ1 μ2 : M} (h : Gr μ μ1) (g : Gr μ1 μ2) : Gr μ μ2 := ⟨Nat.le_trans h.len g.len, fun j hj => (g.at_ j (Nat.lt_of_lt_of_le hj h.len)).trans (h.at_ j hj)⟩
theorem Gr.get {j : Nat} {μ μ' : M} {o : Option O} (h : Gr μ μ') (e : μ[j]? = some o) : μ'[j]? = some o := (h.at_ j (List.getElem?_eq_some_iff.mp e).1).trans e
theorem gr_app {μ ex : M} : Gr μ (μ ++ ex) := ⟨by simp, fun j hj => List.getElem?_append_left hj⟩
theorem Gr.kp {k : Nat} {μ μ' : M} (h : Gr μ μ') : Kp k μ μ' := ⟨h.len, fun j hj _ => h.at_ j hj⟩
end L3
set_option Elab.async false
set_option linter.all false
set_option maxRecDepth 100000
namespace L3
open PySem PySem.Spec L2
open Classical in
noncomputable def qOf (K : PySem.W.Frag) (cv : Value) (C : Addr) : Option Bool := if ExcIn K C then PySem.W.kitOne K (.ref C) cv else none
theorem isX_q {K : PySem.W.Frag} {c : V} {cv : Value} (h : clV c = some cv) : IsX K c (qOf K cv) := ⟨cv, h, fun C b e => by
  unfold qOf at e
  split at e
  · rename_i hC; exact ⟨hC, e⟩
  · cases e⟩
theorem q_of {K : PySem.W.Frag} {cv : Value} {C : Addr} {b : Bool} (h : ExcIn K C) (k : PySem.W.kitOne K (.ref C) cv = some b) : qOf K cv C = some b := by unfold qOf; rw [if_pos h]; exact k
end L3
namespace L3
open PySem PySem.Spec L2
theorem exm_of {K : PySem.W.Frag} {C T : Addr} {cd : ClassData} (h1 : PySem.W.subIn K (.ref T) (.type "BaseException") = some true) (h2 : PySem.W.clsIn K T = some cd) (h3 : PySem.W.typeIn K (.ref T) = some (.type "type")) (h4 : PySem.W.subIn K (.ref C) (.ref T) = some true) : PySem.W.exmOne K (.ref C) (.ref T) = some true := by
  unfold PySem.W.exmOne PySem.W.kitCls
  rw [h1]
  simp only [h2, h3, h4, Option.isSome_some, Bool.true_and, beq_self_eq_true, if_true]
end L3
set_option Elab.async false
set_option linter.all false
set_option maxRecDepth 100000
namespace L2
open PySem PySem.Spec PyProof.Rows
structure RoomU (k : Nat) (A : Around) : Prop where
  dp : A.depth + 3 * k + 5 < recursionLimit
  un : A.units + 16 * k + 200 < cLine
theorem RoomU.mono {j k : Nat} {A : Around} (r : RoomU k A) (h : j ≤ k) : RoomU j A := ⟨by have := r.dp; omega, by have := r.un; omega⟩
theorem Room.u {k : Nat} {A : Around} (r : Room k A) : RoomU k A := ⟨r.dp, r.un⟩
theorem RoomU.deeper {k : Nat} {A : Around} (r : RoomU (k + 1) A) (env : Env) : RoomU k (A.deeper env) :=
  ⟨by have := r.dp; show A.depth + 1 + 3 * k + 5 < _; omega, by have := r.un; show A.units + 3 + 16 * k + 200 < _; omega⟩
theorem RoomU.depth {k : Nat} {A : Around} (r : RoomU k A) : A.depth < recursionLimit := by have := r.dp; omega
def cxU (CX : CXT) (P : Program) (w : World) (K : PySem.W.Frag) (mg : Str → Option Value) (base : Heap) (N : List Str) (qual : Str) (scope : Scope) (f : Addr) (cd : Value) (A : Around) (outer : List Env) (s : Shared) (H : Hp) (E : XK) : Cx := { cxOf CX P w K mg base N qual scope f cd A outer s H E with calm := false }
structure FnOkU (P : Program) (w : World) (K : PySem.W.Frag) (mg : Str → Option Value) (base : Heap) (CX : CXT) (k : Nat) (f : Addr) (fd : FuncData) (ps : List Str) (sp : Sp) : Prop where
  len : ∀ vs H Q E, sp vs H Q E → vs.length = ps.length
  run : ∀ (A : Around) (outer : List Env) (s : Shared) (H : Hp) (args : Args) (us : List Value) (vs : List V) (Q : VK) (E : XK), RoomU k A → Env0 P w K mg base A outer s H → BindsTo s fd args (ps.zip us) → Vals vs us → sp vs H Q E →
    codeAny (model P w) A (.call (.ref f) args) (CR CX outer P w H s Q E) s
theorem inv_startU {CX : CXT} {P : Program} {w : World} {K : PySem.W.Frag} {mg : Str → Option Value} {base : Heap} {N ps : List Str} {qual : Str} {scope : Scope} {f : Addr} {cd : Value} {A : Around} {outer : List Env} {s s1 : Shared} {H : Hp} {E : XK} {us : List Value} {vs : List V}
    (S : FnScope N ps scope) (e0 : Env0 P w K mg base A outer s H) (hl : vs.length = ps.length) (r : Vals vs us)
    (x : InCallC s s.heap.objs.size (bindL (envOfC qual scope s.heap.objs.size f cd).kindOf (ps.zip us) fun _ => none) (cellsFrom (s.heap.objs.size + 1) scope.names []) (bindC (envOfC qual scope s.heap.objs.size f cd).kindOf (ps.zip us) fun _ => none) s1) :
    Inv (cxU CX P w K mg base N qual scope f cd A outer s H E) [] (start N vs) H s1 := by
  have hpl : ps.length ≤ N.length := by have := congrArg List.length S.pre; rw [List.length_take] at this; omega
  obtain ⟨h1, tk, rfl, hk⟩ := x.done
  have noA : ∀ b : Addr, b ∉ (cxU CX P w K mg base N qual scope f cd A outer s H E).ex := fun b z => absurd (show b ∈ ([] : List Addr) from z) (by simp)
  refine ⟨⟨e0.mod, S.kind, rfl, rfl, Nat.le_refl _, fun y z c h1 h2 => ?_, fun y hy => ?_, fun y c _ h => ?_, (fun z => nomatch z), Around.frames_deeper e0.frames, .inr ⟨rfl, rfl⟩, fun b z => absurd z (noA b), e0.bs, e0.bsz, fun b _ _ => noA b, fun b z => absurd z (noA b), e0.funs, e0.frf⟩,
    rfl, e0.bare, Un.kept hk, ⟨_, x.toInCall.ns, fun i y v h1 h2 h3 => ?_⟩, fun y c h => ⟨_, x.cell y c h⟩, e0.hok.fresh (Nat.le_refl _), fun y c h => ?_, fun p hp => absurd (show p ∈ ([] : List (Addr × Obj)) from hp) (by simp), e0.hok.kept hk, ?_⟩
  · exact name_of_addr x.apart (PySem.mem_of_lookup h1) (PySem.mem_of_lookup h2)
  · have hy : scope.names.lookup y = some .cell ∨ scope.names.lookup y = some .free := hy
    rcases hy with hy | hy
    · exact cell_has hy
    · exact absurd rfl (S.nofree _ (PySem.mem_of_lookup hy))
  · exact Nat.le_of_lt (x.above y c (PySem.mem_of_lookup h))
  · have hi : i < vs.length := by
      unfold start at h2
      by_cases hi : i < vs.length
      · exact hi
      · rw [List.getElem?_append_right (by simpa using hi)] at h2
        rw [List.getElem?_replicate] at h2
        split at h2 <;> cases h2
    have ha : vs[i]? = some v := by
      unfold start at h2
      rw [List.getElem?_append_left (by simpa using hi), List.getElem?_map] at h2
      cases e : vs[i]? with
      | none => rw [e] at h2; cases h2
      | some a => rw [e] at h2; cases h2; rfl
    obtain ⟨u, hu, rv⟩ := r.get ha
    have hp : ps[i]? = some y := by
      rw [← S.pre, List.getElem?_take_of_lt (by omega)]; exact h1
    have ndP : ps.Nodup := by rw [← S.pre]; exact S.nd.sublist (List.take_sublist _ _)
    refine ⟨u, rv, ?_⟩
    rcases S.par y (List.mem_of_getElem? hp) with k | k
    · exact .inl ⟨k, bindL_get ndP hp hu k⟩
    · obtain ⟨c, e⟩ := cell_has (n := s.heap.objs.size + 1) k
      refine .inr ⟨.inl k, c, e, ?_⟩
      have q := x.cell y c e
      rw [bindC_get ndP hp hu (by show scope.names.lookup y ≠ _; rw [k]; decide)] at q
      exact q
  · exact e0.hok.fresh (Nat.le_of_lt (x.above y c (PySem.mem_of_lookup h)))
  · unfold start
    show _ = N.length
    rw [List.length_append, List.length_map, List.length_replicate]
    omega
theorem fn_ofU {CX : CXT} {P : Program} {w : World} {K : PySem.W.Frag} {mg : Str → Option Value} {base : Heap} {k : Nat} {f : Addr} {name qual : Str} {params : Arguments} {body : List Stmt} {scope : Scope} {dV kV doc pm cdv ct oc : Value} {an od : Option Addr}
    {osl : Array (Option Value)} {N ps : List Str} {sp : Sp} (lk : K.lookup f = some ⟨oc, od, .func (PySem.W.fnOf name qual params body scope dV kV doc pm an cdv ct), osl⟩) (hcd : PySem.W.codeIn K cdv qual = true) (S : FnScope N ps scope)
    (len : ∀ vs H Q E, sp vs H Q E → vs.length = ps.length)
    (hbody : ∀ (A : Around) (outer : List Env) (s : Shared) (H : Hp) (vs : List V) (Q : VK) (E : XK), RoomU k (A.deeper (envOfC qual scope s.heap.objs.size f cdv)) → sp vs H Q E →
      ∃ t, PSs (cxU CX P w K mg base N qual scope f cdv A outer s H E) body t ∧ t { nx := fun _ H' => Q .non H', rt := Q } (start N vs) H) :
    FnOkU P w K mg base CX (k + 1) f (PySem.W.fnOf name qual params body scope dV kV doc pm an cdv ct) ps sp := by
  refine ⟨len, fun A outer s H args us vs Q E hr e0 hb r hsp => ?_⟩
  have hl := len _ _ _ _ hsp
  have KX : K.In s.heap := e0.mod.kin.keeps fun b o e => (e0.bs b o e).1
  have lim : s.heap.NoLimit := e0.mod.nolimit.keeps fun b o e => (e0.bs b o e).1
  have hkind : ∀ y ∈ ps.zip us, scope.names.lookup y.1 = some .local ∨ (scope.names.lookup y.1 = some .cell ∧ ((cellsFrom (s.heap.objs.size + 1) scope.names []).lookup y.1).isSome = true) := fun ⟨n, v⟩ hy => by
    rcases S.par n (List.of_mem_zip hy).1 with q | q
    · exact .inl q
    · exact .inr ⟨q, PySem.W.cellsFrom_some _ _ _ (.inl q)⟩
  refine codeAny_call_function hr.depth (KX _ _ lk) rfl S.co S.gen rfl (PySem.W.codeRec_of KX hcd) (hb _ _ _ _ ?_)
  refine wpAny_newFunctionEnv_cells S.kind hkind fun env he s1 x => ?_
  subst he
  refine ⟨lim.keeps x.toInCall.keep, codeAny_func ?_⟩
  obtain ⟨t, ht, hq⟩ := hbody A outer s H vs Q E (hr.deeper _) hsp
  have I : Inv (cxU CX P w K mg base N qual scope f cdv A outer s H E) [] (start N vs) H s1 := inv_startU S e0 hl r x
  refine wpAny_mono (ht [] s1 (start N vs) H _ I hq) (fun fl s' hs => ?_) fun e s' hs => hs
  have fin : ∀ {σ' : St} {H' : Hp} {v : V} {u : Value}, Inv (cxU CX P w K mg base N qual scope f cdv A outer s H E) [] σ' H' s' → RelV v u → Q v H' → CE outer P w H s Q u s' :=
    fun {σ' H' v u} J rv q => ⟨v, H', J.os, J.bare, J.base, J.hok, rv, q⟩
  cases fl with
  | ret u =>
    obtain ⟨v, σ', H', J, rv, q⟩ := hs
    exact fin J rv q
  | next =>
    obtain ⟨σ', H', J, q⟩ := hs
    exact fin (v := V.non) (u := Value.none) J rfl q
  | brk =>
    obtain ⟨_, _, _, q⟩ := hs
    exact False.elim q
  | cont =>
    obtain ⟨_, _, _, q⟩ := hs
    exact False.elim q
end L2
set_option Elab.async false
set_option linter.all false
set_option maxRecDepth 100000
namespace L3
open PySem PySem.Spec L2
def putFD (f : Str) (d : D) : List (Str × D) → List (Str × D)
  | [] => [(f, d)]
  | (g, e) :: r => if g = f then (g, d) :: r else (g, e) :: putFD f d r
section
variable {K : PySem.W.Frag} {W : Wd}
theorem FR.get {f : Str} : ∀ {fs : List (Str × D)} {vs : List (Str × V)} {d : D}, FR K W fs vs → fs.lookup f = some d → ∃ v, vs.lookup f = some v ∧ DR K W d v
  | _, _, _, .nil, h => by cases h
  | (g, e) :: r, (g', e') :: r', d, .cons h t, q => by
    obtain ⟨h1, h2⟩ := h
    have h1 : g = g' := h1
    subst h1
    rw [List.lookup_cons] at q ⊢
    cases hb : f == g with
    | true => rw [hb] at q; cases q; exact ⟨e', rfl, h2⟩
    | false => rw [hb] at q; exact FR.get t q
theorem FR.none {f : Str} : ∀ {fs : List (Str × D)} {vs : List (Str × V)}, FR K W fs vs → fs.lookup f = none → vs.lookup f = none
  | _, _, .nil, h => rfl
  | (g, e) :: r, (g', e') :: r', .cons h t, q => by
    obtain ⟨h1, h2⟩ := h
    have h1 : g = g' := h1
    subst h1
    rw [List.lookup_cons] at q ⊢
    cases hb : f == g with
    | true => rw [hb] at q; cases q
    | false => rw [hb] at q; exact FR.none t q
theorem FR.put {f : Str} {d : D} {v : V} (r : DR K W d v) : ∀ {fs : List (Str × D)} {vs : List (Str × V)}, FR K W fs vs → FR K W (putFD f d fs) (putF f v vs)
  | _, _, .nil => .cons ⟨rfl, r⟩ .nil
  | (g, e) :: l, (g', e') :: l', .cons h t => by
    obtain ⟨h1, h2⟩ := h
    have h1 : g = g' := h1
    subst h1
    simp only [putFD, putF]
    split
    · exact .cons ⟨rfl, r⟩ t
    · exact .cons ⟨rfl, h2⟩ (FR.put r t)
theorem FR.len : ∀ {fs : List (Str × D)} {vs : List (Str × V)}, FR K W fs vs → fs.length = vs.length
  | _, _, .nil => rfl
  | _, _, .cons _ t => by simp [FR.len t]
end
section
variable {X : Cx} {K : PySem.W.Frag} {o e value : Expr} {es : List Expr} {f m : Str} {pos pos' tpos apos p : Pos} {eo ev : EV} {el : LV} {C : Addr}
structure MtC (P : Program) (w : World) (K : PySem.W.Frag) (mg : Str → Option Value) (base : Heap) (CX : CXT) (k : Nat) (C : Addr) (m : Str) (ps : List Str) (sp : Sp) : Prop where
  cl : Cls K C
  fn : ∃ f fd, Meth K C m f ∧ FnOk P w K mg base CX k f fd ps sp ∧ Binds K fd ps []
theorem MtC.mono {P : Program} {w : World} {K : PySem.W.Frag} {mg : Str → Option Value} {base : Heap} {CX : CXT} {j k : Nat} {C : Addr} {m : Str} {ps : List Str} {sp : Sp} (M : MtC P w K mg base CX j C m ps sp) (h : j ≤ k) : MtC P w K mg base CX k C m ps sp := ⟨M.cl, let ⟨f, fd, a, b, c⟩ := M.fn; ⟨f, fd, a, b.mono h, c⟩⟩
structure MkC (P : Program) (w : World) (K : PySem.W.Frag) (mg : Str → Option Value) (base : Heap) (CX : CXT) (k : Nat) (C : Addr) (x : Str) (ps : List Str) (sp : Sp) : Prop where
  mgx : mg x = some (.ref C)
  fn : ∃ f fd, Mk K C f ∧ FnOk P w K mg base CX k f fd ps sp ∧ Binds K fd ps []
theorem MkC.mono {P : Program} {w : World} {K : PySem.W.Frag} {mg : Str → Option Value} {base : Heap} {CX : CXT} {j k : Nat} {C : Addr} {x : Str} {ps : List Str} {sp : Sp} (M : MkC P w K mg base CX j C x ps sp) (h : j ≤ k) : MkC P w K mg base CX k C x ps sp := ⟨M.mgx, let ⟨f, fd, a, b, c⟩ := M.fn; ⟨f, fd, a, b.mono h, c⟩⟩
end
end L3
set_option Elab.async false
set_option linter.all false
set_option maxRecDepth 100000
namespace L3
open PySem PySem.Spec L2
def dn (f : FX) : List D → M → Option (D × M) := fun ds μ => (f ds μ).bind fun p => match p.1 with
  | .ok d => some (d, p.2)
  | .ex _ => none
section
variable {P : Program} {w : World} {K : PySem.W.Frag} {mg : Str → Option Value} {base : Heap} {k : Nat} {f : Addr} {fd : FuncData} {ps : List Str} {g : FX}
theorem spX_dn : ∀ vs H Q E E', spM K (dn g) vs H Q E → spX K g vs H Q E' := fun vs H Q E E' h => by
  obtain ⟨W, ds, d, μ', h1, h2, h3, e, q⟩ := h
  obtain ⟨⟨r, μ1⟩, e1, e⟩ := bnd e
  cases r with
  | ok d' =>
    have e : some (d', μ1) = some (d, μ') := e
    obtain ⟨rfl, rfl⟩ : d' = d ∧ μ1 = μ' := by cases e; exact ⟨rfl, rfl⟩
    exact ⟨W, ds, .ok d', μ1, h1, h2, h3, e1, fun W' a b c v rv => q v W' a b c rv⟩
  | ex C => cases e
theorem fn_dn (F : FnOk P w K mg base (CXr P w) k f fd ps (spX K g)) : FnOk P w K mg base CX0 k f fd ps (spM K (dn g)) := by
  refine ⟨fun vs H Q E h => F.len vs H Q E (spX_dn vs H Q E E h), fun A outer s H args us vs Q E hr he hb hv hs => ?_⟩
  refine codeAny_mono (F.run A outer s H args us vs Q (fun _ _ _ => False) hr he hb hv (spX_dn vs H Q E _ hs)) fun r s' h => ?_
  cases r with
  | ok fl => cases fl <;> exact h
  | error e =>
    obtain ⟨a, C, H', B, _, _, z⟩ := h
    exact z.elim
theorem Df.dn {x : Str} (D : DfX P w K mg base k x ps (spX K g)) : Df P w K mg base k x ps (spM K (L3.dn g)) := let ⟨f, fd, F, r⟩ := D; ⟨f, fd, fn_dn F, r⟩
theorem MtC.dn {C : Addr} {m : Str} (D : MtC P w K mg base (CXr P w) k C m ps (spX K g)) : MtC P w K mg base CX0 k C m ps (spM K (L3.dn g)) := ⟨D.cl, let ⟨f, fd, a, F, r⟩ := D.fn; ⟨f, fd, a, fn_dn F, r⟩⟩
end
section
variable {X : Cx} {E : St → XK} {K : PySem.W.Frag} {o e : Expr} {es : List Expr} {m : Str} {pos apos : Pos} {eo : EX} {el : LX} {C : Addr} {g : FX} {k : Nat} {ps : List Str}
end
end L3
set_option Elab.async false
set_option linter.all false
set_option maxRecDepth 100000
namespace L2
open PySem PySem.W PySem.Spec PyProof.Rows
section
variable {X : Cx} {a o : Expr} {ta to : TE} {p pos : Pos}
theorem preSum_ints (ns : List Int) : ∀ n, n ≤ ns.length → preSum (fun i => ns.getD i 0) n = (ns.take n).sum
  | 0, _ => by simp [preSum]
  | n + 1, h => by
    simp only [preSum]
    rw [preSum_ints ns n (by omega), List.take_add_one, List.sum_append, List.getElem?_eq_getElem (by omega)]
    have e : ns.getD n 0 = ns[n]'(by omega) := by rw [List.getD_eq_getElem?_getD, List.getElem?_eq_getElem (by omega)]; rfl
    rw [e]
    simp
theorem eSumI (K : PySem.W.Frag) (mm : X.mg "sum" = none) (ha : PE X a ta) (hc : X.calm = true := by rfl) (hg : Gl X "sum" := by rfl) (hs : starEach [a] X.env = [(false, eval a X.env)] := by rfl) (hK : X.K = K := by rfl) :
    PE X (.Call (.Name "sum" p) [a] [] pos) (fun σ H Q => ta σ H fun x H1 => ∃ (q : Addr) (ns : List Int), [x] = [.ref q] ∧ SqL K H1 q (ns.map V.int) ∧ Q (.int ns.sum) H1) := by
  subst hK
  have rule : CallR X (.builtin "sum") (fun xs H Q => ∃ (q : Addr) (ns : List Int), xs = [.ref q] ∧ SqL X.K H q (ns.map V.int) ∧ Q (.int ns.sum) H) := by
    intro pins s σ H xs us Q I r h
    obtain ⟨q, ns, rfl, hq, k⟩ := h
    obtain ⟨u, rfl, ru⟩ := vals1 r
    cases ru
    obtain ⟨its, rv, pl, hz⟩ := I.list hq
    have hia := intsAre_of rv
    obtain ⟨ol, el, _⟩ := id pl.isList
    have qlt : q < s.heap.objs.size := Heap.lt_size el
    have hlen : its.length = ns.length := by have := rv.length; simpa using this.symm
    refine call_sum_walkG (wpAny_pyIter_list pl.isList ⟨_, _, _, _, _, _, fun i => ns.getD i 0, rfl, Walks.list (A := X.A.in1) (I.ok.hd hc) _ q (Nat.ne_of_lt qlt) its.toArray, ⟨⟨_, Heap.get?_push_size _ rfl, rfl, rfl⟩, pl.isList.push _⟩, fun b hb => ?_, ?_, fun h' tk t' keep => ?_⟩)
    · show b < (s.heap.push _).objs.size
      rw [Heap.size_push]
      simp at hb
      rcases hb with rfl | rfl
      · exact Nat.lt_succ_self _
      · exact Nat.lt_succ_of_lt qlt
    · intro i v hv
      have hv' : its[i]? = some v := by simpa using hv
      obtain ⟨t, e⟩ := ints_get hia hv'
      refine ⟨t, ?_⟩
      rw [e]
    · have kp : ∀ b o, s.heap.get? b = some o → h'.get? b = some o := fun b o e => keep b o (fun hm => absurd (List.mem_singleton.mp hm) (Nat.ne_of_lt (Heap.lt_size e))) (Heap.get?_push_of_some _ e)
      have e2 : preSum (fun i => ns.getD i 0) its.toArray.size = ns.sum := by
        rw [preSum_ints ns _ (by simp [hlen])]
        simp [hlen]
      rw [e2]
      exact ⟨.int _, H, I.kept kp, ⟨_, rfl⟩, k⟩
  exact pe_callB rule hg mm rfl (pa_cons ha pa_nil hs) (he := hs)
end
end L2
namespace L3
open PySem PySem.Spec L2
section
variable {X : Cx} {K : PySem.W.Frag} {a b o : Expr} {ea eb eo : EV} {p pos apos : Pos}
def fSum (x : D) (μ : M) : Option (D × M) := (lsOf μ x).bind fun ds => (optAll inI ds).bind fun ns => some (.int ns.sum, μ)
theorem x_sum (mm : X.mg "sum" = none) (ha : PE X a (tD K ea)) (hc : X.calm = true := by rfl) (hg : Gl X "sum" := by rfl) (hs : starEach [a] X.env = [(false, eval a X.env)] := by rfl) (hK : X.K = K := by rfl) : PE X (.Call (.Name "sum" p) [a] [] pos) (tD K (v1 fSum ea)) := PE_imp (eSumI K mm ha hc hg hs hK) (t1_imp (by
  intro W x d z μ' Q ok r1 hf q
  obtain ⟨ds, h1, hf⟩ := bnd hf
  obtain ⟨ns, h2, hf⟩ := bnd hf
  cases hf
  obtain ⟨a, vs, rfl, hs, hv⟩ := lsOf_at ok h1 r1
  have := ints_at h2 hv
  subst this
  exact ⟨a, ns, rfl, hs, q _ W rfl ok .refl (.int _)⟩))
end
end L3
set_option Elab.async false
set_option linter.all false
set_option maxRecDepth 100000
namespace L2
open PySem PySem.W PySem.Spec PyProof.Rows
section
variable {prog : Program} {w : World} {A : Around} {R : Result → Shared → Prop} {I : Addr} {fp wr : List Addr} {n : Nat} {P : Nat → Value → Prop} {St : Nat → Heap → Prop}
end
section
variable {prog : Program} {w : World} {A : Around} {E : Value → Shared → Prop} {s : Shared}
end
end L2
set_option Elab.async false
set_option linter.all false
set_option maxRecDepth 100000
namespace L2
open PySem PySem.W PySem.Spec PyProof.Rows
section
variable {X : Cx} {a b : Expr} {ta tb : TE} {p pos : Pos}
end
end L2
namespace L3
open PySem PySem.Spec L2
section
variable {X : Cx} {K : PySem.W.Frag} {a b : Expr} {ea eb : EV} {p pos : Pos}
end
end L3
set_option Elab.async false
set_option linter.all false
set_option maxRecDepth 100000
namespace L3
open PySem PySem.Spec L2
section
variable {K : PySem.W.Frag} {W W1 W' : Wd} {p : Addr} {x : O} {h : Addr → Prop}
end
section
variable {X : Cx} {K : PySem.W.Frag} {N' own : List Str} {cap : List (Str × Nat)} {scope : Scope} {tg iter elt : Expr} {ifs : List Expr} {pos : Pos} {iv : IV} {g : GV} {tc : BV} {te : EV}
end
end L3
namespace L3
open PySem PySem.Spec L2
end L3
set_option Elab.async false
set_option linter.all false
set_option maxRecDepth 100000
namespace L2
open PySem PySem.W PySem.Spec PyProof.Rows
theorem Fun.okU {P : Program} {w : World} {K : PySem.W.Frag} {mg : Str → Option Value} {base : Heap} {x qual : Str} {st : Stmt} {f : Addr} {fd : FuncData} {N ps : List Str} {k : Nat} {sp : Sp} (F : Fun K x qual st f fd) (S : FnScope N ps (defScope st)) (len : ∀ vs H Q E, sp vs H Q E → vs.length = ps.length)
    (hb : ∀ (cdv : Value) (A : Around) (outer : List Env) (s : Shared) (H : Hp) (vs : List V) (Q : VK) (E : XK), RoomU k (A.deeper (envOfC qual (defScope st) s.heap.objs.size f cdv)) → sp vs H Q E →
      ∃ t, PSs (cxU CX0 P w K mg base N qual (defScope st) f cdv A outer s H E).nox (defBody st) t ∧ t { nx := fun _ H' => Q .non H', rt := Q } (start N vs) H) : FnOkU P w K mg base CX0 (k + 1) f fd ps sp := by
  obtain ⟨_, _, _, _, _, _, cdv, _, _, rfl, lk, hcd⟩ := F.ex
  refine fn_ofU lk hcd S len fun A outer s H vs Q E hr h => ?_
  obtain ⟨t, ht, q⟩ := hb cdv A outer s H vs Q E hr h
  exact ⟨t, ht.nox, q⟩
def DfU (P : Program) (w : World) (K : PySem.W.Frag) (mg : Str → Option Value) (base : Heap) (k : Nat) (x : Str) (ps : List Str) (sp : Sp) : Prop :=
  ∃ f fd, FnOkU P w K mg base CX0 k f fd ps sp ∧ Binds K fd ps [] ∧ PySem.W.keepIn K (.ref f) = true ∧ mg x = some (.ref f)
section
variable {X : Cx} {k : Nat} {x : Str} {ps : List Str} {sp : Sp} {e : Expr} {es : List Expr} {t : TA} {p pos : Pos} {f : Addr} {fd : FuncData}
theorem run_fnU {pins : List (Addr × Obj)} {σ : St} {H : Hp} {s : Shared} {Q : VK} {us : List Value} {vs : List V} (F : FnOkU X.prog X.w X.K X.mg X.base CX0 k f fd ps sp) (hr : RoomU k X.A) (hb : Binds X.K fd ps [])
    (I : Inv X pins σ H s) (r : Vals vs us) (h : sp vs H Q E0) : wpAny (model X.prog X.w) X.A (call (.ref f) us) (EP X pins σ Q) X.xe s := by
  have hl : us.length = ps.length := by rw [← r.length]; exact F.len _ _ _ _ h
  have hb' := hb s us I.kIn (by simpa using hl)
  simp only [List.append_nil] at hb'
  refine wpAny_call (codeAny_mono (F.run X.A X.stack s H ⟨us, []⟩ us vs Q E0 hr I.env0 hb' r h) fun r s' hq => ?_)
  cases r with
  | error _ => exact False.elim hq
  | ok fl =>
    cases fl with
    | ret u => exact I.after hq
    | next => exact False.elim hq
    | brk => exact False.elim hq
    | cont => exact False.elim hq
theorem pe_dfU (D : DfU X.prog X.w X.K X.mg X.base k x ps sp) (hr : RoomU k X.A) (ha : PA X (e :: es) t) (hg : Gl X x := by rfl) (hdb : (x == ("__debug__" : Str)) = false := by decide)
    (he : starEach (e :: es) X.env = (false, eval e X.env) :: starEach es X.env := by rfl) (hpl : (backTo pos (starEach es X.env)).any (·.1) = false := by rfl) :
    PE X (.Call (.Name x p) (e :: es) [] pos) (fun σ H Q => t σ H fun vs H1 => sp vs H1 Q E0) := by
  obtain ⟨f, fd, F, hb, hk, hm⟩ := D
  intro pins s σ H Q I h
  refine wpAny_Call_Name_kw (ld_glob I hg hm ?_ hdb)
  refine PySem.W.callWith_K (h₀ := X.base) I.ok.mod.kin hk (thn (ha pos pins s σ H _ I h) fun us s1 ⟨vs, H1, I1, r, q⟩ => ⟨I1.kIn, ?_⟩) he hpl
  exact run_fnU F hr hb I1 r q
theorem Room.mkd {k : Nat} {A : Around} {v : Option Value} (r : Room k A) : RoomU k (A.mark v) := ⟨r.dp, r.un⟩
end
end L2
namespace L3
open PySem PySem.Spec L2
open PyProof.Rows (envOfC)
section
variable {P : Program} {w : World} {K : PySem.W.Frag} {mg : Str → Option Value} {base : Heap}
theorem fn_mU {x qual : Str} {st : Stmt} {f : Addr} {fd : FuncData} {N ps : List Str} {k : Nat} {es : SV} (F : Fun K x qual st f fd) (S : FnScope N ps (defScope st))
    (hb : ∀ (cdv : Value) (A : Around) (outer : List Env) (s : Shared) (H : Hp) (E : XK), RoomU k (A.deeper (envOfC qual (defScope st) s.heap.objs.size f cdv)) → PSs (cxU CX0 P w K mg base N qual (defScope st) f cdv A outer s H E).nox (defBody st) (tDS K es)) :
    FnOkU P w K mg base CX0 (k + 1) f fd ps (spM K (runF N.length ps.length es)) := by
  refine F.okU S (fun vs H Q E h => ?_) (fun cdv A outer s H vs Q E hr h => ?_)
  · obtain ⟨W, ds, d, μ', _, _, r, e, _⟩ := h
    unfold runF at e
    split at e
    · rename_i hl; rw [← r.length]; exact hl
    · cases e
  · obtain ⟨W, ds, d, μ', rfl, ok, r, e, q⟩ := h
    refine ⟨_, hb cdv A outer s W.H E hr, ?_⟩
    unfold runF at e
    split at e
    · obtain ⟨⟨o, Γ', μ2⟩, e1, e⟩ := bnd e
      refine ⟨W, _, o, Γ', μ2, rfl, ok, env_start r, e1, fun W' σ' hμ ok' s' en' => ?_⟩
      cases o with
      | rt z => cases e; exact fun v rv => q v W' hμ ok' s' rv
      | nx => cases e; exact q _ W' hμ ok' s' .non
      | bk => cases e
      | ct => cases e
    · cases e
end
section
variable {X : Cx} {K : PySem.W.Frag} {e : Expr} {es : List Expr} {p pos : Pos}
theorem x_dfU {x : Str} {ps : List Str} {f : List D → M → Option (D × M)} {k : Nat} {el : LV} (D : DfU X.prog X.w X.K X.mg X.base k x ps (spM K f)) (hr : RoomU k X.A) (ha : PA X (e :: es) (tDL K el)) (hg : Gl X x := by rfl) (hdb : (x == ("__debug__" : Str)) = false := by decide)
    (he : starEach (e :: es) X.env = (false, eval e X.env) :: starEach es X.env := by rfl) (hpl : (backTo pos (starEach es X.env)).any (·.1) = false := by rfl) : PE X (.Call (.Name x p) (e :: es) [] pos) (tD K (vL f el)) :=
  PE_imp (pe_dfU D hr ha hg hdb he hpl) fun σ H Q h => by
    obtain ⟨W, Γ, d, μ', rfl, ok, en, e, q⟩ := h
    obtain ⟨p1, e1, e⟩ := bnd e
    exact ⟨W, Γ, p1.1, p1.2, rfl, ok, en, e1, fun vs W1 hμ ok1 s1 r1 => ⟨W1, p1.1, d, μ', rfl, ok1, r1, by rw [hμ]; exact e, fun v W2 h1 h2 h3 h4 => q v W2 h1 h2 (s1.trans h3) h4⟩⟩
end
end L3
set_option Elab.async false
set_option linter.all false
set_option maxRecDepth 100000
namespace L3
open PySem PySem.Spec L2
def CMulB (i j : Int) : Prop := i.natAbs < 2 ^ 1000 ∧ j.natAbs < 2 ^ 1000
instance {i j : Int} : Decidable (CMulB i j) := by unfold CMulB; infer_instance
theorem CMulB.ok {i j : Int} (h : CMulB i j) : IntMulOk i j := .of_bits (Nat.le_trans (PyProof.Rows.intBits_le h.1) (by decide)) (Nat.le_trans (PyProof.Rows.intBits_le h.2) (by decide))
end L3
set_option Elab.async false
set_option linter.all false
set_option maxRecDepth 100000
namespace L2
open PySem PyProof.Rows
def lexGe : List Int → List Int → Bool
  | [], [] => true
  | [], _ :: _ => false
  | _ :: _, [] => true
  | x :: xs, y :: ys => if x = y then lexGe xs ys else decide (y ≤ x)
theorem rcGe_int (A : Around) (s : Shared) (a : Int) (t : Tok) (c : Int) (u : Tok) (prog : Program) (w : World) (E : Value → Shared → Prop) (Q : Value → Shared → Prop) (h : Q (.bool (decide (c ≤ a))) s) :
    wpAny (model prog w) A (richCompare .GtE (.int a t) (.int c u)) Q E s :=
  (PyProof.Rows.ge_int h : wpAny (model prog w) A (compareOp .GtE (.int a t) (.int c u)) Q E s)
section
open PySem.SeqAt
open PySem.AutoSeq1 (wpAny_loadPart')
open PySem.MeetsSeq PySem.MeetsSeq2 PySem.MeetsSeq3
theorem ge_loopAt (l b : Addr) (items items2 : Array Value) (n n2 : Nat) (dd dd2 : Option Addr) (sl sl2 : Array (Option Value)) (ns ms : List Int) (hi : IntsAre items.toList ns) (hj : IntsAre items2.toList ms) (k : Nat) :
    ∀ i : Nat, items.size - i = k → i ≤ items.size → i ≤ items2.size → Meets (Builtin.«list.__eq__.loop» ⟨[.ref l, .ref b, rawInt i, rawInt 5], []⟩)
      (fun A R s => s.heap.get? l = some { cls := .type "list", dict := dd, data := .seq items n, slots := sl } ∧ s.heap.get? b = some { cls := .type "list", dict := dd2, data := .seq items2 n2, slots := sl2 } ∧
        R (.ok (.ret (.bool (lexGe (ns.drop i) (ms.drop i))))) s) := by
  have z1 : items.size = ns.length := by rw [← hi.length]; simp
  have z2 : items2.size = ms.length := by rw [← hj.length]; simp
  induction k with
  | zero =>
    intro i hk h1 h2 prog w A R s h
    obtain ⟨hp, g, d, tk, os⟩ := s; obtain ⟨hl, hb, h⟩ := h
    wp_walk using wpAny_loadPart' hl, wpAny_loadPart' hb
    have hi1 : items[((i : Nat) : Int).toNat]? = none := by simp; omega
    have e1 : ns.drop i = [] := by simp; omega
    rw [hi1]
    cases hq : items2[((i : Nat) : Int).toNat]? <;> wp_walk using wpAny_loadPart' hl, wpAny_loadPart' hb
    all_goals
      show R (.ok (.ret (.bool (decide (items.size ≥ items2.size))))) _
      have e2 : decide (items.size ≥ items2.size) = lexGe (ns.drop i) (ms.drop i) := by
        rw [e1]
        cases hm : ms.drop i with
        | nil => have : ms.length ≤ i := by simpa using hm
                 simp [lexGe]; omega
        | cons y ys => have : i < ms.length := by
                         rcases Nat.lt_or_ge i ms.length with z | z
                         · exact z
                         · rw [List.drop_eq_nil_of_le z] at hm; cases hm
                       simp [lexGe]; omega
      rw [e2]; exact h
  | succ k ih =>
    intro i hk h1 h2 prog w A R s h
    obtain ⟨hp, g, d, tk, os⟩ := s; obtain ⟨hl, hb, h⟩ := h
    wp_walk using wpAny_loadPart' hl, wpAny_loadPart' hb
    have hlt : i < items.size := by omega
    have hi1 : items[((i : Nat) : Int).toNat]? = some items[i] := by simp [hlt]
    have d1 : ns.drop i = ns[i]'(by omega) :: ns.drop (i + 1) := List.drop_eq_getElem_cons _
    rw [hi1]
    by_cases hlt2 : i < items2.size
    · have hi2 : items2[((i : Nat) : Int).toNat]? = some items2[i] := by simp [hlt2]
      have d2 : ms.drop i = ms[i]'(by omega) :: ms.drop (i + 1) := List.drop_eq_getElem_cons _
      have hc : ((i : Int) + 1) = ((i + 1 : Nat) : Int) := by push_cast; rfl
      obtain ⟨t, et⟩ := hi.int_at i items[i] (by simp [hlt])
      obtain ⟨u, eu⟩ := hj.int_at i items2[i] (by simp [hlt2])
      have g1 : ns.getD i 0 = ns[i]'(by omega) := by simp [List.getD_eq_getElem?_getD, List.getElem?_eq_getElem (show i < ns.length by omega)]
      have g2 : ms.getD i 0 = ms[i]'(by omega) := by simp [List.getD_eq_getElem?_getD, List.getElem?_eq_getElem (show i < ms.length by omega)]
      rw [g1] at et
      rw [g2] at eu
      rw [hi2, et, eu]
      rw [d1, d2, lexGe] at h
      obtain ⟨e, he, hiff⟩ := HT.eqAt_int A.in1 ⟨hp, g, d, tk, os⟩ (ns[i]'(by omega)) t (ms[i]'(by omega)) u
      refine wpAny_bind (he prog w _ _ ?_)
      cases e with
      | true =>
        rw [if_pos (hiff.mp rfl)] at h
        wp_walk
        rw [hc]
        exact ⟨plainId_quiet plain_eq_loop _, codeAny_builtin entry_eq_loop (by
          rw [Around.under_plainId plain_eq_loop _]
          exact ih (i + 1) (by omega) (by omega) (by omega) prog w A R _ ⟨hl, hb, h⟩)⟩
      | false =>
        rw [if_neg (fun q => absurd (hiff.mpr q) Bool.false_ne_true)] at h
        have hri := rcGe_int A.in1 ⟨hp, g, d, tk, os⟩ (ns[i]'(by omega)) t (ms[i]'(by omega)) u prog w
        wp_walk using wpAny_loadPart' hl, wpAny_loadPart' hb
        rw [hi1, hi2, et, eu]
        wp_walk using hri
        exact h
    · have hi2 : items2[((i : Nat) : Int).toNat]? = none := by simp; omega
      have d2 : ms.drop i = [] := by simp; omega
      rw [hi2]
      wp_walk using wpAny_loadPart' hl, wpAny_loadPart' hb
      show R (.ok (.ret (.bool (decide (items.size ≥ items2.size))))) _
      rw [d1, d2, lexGe] at h
      have e2 : decide (items.size ≥ items2.size) = true := by simp; omega
      rw [e2]; exact h
theorem list_geAt (l b : Addr) (items items2 : Array Value) (n n2 : Nat) (dd dd2 : Option Addr) (sl sl2 : Array (Option Value)) (ns ms : List Int) (hi : IntsAre items.toList ns) (hj : IntsAre items2.toList ms) :
    Meets (Builtin.«list.__ge__» ⟨[.ref l, .ref b], []⟩)
      (fun A R s => s.heap.get? l = some { cls := .type "list", dict := dd, data := .seq items n, slots := sl } ∧ s.heap.get? b = some { cls := .type "list", dict := dd2, data := .seq items2 n2, slots := sl2 } ∧
        R (.ok (.ret (.bool (lexGe ns ms)))) s) := by
  intro prog w A R s h
  obtain ⟨hp, g, d, tk, os⟩ := s; obtain ⟨hl, hb, h⟩ := h
  have f3 := AutoSeq1.sub_list_list
  wp_walk using wpAny_loadPart' hl, wpAny_loadPart' hb
  exact ⟨plainId_quiet plain_eq_loop _, codeAny_builtin entry_eq_loop (by
    rw [Around.under_plainId plain_eq_loop _]
    exact ge_loopAt l b items items2 n n2 dd dd2 sl sl2 ns ms hi hj _ 0 rfl (Nat.zero_le _) (Nat.zero_le _) prog w A R _ ⟨hl, hb, by simpa using h⟩)⟩
theorem ge_lists {prog : Program} {w : World} {A : Around} {E : Value → Shared → Prop} {s : Shared} {l b : Addr} {items items2 : Array Value} {ns ms : List Int} {Q : Value → Shared → Prop} (hl : s.heap.IsList l items) (hb : s.heap.IsList b items2) (hi : IntsAre items.toList ns) (hj : IntsAre items2.toList ms)
    (hu : A.units < cLine) (h : Q (.bool (lexGe ns ms)) s) : wpAny (model prog w) A (compareOp .GtE (.ref l) (.ref b)) Q E s := by
  obtain ⟨⟨cls, dd, data, sl⟩, ho, hc, n, hd⟩ := id hl
  obtain ⟨⟨cls2, dd2, data2, sl2⟩, ho2, hc2, n2, hd2⟩ := id hb
  simp only at hc hd hc2 hd2
  subst hc hd hc2 hd2
  exact richCompare_meets_room (op := .GtE) ⟨_, ho, rfl⟩ ⟨_, ho2, rfl⟩ PySem.F.slot_list_ge PySem.F.entry_list_ge (PySem.F.args_list_ge_2 _ _) (list_geAt l b items items2 n n2 dd dd2 sl sl2 ns ms hi hj)
    ⟨ho, ho2, show Value.bool (lexGe ns ms) ≠ Value.notImplemented ∧ Q (.bool (lexGe ns ms)) s from ⟨(fun x => nomatch x), h⟩⟩ hu
end
def rGeL (K : PySem.W.Frag) : R2 := fun x y H Q => ∃ a b ns ms, x = .ref a ∧ y = .ref b ∧ SqL K H a (ns.map V.int) ∧ SqL K H b (ms.map V.int) ∧ Q (.bl (lexGe ns ms)) H
theorem op_geL {X : Cx} (hu : X.A.units < cLine) : OpR X (compareOp .GtE) (rGeL X.K) := by
  intro pins s σ H x y v u Q I rx ry h
  obtain ⟨a, b, ns, ms, rfl, rfl, ha, hb, q⟩ := h
  cases rx
  cases ry
  obtain ⟨its, r1, p1, _⟩ := I.list ha
  obtain ⟨its2, r2, p2, _⟩ := I.list hb
  exact ge_lists p1.isList p2.isList (intsAre_of r1) (intsAre_of r2) hu ⟨.bl (lexGe ns ms), H, I, rfl, q⟩
end L2
namespace L3
open PySem PySem.Spec L2
section
variable {X : Cx} {K : PySem.W.Frag} {a b : Expr} {ea eb : EV} {pos p p2 pos2 : Pos} {k : Nat} {P : Program} {w : World} {mg : Str → Option Value} {base : Heap}
def fGeL (x y : D) (μ : M) : Option (D × M) := (lsOf μ x).bind fun xs => (lsOf μ y).bind fun ys => (optAll inI xs).bind fun ns => (optAll inI ys).bind fun ms => some (.bl (lexGe ns ms), μ)
theorem ra_geL : R2A K (rGeL K) fGeL := by
  intro W x y d e z μ' Q ok r1 r2 hf q
  obtain ⟨xs, h1, hf⟩ := bnd hf
  obtain ⟨ys, h2, hf⟩ := bnd hf
  obtain ⟨ns, h3, hf⟩ := bnd hf
  obtain ⟨ms, h4, hf⟩ := bnd hf
  cases hf
  obtain ⟨a, vs, rfl, hs, hv⟩ := lsOf_at ok h1 r1
  obtain ⟨b, us, rfl, hs2, hv2⟩ := lsOf_at ok h2 r2
  have := ints_at h3 hv
  subst this
  have := ints_at h4 hv2
  subst this
  exact ⟨a, b, ns, ms, rfl, rfl, hs, hs2, q _ W rfl ok .refl (.bl _)⟩
theorem x_geLT (hr : Room k X.A) (ha : PE X a (tD K ea)) (hb : PE X b (tD K eb)) (hK : X.K = K := by rfl) : PT X (.Compare a [.GtE] [b] pos) (tDB K (vT (v2 fGeL ea eb))) := by
  subst hK; exact x_cmpT (op_geL (by have := hr.units; omega)) ra_geL ha hb (nomark _)
def fLenSet (x : D) (μ : M) : Option (D × M) := (lsOf μ x).bind fun ds => (optAll inI ds).bind fun ns => if ns.length ≤ 4000 then some (.int (distN ns), μ) else none
theorem x_lenSet (ml : X.mg "len" = none) (ms : X.mg "set" = none) (ha : PE X a (tD K ea)) (hc : X.calm = true := by rfl) (hg : Gl X "set" := by rfl) (hg2 : Gl X "len" := by rfl) (hs : starEach [a] X.env = [(false, eval a X.env)] := by rfl)
    (hs2 : starEach [.Call (.Name "set" p2) [a] [] pos2] X.env = [(false, eval (.Call (.Name "set" p2) [a] [] pos2) X.env)] := by rfl) (hK : X.K = K := by rfl) :
    PE X (.Call (.Name "len" p) [.Call (.Name "set" p2) [a] [] pos2] [] pos) (tD K (v1 fLenSet ea)) := PE_imp (eLenS ml (eSet K ms ha hc hg hs hK) hg2 hs2) (t1_imp (r := fun x H1 Q => ∃ (q : Addr) (ns : List Int), [x] = [.ref q] ∧ SqL K H1 q (ns.map V.int) ∧ ns.length ≤ 4000 ∧ ∀ d, H1 d = none → ∃ (d' : Addr) (S : Int → Bool) (n : Nat), [V.ref d] = [.ref d'] ∧ (upd H1 d (.set (distS ns) (distN ns))) d' = some (.set S n) ∧ Q (.int (n : Int)) (upd H1 d (.set (distS ns) (distN ns)))) (by
  intro W x d z μ' Q ok r1 hf q
  obtain ⟨ds, h1, hf⟩ := bnd hf
  obtain ⟨ns, h2, hf⟩ := bnd hf
  split at hf
  · rename_i hl
    cases hf
    obtain ⟨a, vs, rfl, hs, hv⟩ := lsOf_at ok h1 r1
    have := ints_at h2 hv
    subst this
    exact ⟨a, ns, rfl, hs, hl, fun d hd => ⟨d, distS ns, distN ns, rfl, by simp [upd], q _ (W.lay d (.set (distS ns) (distN ns))) rfl (ok_lay ok hd) (step_lay hd) (.int _)⟩⟩
  · cases hf))
def fCatM (x y : D) (μ : M) : Option (D × M) := (wlOf μ x).bind fun xs => (wlOf μ y).bind fun ys => if xs.length + ys.length ≤ 1000000 then some (.ref μ.length, μ ++ [some (.lst (xs ++ ys))]) else none
theorem x_catM (ha : PE X a (tD K ea)) (hb : PE X b (tD K eb)) (hK : X.K = K := by rfl) : PE X (.BinOp a .Add b pos) (tD K (v2 fCatM ea eb)) := by
  subst hK
  exact x_op op_cat (by
    intro W x y d e z μ' Q ok r1 r2 hf q
    obtain ⟨xs, hx, hf⟩ := bnd hf
    obtain ⟨ys, hy, hf⟩ := bnd hf
    split at hf
    · rename_i hl
      cases hf
      obtain ⟨a, vs, rfl, ha, hv⟩ := wlOf_at ok hx r1
      obtain ⟨b, us, rfl, hb, hu⟩ := wlOf_at ok hy r2
      exact ⟨a, b, vs, us, rfl, rfl, ha, hb, le_line (by rw [← hv.length, ← hu.length]; omega), fun p hp => q _ (W.new p (.lst (vs ++ us)) (.lst (xs ++ ys))) rfl (ok_new ok hp ⟨_, rfl, hv.append hu⟩) (step_new ok hp) (dr_new ok)⟩
    · cases hf) ha hb
end
end L3
set_option Elab.async false
set_option linter.all false
set_option maxRecDepth 100000
namespace L2
open PySem PySem.Spec PyProof.Rows
theorem slot_long_next : Slot "longrange_iterator" "__next__" "longrange_iterator.__next__" :=
  .of (owner := "longrange_iterator") (n := "__next__") (by rw [typeLookup_type, builtinLookup_eq_fast]; kernel_rfl) (by decide +kernel) (by decide +kernel) (by decide +kernel)
    (by first | exact .inl (by decide +kernel) | exact .inr (by decide +kernel)) (by rw [isSubtype_type]; kernel_rfl)
theorem entry_long_next : entryFor table "longrange_iterator.__next__" = some Builtin.«longrange_iterator.__next__» := entryFor_of_tree (by kernel_rfl)
theorem owner_long : Manifest.owners.lookup (String.ofList ['r', 'o', 't', 'a', 'r', 'e', 't', 'i', '_', 'e', 'g', 'n', 'a', 'r', 'g', 'n', 'o', 'l'].reverse) = some Manifest.sig_longrange_iterator := by kernel_rfl
theorem args_long_next_1 (a : Value) : argsOk "longrange_iterator.__next__" ⟨[a], []⟩ := by
  unfold argsOk; rw [signature?_of (id := "longrange_iterator.__next__") (n := ['_', '_', 't', 'x', 'e', 'n', '_', '_']) (o := ['r', 'o', 't', 'a', 'r', 'e', 't', 'i', '_', 'e', 'g', 'n', 'a', 'r', 'g', 'n', 'o', 'l']) (by kernel_rfl) owner_long]; kernel_rfl
theorem slot_long_iter : Slot "longrange_iterator" "__iter__" "longrange_iterator.__iter__" :=
  .of (owner := "longrange_iterator") (n := "__iter__") (by rw [typeLookup_type, builtinLookup_eq_fast]; kernel_rfl) (by decide +kernel) (by decide +kernel) (by decide +kernel)
    (by first | exact .inl (by decide +kernel) | exact .inr (by decide +kernel)) (by rw [isSubtype_type]; kernel_rfl)
theorem args_long_iter_1 (a : Value) : argsOk "longrange_iterator.__iter__" ⟨[a], []⟩ := by
  unfold argsOk; rw [signature?_of (id := "longrange_iterator.__iter__") (n := ['_', '_', 'r', 'e', 't', 'i', '_', '_']) (o := ['r', 'o', 't', 'a', 'r', 'e', 't', 'i', '_', 'e', 'g', 'n', 'a', 'r', 'g', 'n', 'o', 'l']) (by kernel_rfl) owner_long]; kernel_rfl
theorem entry_long_iter : entryFor table "longrange_iterator.__iter__" = some Builtin.«dict_keyiterator.__iter__» :=
  entryFor_alias (id' := "dict_keyiterator.__iter__") (by kernel_rfl) (by first | rfl | decide +kernel | (unfold String.splitOn; simp +decide [String.splitOnAux])) (by decide +kernel) (by kernel_rfl)
def IsLong (h : Heap) (it : Addr) : Prop := h.get? it = some { cls := .type "longrange_iterator", dict := none, data := .fields #[rawInt 0, rawInt 0, rawInt 1], slots := #[] }
section
variable {prog : Program} {w : World} {A : Around} {E : Value → Shared → Prop} {s : Shared}
theorem wpAny_pyIter_long {r : Addr} {b : Int} {t u v : Tok} {Q : Value → Shared → Prop} (hr : IsRange s.heap r 0 b 1 t u v) (hb : b < -(2 ^ 62)) (hsmall : Builtin.Range.small 0 b 1 = false)
    (hQ : Q (.ref s.heap.objs.size) { s with heap := s.heap.push { cls := .type "longrange_iterator", data := .fields #[rawInt 0, rawInt 0, rawInt 1] } }) :
    wpAny (model prog w) A (pyIter (.ref r)) Q E s := by
  have hT : s.TypeIs (.ref r) "range" := ⟨_, hr, rfl⟩
  refine wpAny_pyIter_slot hT F.slot_range_iter (call_meets F.slot_range_iter hT F.entry_range_iter (F.args_range_iter_1 _)
    (AutoRange.range___iter___range_0 r 0 b 1 t u v (by unfold Builtin.Range.small at hsmall; rw [hsmall]; rfl)) ⟨hr, ?_⟩)
  unfold Builtin.Range.small at hsmall
  have hz : Builtin.Range.rangeSize 0 b 1 = 0 := by rw [rangeSize_one]; split <;> omega
  simp only [hsmall, Bool.false_eq_true, if_false]
  rw [hz]
  exact ⟨"longrange_iterator", _, ⟨_, Heap.get?_push_size _ rfl, rfl⟩, slot_long_next.lookup, hQ⟩
theorem wpAny_pyIter_longiter {it : Addr} {Q : Value → Shared → Prop} (hit : IsLong s.heap it) (h : Q (.ref it) s) : wpAny (model prog w) A (pyIter (.ref it)) Q E s := by
  have hT : s.TypeIs (.ref it) "longrange_iterator" := ⟨_, hit, rfl⟩
  refine wpAny_pyIter_slot hT slot_long_iter (wpAny_call_entry slot_long_iter hT entry_long_iter ?_ (args_long_iter_1 _))
  show wpAny _ _ (ret (.ref it)) _ _ s
  exact wpAny_pure ⟨_, rfl, "longrange_iterator", _, hT, slot_long_next.lookup, h⟩
theorem wpAny_pyNext_long_end {it : Addr} {Q : Option Value → Shared → Prop} (hh : A.handled = none) (hit : IsLong s.heap it)
    (hQ : ∀ h', Heap.ExtBut it s.heap h' → Q none { s with heap := h' }) : wpAny (model prog w) A (pyNext (.ref it)) Q E s := by
  have hT : s.TypeIs (.ref it) "longrange_iterator" := ⟨_, hit, rfl⟩
  unfold pyNext
  refine wpAny_bind (wpAny_attempt (wpAny_callSpecial?_slot (name := Str.ofString "__next__") hT slot_long_next
    (wpAny_call_entry slot_long_next hT entry_long_next ?_ (args_long_next_1 _))))
  unfold Builtin.«longrange_iterator.__next__»
  wp_walk
  simp only [raiseNew]
  refine wpAny_bind (wpAny_handled ?_)
  first | rw [show A.in1.handled = none from hh] | rw [hh]
  refine wpAny_bind (wpAny_pure (wpAny_throw ?_))
  refine wpAny_bind (wpAny_isInstance (T := "StopIteration") (b := true) ⟨_, Heap.get?_push_size _ rfl, rfl⟩ isSubtype_stop ?_)
  exact wpAny_pure (hQ _ (((Heap.ExtBut.refl it s.heap).push _).push _))
end
theorem turn_long {P : Program} {w : World} {K : PySem.W.Frag} {tg : Expr} (it : Addr) : Turn P w K tg (Itr 0 0) [it] it (fun _ h => IsLong h it) where
  mem := by simp
  obj := fun i h st b hb => by
    have e : b = it := by simpa using hb
    subst e
    exact ⟨_, st, fun v z => by
      have z' : Data.fields _ = Data.cell v := z
      cases z'⟩
  keep := fun i h h' st k => k it (by simp) _ st
  item := by
    intro X hP hw hK hc i pins s σ H E I hf st hg
    exact absurd (show i < 0 from hg) (Nat.not_lt_zero _)
  done := by
    intro X hP hw hK hc i pins s σ H E I hf st hg
    subst hP hw hK
    obtain ⟨f0, f1, f2, f3, f4, f5⟩ := hf it (by simp)
    exact wpAny_pyNext_long_end (I.ok.hd hc) st fun h' eb => ⟨rfl, I.turned (t' := s.toks) (fun b o hb e => eb b o hb e) f0 f1 f3 f4 f5⟩
  self := fun _ _ _ _ _ st h => wpAny_pyIter_longiter st h
section
variable {X : Cx} {tg : Expr}
theorem range_itL {pins : List (Addr × Obj)} {σ : St} {H : Hp} {s : Shared} {R : It → Hp → Prop} {E : Value → Shared → Prop} {hi : Int} {t u v : Tok} {tk : Nat} (I : Inv X pins σ H s) (h3 : hi < -(2 ^ 62)) (hs : Builtin.Range.small 0 hi 1 = false)
    (q : R (Itr 0 0) H) : wpAny (model X.prog X.w) X.A (pyIter (.ref s.heap.objs.size)) (PIE X pins σ tg R) E { s with heap := s.heap.push { cls := .type "range", data := .fields #[.int 0 t, .int hi u, .int 1 v] }, toks := tk } := by
  refine wpAny_pyIter_long (IsRange.new ..) h3 hs ?_
  have I1 : Inv X pins σ H { s with heap := s.heap.push { cls := .type "range", data := .fields #[.int 0 t, .int hi u, .int 1 v] }, toks := tk } := I.kept fun b o e => Heap.get?_push_of_some _ e
  refine ⟨(s.heap.push { cls := .type "range", data := .fields #[.int 0 t, .int hi u, .int 1 v] }).objs.size, [(s.heap.push { cls := .type "range", data := .fields #[.int 0 t, .int hi u, .int 1 v] }).objs.size], _, _, H, rfl,
    I1.kept (t' := tk) fun b o e => Heap.get?_push_of_some _ e, turn_long _, ?_, fun b hb => ?_, q⟩
  · exact Heap.get?_push_size _ rfl
  · have e : b = (s.heap.push { cls := .type "range", data := .fields #[.int 0 t, .int hi u, .int 1 v] }).objs.size := by simpa using hb
    subst e
    exact I1.fpOk (Nat.le_refl _) (I1.hok.fresh (Nat.le_refl _))
theorem range_itM {pins : List (Addr × Obj)} {σ : St} {H : Hp} {s : Shared} {R : It → Hp → Prop} {E : Value → Shared → Prop} {hi : Int} {t u v : Tok} {tk : Nat} (I : Inv X pins σ H s) (h3 : hi < -(2 ^ 62)) (hs : Builtin.Range.small 0 hi 1 = true)
    (q : R (Itr 0 0) H) : wpAny (model X.prog X.w) X.A (pyIter (.ref s.heap.objs.size)) (PIE X pins σ tg R) E { s with heap := s.heap.push { cls := .type "range", data := .fields #[.int 0 t, .int hi u, .int 1 v] }, toks := tk } := by
  refine wpAny_pyIter_range (IsRange.new ..) hs ?_
  have I1 : Inv X pins σ H { s with heap := s.heap.push { cls := .type "range", data := .fields #[.int 0 t, .int hi u, .int 1 v] }, toks := tk } := I.kept fun b o e => Heap.get?_push_of_some _ e
  refine ⟨(s.heap.push { cls := .type "range", data := .fields #[.int 0 t, .int hi u, .int 1 v] }).objs.size, [(s.heap.push { cls := .type "range", data := .fields #[.int 0 t, .int hi u, .int 1 v] }).objs.size], _, _, H, rfl,
    I1.kept (t' := tk) fun b o e => Heap.get?_push_of_some _ e, turn_range _ 0 0, ?_, fun b hb => ?_, q⟩
  · have e1 : (0 : Int) + ((0 : Nat) : Int) * 1 = 0 := by simp
    have e2 : (((0 : Nat) : Nat) : Int) - ((0 : Nat) : Int) = Builtin.Range.rangeSize 0 hi 1 := by rw [rangeSize_one]; split <;> omega
    show IsRangeIter _ _ (0 + ((0 : Nat) : Int) * 1) (((0 : Nat) : Int) - ((0 : Nat) : Int)) 1
    rw [e1, e2]
    exact Heap.get?_push_size _ rfl
  · have e : b = (s.heap.push { cls := .type "range", data := .fields #[.int 0 t, .int hi u, .int 1 v] }).objs.size := by simpa using hb
    subst e
    exact I1.fpOk (Nat.le_refl _) (I1.hok.fresh (Nat.le_refl _))
def iRngN (ta : TA) : TI := fun σ H R => ta σ H fun vs H1 => ∃ j : Int, vs = [.int j] ∧ j < 2 ^ 62 ∧ R (Itr 0 j.toNat) H1
theorem pi_rangeN {a : Expr} {ta : TA} {p pos : Pos} (hg : Gl X "range") (hm : X.mg "range" = none) (ha : PA X [a] ta) (hs : starEach [a] X.env = [(false, eval a X.env)] := by rfl) : PI X tg (.Call (.Name "range" p) [a] [] pos) (iRngN ta) := by
  intro pins s σ H R I h
  refine Call_ (ld_blt I hg hm boot_range (PyProof.Rows.callWith_type1 (thn (ha pos pins s σ H _ I h) fun us s1 ⟨vs, H1, I1, r1, q1⟩ => ?_) hs rfl))
  obtain ⟨j, e, q2, q⟩ := q1
  subst e
  cases r1 with
  | cons r rr =>
    cases rr
    obtain ⟨t, rfl⟩ := r
    by_cases hj : -(2 ^ 62) ≤ j
    · exact call_range_1 (range_it I1 (by omega) (by omega) hj q2 (by simpa using q))
    · have e0 : j.toNat = 0 := by omega
      rw [e0] at q
      cases hsm : Builtin.Range.small 0 j 1 with
      | false => exact call_range_1 (range_itL I1 (by omega) hsm q)
      | true => exact call_range_1 (range_itM I1 (by omega) hsm q)
end
end L2
namespace L3
open PySem PySem.Spec L2
section
variable {X : Cx} {K : PySem.W.Frag} {ea : EV} {pos : Pos}
def ivRN (ea : EV) : IV := fun Γ μ => (ea Γ μ).bind fun p => match p.1 with
  | .int j => if j ≤ 1000000000 then some ((rngD 0 j.toNat, none), p.2) else none
  | _ => none
theorem xi_rangeN (mr : X.mg "range" = none) {tg a : Expr} {p : Pos} (ha : PE X a (tD K ea)) (hg : Gl X "range" := by rfl) (hs : starEach [a] X.env = [(false, eval a X.env)] := by rfl) : PI X tg (.Call (.Name "range" p) [a] [] pos) (tDI K (ivRN ea)) := PI_imp (pi_rangeN hg mr (pa_cons ha pa_nil hs) hs) fun σ H R h => by
  obtain ⟨W, Γ, its, c, μ', rfl, ok, en, e, q⟩ := h
  obtain ⟨p1, e1, e⟩ := bnd e
  split at e
  · rename_i j hj
    split at e
    · rename_i hb
      cases e
      refine ⟨W, Γ, p1.1, p1.2, rfl, ok, en, e1, fun v W1 hμ ok1 s1 r1 => ?_⟩
      rw [hj] at r1
      cases r1
      exact ⟨j, rfl, by omega, q _ W1 hμ ok1 s1 jr_range⟩
    · cases e
  · cases e
theorem ivRN_s {Γ : G} {μ μ1 : M} {j : Int} (h : ea Γ μ = some (.int j, μ1)) (hj : j ≤ 1000000000) : ivRN ea Γ μ = some ((rngD 0 j.toNat, none), μ1) := by
  unfold ivRN; rw [h]; show (if j ≤ 1000000000 then _ else _) = _; rw [if_pos hj]
end
end L3
set_option Elab.async false
set_option linter.all false
set_option maxRecDepth 100000
set_option maxHeartbeats 0
namespace Law
open PySem L2 L3
def top (i : Nat) : Stmt := PySem.Challenge.pw_morethanhalf_k04_all_sorts.main.body.getD i (.Pass ⟨0, 0, 0, 0⟩)
section
variable {P : Program} {w : World} {K : PySem.W.Frag} {mg : Str → Option Value} {base : Heap} {f : Addr} {fd : FuncData}
theorem sc_one_thing_more : FnScope ["sort", "most", "used"] ["sort", "most"] (defScope (top 12)) := ⟨rfl, rfl, rfl, by decide +kernel, rfl, by decide +kernel, by decide +kernel⟩
theorem nd_one_thing_more_0 : ((["number"] : List Str) ++ ([("sort", 0)] : List (Str × Nat)).map (·.1)).Nodup := by decide +kernel
noncomputable def ev_one_thing_more : SV :=
    (sSeq (sAsg (v2 fPlus (v2 fMaxD (vVar 0) (v1 fNeg (vC (.int 1)))) (vC (.int 1))) (gvName 2))
    (sRet (vComp ["number"] [("sort", 0)] (ivRN (v2 fMin (v2 fPlus (vVar 2) (vC (.int 1))) (vVar 1))) (gvName 0) bYes (v2 fCatM (vVar 1) (vL fLst (lCons (vVar 0) lNil))))))
noncomputable def mi_one_thing_more : List D → M → Option (D × M) := runF 3 2 (ev_one_thing_more)
theorem ok_one_thing_more {k : Nat} (F : Fun K "one_thing_more" "one_thing_more" (top 12) f fd) (m_max : mg "max" = none) (m_min : mg "min" = none) (m_range : mg "range" = none) : FnOk P w K mg base CX0 (k + 1) f fd ["sort", "most"] (spM K (mi_one_thing_more)) := by
  unfold mi_one_thing_more ev_one_thing_more
  exact fn_m F sc_one_thing_more fun cdv A outer s H E hr =>
    (xs_cons (xs_set (i := 2) sc_one_thing_more.nd rfl (Or.inl rfl) (x_plus (x_maxD m_max (x_var 0) (x_neg x_int)) x_int))
    (xs_one (xs_ret (x_comp (own := ["number"]) (cap := [("sort", 0)]) (cscope rfl) (xi_rangeN m_range (x_min m_min (x_plus (x_var 2) x_int) (x_var 1)))
      (fun _ _ _ _ _ => (xg_name (i := 0) nd_one_thing_more_0 rfl (Or.inl rfl))) (fun _ _ _ _ _ => xif_nil)
      (fun _ _ _ _ _ => (x_catM (x_var 1) (x_lst (xa_cons (x_var 0) xa_nil))))))))
theorem sc_all_sorts : FnScope ["many", "most", "sorts", "step"] ["many", "most"] (defScope (top 13)) := ⟨rfl, rfl, rfl, by decide +kernel, rfl, by decide +kernel, by decide +kernel⟩
theorem nd_all_sorts_0 : ((["sort", "longer"] : List Str) ++ ([("most", 1)] : List (Str × Nat)).map (·.1)).Nodup := by decide +kernel
noncomputable def ev_all_sorts (f_one_thing_more : List D → M → Option (D × M)) (c_MOST_THINGS : D) (C_TooMany : Addr) : SX :=
    (sSeqX (sIfX (upB (bOr (vT (v2 fLt (vVar 0) (vC (.int 0)))) (vT (v2 fGt (vVar 0) (vC c_MOST_THINGS)))))
      (sRaiseM C_TooMany ((vC c_MOST_THINGS) :: ((vVar 0) :: [])))
      (upS sNx))
    (upS (sSeq (sAsg (vL fLst (lCons (vL fNew lNil) lNil)) (gvName 2))
    (sSeq (sFor (ivR (vVar 0)) (gvName 3)
      (sAsg (vComp2 ["sort", "longer"] [("most", 1)] (ivL (vVar 2)) (gvName 0) bYes (ivL (vL f_one_thing_more (lCons (vVar 0) (lCons (vVar 2) lNil)))) (gvName 1) bYes (vVar 1)) (gvName 2)))
    (sRet (vVar 2))))))
noncomputable def mi_all_sorts (f_one_thing_more : List D → M → Option (D × M)) (c_MOST_THINGS : D) (C_TooMany : Addr) : FX := runX 4 2 (ev_all_sorts f_one_thing_more c_MOST_THINGS C_TooMany)
theorem ok_all_sorts {f_one_thing_more : List D → M → Option (D × M)} {k_one_thing_more k : Nat} {c_MOST_THINGS : D} {v_MOST_THINGS : V} {u_MOST_THINGS : Value} {C_TooMany : Addr} (F : Fun K "all_sorts" "all_sorts" (top 13) f fd) (D_one_thing_more : Df P w K mg base k_one_thing_more "one_thing_more" ["sort", "most"] (spM K f_one_thing_more)) (h_one_thing_more : k_one_thing_more ≤ k) (g_MOST_THINGS : mg "MOST_THINGS" = some u_MOST_THINGS ∧ RelV v_MOST_THINGS u_MOST_THINGS ∧ ∀ W, DR K W c_MOST_THINGS v_MOST_THINGS) (e_TooMany : mg "TooMany" = some (.ref C_TooMany) ∧ RaiseIn K C_TooMany) (m_range : mg "range" = none) : FnOk P w K mg base (CXr P w) (k + 1) f fd ["many", "most"] (spX K (mi_all_sorts f_one_thing_more c_MOST_THINGS C_TooMany)) := by
  unfold mi_all_sorts ev_all_sorts
  exact fn_x F sc_all_sorts fun cdv A outer s H E hr =>
    (ys_cons (ys_if (yt_up (PW.pt (xw_or (x_ltT (x_var 0) x_int) (xw_or1 (x_gtT (x_var 0) (x_glob g_MOST_THINGS.1 g_MOST_THINGS.2.1 g_MOST_THINGS.2.2))))))
      (ys_one (ys_raiseM (x_msg (pj_s (by decide) (pj_v (x_glob g_MOST_THINGS.1 g_MOST_THINGS.2.1 g_MOST_THINGS.2.2) (pj_s (by decide) (pj_v (x_var 0) pj0))))) e_TooMany.1 e_TooMany.2))
      ys_nil)
    (yss_up (xs_cons (xs_set (i := 2) sc_all_sorts.nd rfl (Or.inl rfl) (x_lst (xa_cons (x_new xa_nil) xa_nil)))
    (xs_cons (xs_for PassesOwn.never rfl (xi_range m_range (x_var 0)) (xg_name (i := 3) sc_all_sorts.nd rfl (Or.inl rfl))
      (xs_one (xs_setComp2 (i := 2) sc_all_sorts.nd rfl rfl (own := ["sort", "longer"]) (cap := [("most", 1)]) (cscope rfl) (xi_list (x_var 2))
      (fun _ _ _ _ _ => (xg_name (i := 0) nd_all_sorts_0 rfl (Or.inl rfl))) (fun _ _ _ _ _ => xif_nil)
      (fun _ _ _ _ _ => (xi_list (x_df D_one_thing_more (hr.mono h_one_thing_more) (xa_cons (x_var 0) (xa_cons (x_var 2) xa_nil))))) (fun _ _ _ _ _ => (xg_name (i := 1) nd_all_sorts_0 rfl (Or.inl rfl))) (fun _ _ _ _ _ => xif_nil)
      (fun _ _ _ _ _ => (x_var 1)))))
    (xs_one (xs_ret (x_var 2)))))))
theorem sc_law_pot : FnScope ["cell"] ["cell"] (defScope (top 15)) := ⟨rfl, rfl, rfl, by decide +kernel, rfl, by decide +kernel, by decide +kernel⟩
noncomputable def ev_law_pot : SV :=
    (sRet (vL fNew (lCons (v2 fMax (vC (.int 0)) (v2 fSub (vVar 0) (v2 fPow (vC (.int 10)) (vC (.int 18))))) (lCons (v2 fMod (vVar 0) (vC (.int 99999999977))) (lCons (vC (.int 0)) lNil)))))
noncomputable def mi_law_pot : List D → M → Option (D × M) := runF 1 1 (ev_law_pot)
theorem ok_law_pot {k : Nat} (F : Fun K "_law_pot" "_law_pot" (top 15) f fd) (m_max : mg "max" = none) : FnOk P w K mg base CX0 (k + 1) f fd ["cell"] (spM K (mi_law_pot)) := by
  unfold mi_law_pot ev_law_pot
  exact fn_m F sc_law_pot fun cdv A outer s H E hr =>
    (xs_one (xs_ret (x_new (xa_cons (x_max m_max x_int (x_sub (x_var 0) (x_pow x_int x_int))) (xa_cons (x_mod (x_var 0) x_int) (xa_cons x_int xa_nil))))))
theorem sc_law_take : FnScope ["pot", "many", "found", "number"] ["pot", "many"] (defScope (top 16)) := ⟨rfl, rfl, rfl, by decide +kernel, rfl, by decide +kernel, by decide +kernel⟩
noncomputable def ev_law_take : SV :=
    (sSeq (sIf (vT (v2 fGt (v2 fIx (vVar 0) (vC (.int 0))) (vC (.int 0))))
      (sSeq (sAsg (v2 fMod (v2 fIx (vVar 0) (vC (.int 0))) (vVar 1)) (gvName 2))
      (sSeq (sAsg (v2 fDiv (v2 fIx (vVar 0) (vC (.int 0))) (vVar 1)) (gvSub (vVar 0) (vC (.int 0))))
      (sRet (vVar 2))))
      sNx)
    (sSeq (sAsg (v2 fPlus (v2 fIx (vVar 0) (vC (.int 2))) (vC (.int 1))) (gvSub (vVar 0) (vC (.int 2))))
    (sSeq (sAsg (v2 fMod (v2 fPlus (v2 fIx (vVar 0) (vC (.int 1))) (v2 fTimes (vC (.int 700001)) (v2 fIx (vVar 0) (vC (.int 2))))) (vC (.int 99999999947))) (gvName 3))
    (sSeq (sAsg (v2 fMod (v2 fTimes (vVar 3) (vVar 3)) (vC (.int 99999999821))) (gvName 3))
    (sSeq (sAsg (v2 fMod (v2 fTimes (vVar 3) (v2 fPlus (vVar 3) (vC (.int 19)))) (vC (.int 9999999967))) (gvName 3))
    (sRet (v2 fMod (v2 fDiv (vVar 3) (vC (.int 13))) (vVar 1))))))))
noncomputable def mi_law_take : List D → M → Option (D × M) := runF 4 2 (ev_law_take)
theorem ok_law_take {k : Nat} (F : Fun K "_law_take" "_law_take" (top 16) f fd) : FnOk P w K mg base CX0 (k + 1) f fd ["pot", "many"] (spM K (mi_law_take)) := by
  unfold mi_law_take ev_law_take
  exact fn_m F sc_law_take fun cdv A outer s H E hr =>
    (xs_cons (xs_if (x_gtT (x_ix (x_var 0) x_int) x_int)
      (xs_cons (xs_set (i := 2) sc_law_take.nd rfl (Or.inl rfl) (x_mod (x_ix (x_var 0) x_int) (x_var 1)))
      (xs_cons (xs_asg (x_fdiv (x_ix (x_var 0) x_int) (x_var 1)) (xg_sub (x_var 0) x_int))
      (xs_one (xs_ret (x_var 2)))))
      xs_nil)
    (xs_cons (xs_asg (x_plus (x_ix (x_var 0) x_int) x_int) (xg_sub (x_var 0) x_int))
    (xs_cons (xs_set (i := 3) sc_law_take.nd rfl (Or.inl rfl) (x_mod (x_plus (x_ix (x_var 0) x_int) (x_times x_int (x_ix (x_var 0) x_int))) x_int))
    (xs_cons (xs_set (i := 3) sc_law_take.nd rfl (Or.inl rfl) (x_mod (x_times (x_var 3) (x_var 3)) x_int))
    (xs_cons (xs_set (i := 3) sc_law_take.nd rfl (Or.inl rfl) (x_mod (x_times (x_var 3) (x_plus (x_var 3) x_int)) x_int))
    (xs_one (xs_ret (x_mod (x_fdiv (x_var 3) x_int) (x_var 1)))))))))
theorem sc_law_flags : FnScope ["e", "found"] ["e"] (defScope (top 17)) := ⟨rfl, rfl, rfl, by decide +kernel, rfl, by decide +kernel, by decide +kernel⟩
noncomputable def ev_law_flags (q_NoName : Addr → Option Bool) (q_TooMany : Addr → Option Bool) (q_NoFit : Addr → Option Bool) (q_NoThing : Addr → Option Bool) (q_NoneYet : Addr → Option Bool) (q_NoForm : Addr → Option Bool) (q_NoText : Addr → Option Bool) (q_NoAsk : Addr → Option Bool) (q_ValueError : Addr → Option Bool) : SV :=
    (sSeq (sAsg (vL fLst (lCons (v1 (fIsiX q_NoThing) (vVar 0)) (lCons (v1 (fIsiX q_NoFit) (vVar 0)) (lCons (v1 (fIsiX q_TooMany) (vVar 0)) (lCons (v1 (fIsiX q_NoName) (vVar 0)) lNil))))) (gvName 1))
    (sSeq (sAsg (v2 fPlus (vVar 1) (vL fLst (lCons (v1 (fIsiX q_NoAsk) (vVar 0)) (lCons (v1 (fIsiX q_NoText) (vVar 0)) (lCons (v1 (fIsiX q_NoForm) (vVar 0)) (lCons (v1 (fIsiX q_NoneYet) (vVar 0)) lNil)))))) (gvName 1))
    (sRet (v2 fPlus (vVar 1) (vL fLst (lCons (v1 (fIsiX q_ValueError) (vVar 0)) lNil))))))
noncomputable def mi_law_flags (q_NoName : Addr → Option Bool) (q_TooMany : Addr → Option Bool) (q_NoFit : Addr → Option Bool) (q_NoThing : Addr → Option Bool) (q_NoneYet : Addr → Option Bool) (q_NoForm : Addr → Option Bool) (q_NoText : Addr → Option Bool) (q_NoAsk : Addr → Option Bool) (q_ValueError : Addr → Option Bool) : List D → M → Option (D × M) := runF 2 1 (ev_law_flags q_NoName q_TooMany q_NoFit q_NoThing q_NoneYet q_NoForm q_NoText q_NoAsk q_ValueError)
theorem ok_law_flags {k : Nat} {D_NoName : Addr} {q_NoName : Addr → Option Bool} {D_TooMany : Addr} {q_TooMany : Addr → Option Bool} {D_NoFit : Addr} {q_NoFit : Addr → Option Bool} {D_NoThing : Addr} {q_NoThing : Addr → Option Bool} {D_NoneYet : Addr} {q_NoneYet : Addr → Option Bool} {D_NoForm : Addr} {q_NoForm : Addr → Option Bool} {D_NoText : Addr} {q_NoText : Addr → Option Bool} {D_NoAsk : Addr} {q_NoAsk : Addr → Option Bool} {q_ValueError : Addr → Option Bool} (F : Fun K "_law_flags" "_law_flags" (top 17) f fd) (i_NoName : mg "NoName" = some (.ref D_NoName) ∧ IsX K (.ref D_NoName) q_NoName) (i_TooMany : mg "TooMany" = some (.ref D_TooMany) ∧ IsX K (.ref D_TooMany) q_TooMany) (i_NoFit : mg "NoFit" = some (.ref D_NoFit) ∧ IsX K (.ref D_NoFit) q_NoFit) (i_NoThing : mg "NoThing" = some (.ref D_NoThing) ∧ IsX K (.ref D_NoThing) q_NoThing) (i_NoneYet : mg "NoneYet" = some (.ref D_NoneYet) ∧ IsX K (.ref D_NoneYet) q_NoneYet) (i_NoForm : mg "NoForm" = some (.ref D_NoForm) ∧ IsX K (.ref D_NoForm) q_NoForm) (i_NoText : mg "NoText" = some (.ref D_NoText) ∧ IsX K (.ref D_NoText) q_NoText) (i_NoAsk : mg "NoAsk" = some (.ref D_NoAsk) ∧ IsX K (.ref D_NoAsk) q_NoAsk) (i_ValueError : IsX K (.ty "ValueError") q_ValueError) (m_isinstance : mg "isinstance" = none) (m_ValueError : mg "ValueError" = none) : FnOkU P w K mg base CX0 (k + 1) f fd ["e"] (spM K (mi_law_flags q_NoName q_TooMany q_NoFit q_NoThing q_NoneYet q_NoForm q_NoText q_NoAsk q_ValueError)) := by
  unfold mi_law_flags ev_law_flags
  exact fn_mU F sc_law_flags fun cdv A outer s H E hr =>
    (xs_cons (xs_set (i := 1) sc_law_flags.nd rfl (Or.inl rfl) (x_lst (xa_cons (x_isiX i_NoThing.2 m_isinstance (x_var 0) (pe_glob rfl i_NoThing.1 rfl (v := .ref D_NoThing))) (xa_cons (x_isiX i_NoFit.2 m_isinstance (x_var 0) (pe_glob rfl i_NoFit.1 rfl (v := .ref D_NoFit))) (xa_cons (x_isiX i_TooMany.2 m_isinstance (x_var 0) (pe_glob rfl i_TooMany.1 rfl (v := .ref D_TooMany))) (xa_cons (x_isiX i_NoName.2 m_isinstance (x_var 0) (pe_glob rfl i_NoName.1 rfl (v := .ref D_NoName))) xa_nil))))))
    (xs_cons (xs_set (i := 1) sc_law_flags.nd rfl (Or.inl rfl) (x_plus (x_var 1) (x_lst (xa_cons (x_isiX i_NoAsk.2 m_isinstance (x_var 0) (pe_glob rfl i_NoAsk.1 rfl (v := .ref D_NoAsk))) (xa_cons (x_isiX i_NoText.2 m_isinstance (x_var 0) (pe_glob rfl i_NoText.1 rfl (v := .ref D_NoText))) (xa_cons (x_isiX i_NoForm.2 m_isinstance (x_var 0) (pe_glob rfl i_NoForm.1 rfl (v := .ref D_NoForm))) (xa_cons (x_isiX i_NoneYet.2 m_isinstance (x_var 0) (pe_glob rfl i_NoneYet.1 rfl (v := .ref D_NoneYet))) xa_nil)))))))
    (xs_one (xs_ret (x_plus (x_var 1) (x_lst (xa_cons (x_isiX i_ValueError m_isinstance (x_var 0) (pe_bltn rfl m_ValueError rfl (v := .ty "ValueError") rfl)) xa_nil)))))))
theorem sc_law_due_flags : FnScope ["at"] ["at"] (defScope (top 18)) := ⟨rfl, rfl, rfl, by decide +kernel, rfl, by decide +kernel, by decide +kernel⟩
theorem nd_law_due_flags_0 : ((["k"] : List Str) ++ ([("at", 0)] : List (Str × Nat)).map (·.1)).Nodup := by decide +kernel
noncomputable def ev_law_due_flags : SV :=
    (sRet (vComp ["k"] [("at", 0)] (ivR (vC (.int 9))) (gvName 0) bYes (v2 (fIn false) (vVar 0) (vL fTup (lCons (vVar 1) (lCons (vC (.int 8)) lNil))))))
noncomputable def mi_law_due_flags : List D → M → Option (D × M) := runF 1 1 (ev_law_due_flags)
theorem ok_law_due_flags {k : Nat} (F : Fun K "_law_due_flags" "_law_due_flags" (top 18) f fd) (m_range : mg "range" = none) : FnOk P w K mg base CX0 (k + 1) f fd ["at"] (spM K (mi_law_due_flags)) := by
  unfold mi_law_due_flags ev_law_due_flags
  exact fn_m F sc_law_due_flags fun cdv A outer s H E hr =>
    (xs_one (xs_ret (x_comp (own := ["k"]) (cap := [("at", 0)]) (cscope rfl) (xi_range m_range x_int)
      (fun _ _ _ _ _ => (xg_name (i := 0) nd_law_due_flags_0 rfl (Or.inl rfl))) (fun _ _ _ _ _ => xif_nil)
      (fun _ _ _ _ _ => (x_in (x_var 0) (x_tup (xa_cons (x_var 1) (xa_cons x_int xa_nil))))))))
theorem sc_law_many : FnScope ["things", "kinds", "row", "thing"] ["things", "kinds"] (defScope (top 19)) := ⟨rfl, rfl, rfl, by decide +kernel, rfl, by decide +kernel, by decide +kernel⟩
theorem nd_law_many_0 : ((["k"] : List Str) ++ ([("row", 2)] : List (Str × Nat)).map (·.1)).Nodup := by decide +kernel
noncomputable def ev_law_many : SV :=
    (sSeq (sAsg (vL fLst (lCons (vC (.int 1)) lNil)) (gvName 2))
    (sSeq (sFor (ivR (vVar 0)) (gvName 3)
      (sAsg (v2 fPlus (vL fLst (lCons (vC (.int 0)) lNil)) (vComp ["k"] [("row", 2)] (ivR2 (vC (.int 1)) (v2 fPlus (v1 fLen (vVar 2)) (vC (.int 1)))) (gvName 0) bYes (v2 fPlus (v2 fTimes (vVar 0) (v2 fIx (v2 fPlus (vVar 1) (vL fLst (lCons (vC (.int 0)) lNil))) (vVar 0))) (v2 fIx (vVar 1) (v2 fSub (vVar 0) (vC (.int 1))))))) (gvName 2)))
    (sRet (v1 fSum (vSl (vVar 2) oNone (oSome (v2 fPlus (v2 fMax (vC (.int 0)) (vVar 1)) (vC (.int 1)))))))))
noncomputable def mi_law_many : List D → M → Option (D × M) := runF 4 2 (ev_law_many)
theorem ok_law_many {k : Nat} (F : Fun K "_law_many" "_law_many" (top 19) f fd) (m_range : mg "range" = none) (m_len : mg "len" = none) (m_max : mg "max" = none) (m_sum : mg "sum" = none) : FnOk P w K mg base CX0 (k + 1) f fd ["things", "kinds"] (spM K (mi_law_many)) := by
  unfold mi_law_many ev_law_many
  exact fn_m F sc_law_many fun cdv A outer s H E hr =>
    (xs_cons (xs_set (i := 2) sc_law_many.nd rfl (Or.inr rfl) (x_lst (xa_cons x_int xa_nil)))
    (xs_cons (xs_for PassesOwn.never rfl (xi_range m_range (x_var 0)) (xg_name (i := 3) sc_law_many.nd rfl (Or.inl rfl))
      (xs_one (xs_set (i := 2) sc_law_many.nd rfl (Or.inr rfl) (x_plus (x_lst (xa_cons x_int xa_nil)) (x_comp (own := ["k"]) (cap := [("row", 2)]) (cscope rfl) (xi_range2 m_range x_int (x_plus (x_len m_len (x_var 2)) x_int))
      (fun _ _ _ _ _ => (xg_name (i := 0) nd_law_many_0 rfl (Or.inl rfl))) (fun _ _ _ _ _ => xif_nil)
      (fun _ _ _ _ _ => (x_plus (x_times (x_var 0) (x_ix (x_plus (x_var 1) (x_lst (xa_cons x_int xa_nil))) (x_var 0))) (x_ix (x_var 1) (x_sub (x_var 0) x_int)))))))))
    (xs_one (xs_ret (x_sum m_sum (x_sl (x_var 2) xo_none (xo_some (x_plus (x_max m_max x_int (x_var 1)) x_int))))))))
theorem sc_law_is_sorts : FnScope ["sorts"] ["sorts"] (defScope (top 20)) := ⟨rfl, rfl, rfl, by decide +kernel, rfl, by decide +kernel, by decide +kernel⟩
theorem nd_law_is_sorts_0 : ((["kind"] : List Str) ++ ([] : List (Str × Nat)).map (·.1)).Nodup := by decide +kernel
theorem nd_law_is_sorts_1 : ((["kind"] : List Str) ++ ([] : List (Str × Nat)).map (·.1)).Nodup := by decide +kernel
theorem nd_law_is_sorts_2 : ((["k"] : List Str) ++ ([("sorts", 0)] : List (Str × Nat)).map (·.1)).Nodup := by decide +kernel
noncomputable def ev_law_is_sorts : SV :=
    (sSeq (sIf (bOr (bNot (bTru (v1 (fIsi "list") (vVar 0)))) (vT (v2 fNe (vComp ["kind"] [] (ivL (vVar 0)) (gvName 0) (bNot (bTru (v1 (fIsi "int") (vVar 0)))) (vVar 0)) (vL fLst lNil))))
      (sRet (vC (.bl false)))
      sNx)
    (sSeq (sIf (vT (v2 fNe (vComp ["kind"] [] (ivL (vVar 0)) (gvName 0) (bTru (v1 (fIsi "bool") (vVar 0))) (vVar 0)) (vL fLst lNil)))
      (sRet (vC (.bl false)))
      sNx)
    (sRet (v2 fEq (vComp ["k"] [("sorts", 0)] (ivR (v1 fLen (vVar 0))) (gvName 0) (bNot (vT (vChain fLe fLe (vC (.int 0)) (v2 fIx (vVar 1) (vVar 0)) (v1 fLenSet (vSl (vVar 1) oNone (oSome (vVar 0))))))) (vVar 0)) (vL fLst lNil)))))
noncomputable def mi_law_is_sorts : List D → M → Option (D × M) := runF 1 1 (ev_law_is_sorts)
theorem ok_law_is_sorts {k : Nat} (F : Fun K "_law_is_sorts" "_law_is_sorts" (top 20) f fd) (m_isinstance : mg "isinstance" = none) (m_list : mg "list" = none) (m_int : mg "int" = none) (m_bool : mg "bool" = none) (m_len : mg "len" = none) (m_range : mg "range" = none) (m_set : mg "set" = none) : FnOk P w K mg base CX0 (k + 1) f fd ["sorts"] (spM K (mi_law_is_sorts)) := by
  unfold mi_law_is_sorts ev_law_is_sorts
  exact fn_m F sc_law_is_sorts fun cdv A outer s H E hr =>
    (xs_cons (xs_if (PW.pt (xw_or (x_notT (x_truth (x_isi "list" m_isinstance (x_var 0) (pe_bltn rfl m_list rfl (v := .ty "list") rfl)))) (xw_or1 (x_neT hr (x_comp (own := ["kind"]) (cap := []) (cscope rfl) (xi_list (x_var 0))
      (fun _ _ _ _ _ => (xg_name (i := 0) nd_law_is_sorts_0 rfl (Or.inl rfl))) (fun _ _ _ _ _ => (xif_one (x_notT (x_truth (x_isi "int" m_isinstance (x_var 0) (pe_bltn rfl m_int rfl (v := .ty "int") rfl))))))
      (fun _ _ _ _ _ => (x_var 0))) (x_lst xa_nil)))))
      (xs_one (xs_ret x_bl))
      xs_nil)
    (xs_cons (xs_if (x_neT hr (x_comp (own := ["kind"]) (cap := []) (cscope rfl) (xi_list (x_var 0))
      (fun _ _ _ _ _ => (xg_name (i := 0) nd_law_is_sorts_1 rfl (Or.inl rfl))) (fun _ _ _ _ _ => (xif_one (x_truth (x_isi "bool" m_isinstance (x_var 0) (pe_bltn rfl m_bool rfl (v := .ty "bool") rfl)))))
      (fun _ _ _ _ _ => (x_var 0))) (x_lst xa_nil))
      (xs_one (xs_ret x_bl))
      xs_nil)
    (xs_one (xs_ret (x_eq hr (x_comp (own := ["k"]) (cap := [("sorts", 0)]) (cscope rfl) (xi_range m_range (x_len m_len (x_var 0)))
      (fun _ _ _ _ _ => (xg_name (i := 0) nd_law_is_sorts_2 rfl (Or.inl rfl))) (fun _ _ _ _ _ => (xif_one (x_notT (x_chainT op_le ra_le op_le ra_le x_int (x_ix (x_var 1) (x_var 0)) (x_lenSet m_len m_set (x_sl (x_var 1) xo_none (xo_some (x_var 0))))))))
      (fun _ _ _ _ _ => (x_var 0))) (x_lst xa_nil))))))
theorem sc_law_right : FnScope ["things", "kinds", "again", "told", "sorts"] ["things", "kinds"] (defScope (top 21)) := ⟨rfl, rfl, rfl, by decide +kernel, rfl, by decide +kernel, by decide +kernel⟩
theorem nd_law_right_0 : ((["sorts"] : List Str) ++ ([("things", 0)] : List (Str × Nat)).map (·.1)).Nodup := by decide +kernel
theorem nd_law_right_1 : ((["k"] : List Str) ++ ([("told", 3)] : List (Str × Nat)).map (·.1)).Nodup := by decide +kernel
theorem nd_law_right_2 : ((["sorts"] : List Str) ++ ([("kinds", 1)] : List (Str × Nat)).map (·.1)).Nodup := by decide +kernel
theorem nd_law_right_3 : ((["sorts"] : List Str) ++ ([("things", 0)] : List (Str × Nat)).map (·.1)).Nodup := by decide +kernel
noncomputable def ev_law_right (f_all_sorts : List D → M → Option (D × M)) (f_law_many : List D → M → Option (D × M)) (f_law_is_sorts : List D → M → Option (D × M)) : SV :=
    (sSeq (sFor (ivR (vC (.int 2))) (gvName 2)
      (sSeq (sAsg (vL f_all_sorts (lCons (vVar 0) (lCons (vVar 1) lNil))) (gvName 3))
      (sSeq (sIf (bOr (bNot (bTru (v1 (fIsi "list") (vVar 3)))) (vT (v2 fNe (v1 fLen (vVar 3)) (vL f_law_many (lCons (vVar 0) (lCons (vVar 1) lNil))))))
        (sRet (vC (.bl false)))
        sNx)
      (sSeq (sIf (vT (v2 fNe (vComp ["sorts"] [("things", 0)] (ivL (vVar 3)) (gvName 0) (bOr (vT (v2 fNe (v1 fLen (vVar 0)) (vVar 1))) (bNot (bTru (vL f_law_is_sorts (lCons (vVar 0) lNil))))) (vVar 0)) (vL fLst lNil)))
        (sRet (vC (.bl false)))
        sNx)
      (sSeq (sIf (vT (v2 fNe (vComp ["k"] [("told", 3)] (ivR2 (vC (.int 1)) (v1 fLen (vVar 3))) (gvName 0) (vT (v2 fGeL (v2 fIx (vVar 1) (v2 fSub (vVar 0) (vC (.int 1)))) (v2 fIx (vVar 1) (vVar 0)))) (vVar 0)) (vL fLst lNil)))
        (sRet (vC (.bl false)))
        sNx)
      (sSeq (sIf (vT (v2 fNe (vComp ["sorts"] [("kinds", 1)] (ivL (vVar 3)) (gvName 0) (vT (v2 fGt (v1 fLenSet (vVar 0)) (v2 fMax (vC (.int 0)) (vVar 1)))) (vVar 0)) (vL fLst lNil)))
        (sRet (vC (.bl false)))
        sNx)
      (sSeq (sFor (ivL (vVar 3)) (gvName 4)
        (sExpr (v2l fApp (vVar 4) (vC (.int 0)))))
      (sIf (vT (v2 fNe (vComp ["sorts"] [("things", 0)] (ivL (vVar 3)) (gvName 0) (vT (v2 fNe (v1 fLen (vVar 0)) (v2 fPlus (vVar 1) (vC (.int 1))))) (vVar 0)) (vL fLst lNil)))
        (sRet (vC (.bl false)))
        sNx))))))))
    (sRet (vC (.bl true))))
noncomputable def mi_law_right (f_all_sorts : List D → M → Option (D × M)) (f_law_many : List D → M → Option (D × M)) (f_law_is_sorts : List D → M → Option (D × M)) : List D → M → Option (D × M) := runF 5 2 (ev_law_right f_all_sorts f_law_many f_law_is_sorts)
theorem ok_law_right {f_all_sorts f_law_many f_law_is_sorts : List D → M → Option (D × M)} {k_all_sorts k_law_many k_law_is_sorts k : Nat} (F : Fun K "_law_right" "_law_right" (top 21) f fd) (D_all_sorts : Df P w K mg base k_all_sorts "all_sorts" ["many", "most"] (spM K f_all_sorts)) (h_all_sorts : k_all_sorts ≤ k) (D_law_many : Df P w K mg base k_law_many "_law_many" ["things", "kinds"] (spM K f_law_many)) (h_law_many : k_law_many ≤ k) (D_law_is_sorts : Df P w K mg base k_law_is_sorts "_law_is_sorts" ["sorts"] (spM K f_law_is_sorts)) (h_law_is_sorts : k_law_is_sorts ≤ k) (m_range : mg "range" = none) (m_isinstance : mg "isinstance" = none) (m_list : mg "list" = none) (m_len : mg "len" = none) (m_set : mg "set" = none) (m_max : mg "max" = none) : FnOk P w K mg base CX0 (k + 1) f fd ["things", "kinds"] (spM K (mi_law_right f_all_sorts f_law_many f_law_is_sorts)) := by
  unfold mi_law_right ev_law_right
  exact fn_m F sc_law_right fun cdv A outer s H E hr =>
    (xs_cons (xs_for PassesOwn.never rfl (xi_range m_range x_int) (xg_name (i := 2) sc_law_right.nd rfl (Or.inl rfl))
      (xs_cons (xs_set (i := 3) sc_law_right.nd rfl (Or.inr rfl) (x_df D_all_sorts (hr.mono h_all_sorts) (xa_cons (x_var 0) (xa_cons (x_var 1) xa_nil))))
      (xs_cons (xs_if (PW.pt (xw_or (x_notT (x_truth (x_isi "list" m_isinstance (x_var 3) (pe_bltn rfl m_list rfl (v := .ty "list") rfl)))) (xw_or1 (x_neT hr (x_len m_len (x_var 3)) (x_df D_law_many (hr.mono h_law_many) (xa_cons (x_var 0) (xa_cons (x_var 1) xa_nil)))))))
        (xs_one (xs_ret x_bl))
        xs_nil)
      (xs_cons (xs_if (x_neT hr (x_comp (own := ["sorts"]) (cap := [("things", 0)]) (cscope rfl) (xi_list (x_var 3))
      (fun _ _ _ _ _ => (xg_name (i := 0) nd_law_right_0 rfl (Or.inl rfl))) (fun _ _ _ _ _ => (xif_one (PW.pt (xw_or (x_neT hr (x_len m_len (x_var 0)) (x_var 1)) (xw_or1 (x_notT (x_truth (x_df D_law_is_sorts (hr.mono h_law_is_sorts) (xa_cons (x_var 0) xa_nil)))))))))
      (fun _ _ _ _ _ => (x_var 0))) (x_lst xa_nil))
        (xs_one (xs_ret x_bl))
        xs_nil)
      (xs_cons (xs_if (x_neT hr (x_comp (own := ["k"]) (cap := [("told", 3)]) (cscope rfl) (xi_range2 m_range x_int (x_len m_len (x_var 3)))
      (fun _ _ _ _ _ => (xg_name (i := 0) nd_law_right_1 rfl (Or.inl rfl))) (fun _ _ _ _ _ => (xif_one (x_geLT hr (x_ix (x_var 1) (x_sub (x_var 0) x_int)) (x_ix (x_var 1) (x_var 0)))))
      (fun _ _ _ _ _ => (x_var 0))) (x_lst xa_nil))
        (xs_one (xs_ret x_bl))
        xs_nil)
      (xs_cons (xs_if (x_neT hr (x_comp (own := ["sorts"]) (cap := [("kinds", 1)]) (cscope rfl) (xi_list (x_var 3))
      (fun _ _ _ _ _ => (xg_name (i := 0) nd_law_right_2 rfl (Or.inl rfl))) (fun _ _ _ _ _ => (xif_one (x_gtT (x_lenSet m_len m_set (x_var 0)) (x_max m_max x_int (x_var 1)))))
      (fun _ _ _ _ _ => (x_var 0))) (x_lst xa_nil))
        (xs_one (xs_ret x_bl))
        xs_nil)
      (xs_cons (xs_for PassesOwn.never rfl (xi_list (x_var 3)) (xg_name (i := 4) sc_law_right.nd rfl (Or.inl rfl))
        (xs_one (xs_expr (x_app (x_var 4) x_int))))
      (xs_one (xs_if (x_neT hr (x_comp (own := ["sorts"]) (cap := [("things", 0)]) (cscope rfl) (xi_list (x_var 3))
      (fun _ _ _ _ _ => (xg_name (i := 0) nd_law_right_3 rfl (Or.inl rfl))) (fun _ _ _ _ _ => (xif_one (x_neT hr (x_len m_len (x_var 0)) (x_plus (x_var 1) x_int))))
      (fun _ _ _ _ _ => (x_var 0))) (x_lst xa_nil))
        (xs_one (xs_ret x_bl))
        xs_nil)))))))))
    (xs_one (xs_ret x_bl)))
theorem sc_law_refused : FnScope ["things", "kinds", "found", "e"] ["things", "kinds"] (defScope (top 22)) := ⟨rfl, rfl, rfl, by decide +kernel, rfl, by decide +kernel, by decide +kernel⟩
noncomputable def ev_law_refused (f_law_due_flags : List D → M → Option (D × M)) (f_law_flags : List D → M → Option (D × M)) (f_all_sorts : FX) (cs_HalfError : List Addr) : SV :=
    (sSeq (sAsg (vL fLst lNil) (gvName 2))
    (sSeq (sTry cs_HalfError 3
      (sExprX (vLX f_all_sorts (upL (lCons (vVar 0) (lCons (vVar 1) lNil)))))
      (sAsg (vL f_law_flags (lCons (vVar 3) lNil)) (gvName 2)))
    (sRet (v2 fEq (vVar 2) (vL f_law_due_flags (lCons (vC (.int 2)) lNil))))))
noncomputable def mi_law_refused (f_law_due_flags : List D → M → Option (D × M)) (f_law_flags : List D → M → Option (D × M)) (f_all_sorts : FX) (cs_HalfError : List Addr) : List D → M → Option (D × M) := runF 4 2 (ev_law_refused f_law_due_flags f_law_flags f_all_sorts cs_HalfError)
theorem ok_law_refused {f_law_due_flags f_law_flags : List D → M → Option (D × M)} {f_all_sorts : FX} {k_law_due_flags k_law_flags k_all_sorts k : Nat} {T_HalfError : Addr} {cs_HalfError : List Addr} (F : Fun K "_law_refused" "_law_refused" (top 22) f fd) (D_law_due_flags : Df P w K mg base k_law_due_flags "_law_due_flags" ["at"] (spM K f_law_due_flags)) (h_law_due_flags : k_law_due_flags ≤ k) (D_law_flags : DfU P w K mg base k_law_flags "_law_flags" ["e"] (spM K f_law_flags)) (h_law_flags : k_law_flags ≤ k) (D_all_sorts : DfX P w K mg base k_all_sorts "all_sorts" ["many", "most"] (spX K f_all_sorts)) (h_all_sorts : k_all_sorts ≤ k) (t_HalfError : mg "HalfError" = some (.ref T_HalfError) ∧ ∀ C ∈ cs_HalfError, PySem.W.exmOne K (.ref C) (.ref T_HalfError) = some true) : FnOk P w K mg base CX0 (k + 1) f fd ["things", "kinds"] (spM K (mi_law_refused f_law_due_flags f_law_flags f_all_sorts cs_HalfError)) := by
  unfold mi_law_refused ev_law_refused
  exact fn_m F sc_law_refused fun cdv A outer s H E hr =>
    (xs_cons (xs_set (i := 2) sc_law_refused.nd rfl (Or.inl rfl) (x_lst xa_nil))
    (xs_cons (xs_try (i := 3) ⟨rfl, rfl⟩ sc_law_refused.nd rfl rfl t_HalfError.1 t_HalfError.2 (fun _ _ =>
      (ys_one (ys_expr (y_dfX D_all_sorts (hr.mono h_all_sorts) (ya_up (xa_cons (x_var 0) (xa_cons (x_var 1) xa_nil))))))) fun _ =>
      (xs_one (xs_set (i := 2) sc_law_refused.nd rfl (Or.inl rfl) (x_dfU D_law_flags (hr.mono h_law_flags).mkd (xa_cons (x_var 3) xa_nil)))))
    (xs_one (xs_ret (x_eq hr (x_var 2) (x_df D_law_due_flags (hr.mono h_law_due_flags) (xa_cons x_int xa_nil)))))))
theorem sc_law : FnScope ["script", "cell", "pot", "things", "far", "kinds", "bad"] ["script"] (defScope (top 23)) := ⟨rfl, rfl, rfl, by decide +kernel, rfl, by decide +kernel, by decide +kernel⟩
noncomputable def ev_law (f_law_pot : List D → M → Option (D × M)) (f_law_take : List D → M → Option (D × M)) (f_law_right : List D → M → Option (D × M)) (f_law_refused : List D → M → Option (D × M)) : SV :=
    (sSeq (sFor (ivL (v2 fPlus (vL fLst (lCons (vC (.int 0)) lNil)) (vSl (vVar 0) oNone (oSome (vC (.int 4)))))) (gvName 1)
      (sSeq (sAsg (vL f_law_pot (lCons (vVar 1) lNil)) (gvName 2))
      (sSeq (sAsg (vL f_law_take (lCons (vVar 2) (lCons (vC (.int 8)) lNil))) (gvName 3))
      (sSeq (sAsg (vL f_law_take (lCons (vVar 2) (lCons (v2 fIx (vL fLst (lCons (vC (.int 3)) (lCons (v2 fPow (vC (.int 10)) (vC (.int 20))) lNil))) (vL f_law_take (lCons (vVar 2) (lCons (vC (.int 2)) lNil)))) lNil))) (gvName 4))
      (sSeq (sAsg (v2 fIx (vL fLst (lCons (vL f_law_take (lCons (vVar 2) (lCons (vC (.int 10)) lNil))) (lCons (vVar 3) (lCons (vC (.int 2)) (lCons (v2 fSub (vC (.int 0)) (vVar 4)) (lCons (v2 fPlus (vC (.int 8)) (vVar 4)) lNil)))))) (vL f_law_take (lCons (vVar 2) (lCons (vC (.int 5)) lNil)))) (gvName 5))
      (sSeq (sIf (bOr (bNot (bTru (vL f_law_right (lCons (vVar 3) (lCons (vVar 5) lNil))))) (bNot (bTru (vL f_law_right (lCons (vL f_law_take (lCons (vVar 2) (lCons (vC (.int 6)) lNil))) (lCons (vC (.int 2)) lNil))))))
        (sRet (vC (.bl false)))
        sNx)
      (sFor (ivL (vL fLst (lCons (vC (.int 8)) (lCons (v2 fPlus (vC (.int 8)) (vVar 4)) (lCons (v1 fNeg (vC (.int 1))) (lCons (v2 fSub (v2 fSub (vC (.int 0)) (vC (.int 1))) (vVar 4)) lNil)))))) (gvName 6)
        (sIf (bNot (bTru (vL f_law_refused (lCons (vVar 6) (lCons (vVar 5) lNil)))))
          (sRet (vC (.bl false)))
          sNx))))))))
    (sRet (vC (.bl true))))
noncomputable def mi_law (f_law_pot : List D → M → Option (D × M)) (f_law_take : List D → M → Option (D × M)) (f_law_right : List D → M → Option (D × M)) (f_law_refused : List D → M → Option (D × M)) : List D → M → Option (D × M) := runF 7 1 (ev_law f_law_pot f_law_take f_law_right f_law_refused)
theorem ok_law {f_law_pot f_law_take f_law_right f_law_refused : List D → M → Option (D × M)} {k_law_pot k_law_take k_law_right k_law_refused k : Nat} (F : Fun K "law" "law" (top 23) f fd) (D_law_pot : Df P w K mg base k_law_pot "_law_pot" ["cell"] (spM K f_law_pot)) (h_law_pot : k_law_pot ≤ k) (D_law_take : Df P w K mg base k_law_take "_law_take" ["pot", "many"] (spM K f_law_take)) (h_law_take : k_law_take ≤ k) (D_law_right : Df P w K mg base k_law_right "_law_right" ["things", "kinds"] (spM K f_law_right)) (h_law_right : k_law_right ≤ k) (D_law_refused : Df P w K mg base k_law_refused "_law_refused" ["things", "kinds"] (spM K f_law_refused)) (h_law_refused : k_law_refused ≤ k) : FnOk P w K mg base CX0 (k + 1) f fd ["script"] (spM K (mi_law f_law_pot f_law_take f_law_right f_law_refused)) := by
  unfold mi_law ev_law
  exact fn_m F sc_law fun cdv A outer s H E hr =>
    (xs_cons (xs_for PassesOwn.never rfl (xi_list (x_plus (x_lst (xa_cons x_int xa_nil)) (x_sl (x_var 0) xo_none (xo_some x_int)))) (xg_name (i := 1) sc_law.nd rfl (Or.inl rfl))
      (xs_cons (xs_set (i := 2) sc_law.nd rfl (Or.inl rfl) (x_df D_law_pot (hr.mono h_law_pot) (xa_cons (x_var 1) xa_nil)))
      (xs_cons (xs_set (i := 3) sc_law.nd rfl (Or.inl rfl) (x_df D_law_take (hr.mono h_law_take) (xa_cons (x_var 2) (xa_cons x_int xa_nil))))
      (xs_cons (xs_set (i := 4) sc_law.nd rfl (Or.inl rfl) (x_df D_law_take (hr.mono h_law_take) (xa_cons (x_var 2) (xa_cons (x_ix (x_lst (xa_cons x_int (xa_cons (x_pow x_int x_int) xa_nil))) (x_df D_law_take (hr.mono h_law_take) (xa_cons (x_var 2) (xa_cons x_int xa_nil)))) xa_nil))))
      (xs_cons (xs_set (i := 5) sc_law.nd rfl (Or.inl rfl) (x_ix (x_lst (xa_cons (x_df D_law_take (hr.mono h_law_take) (xa_cons (x_var 2) (xa_cons x_int xa_nil))) (xa_cons (x_var 3) (xa_cons x_int (xa_cons (x_sub x_int (x_var 4)) (xa_cons (x_plus x_int (x_var 4)) xa_nil)))))) (x_df D_law_take (hr.mono h_law_take) (xa_cons (x_var 2) (xa_cons x_int xa_nil)))))
      (xs_cons (xs_if (PW.pt (xw_or (x_notT (x_truth (x_df D_law_right (hr.mono h_law_right) (xa_cons (x_var 3) (xa_cons (x_var 5) xa_nil))))) (xw_or1 (x_notT (x_truth (x_df D_law_right (hr.mono h_law_right) (xa_cons (x_df D_law_take (hr.mono h_law_take) (xa_cons (x_var 2) (xa_cons x_int xa_nil))) (xa_cons x_int xa_nil))))))))
        (xs_one (xs_ret x_bl))
        xs_nil)
      (xs_one (xs_for PassesOwn.never rfl (xi_list (x_lst (xa_cons x_int (xa_cons (x_plus x_int (x_var 4)) (xa_cons (x_neg x_int) (xa_cons (x_sub (x_sub x_int x_int) (x_var 4)) xa_nil)))))) (xg_name (i := 6) sc_law.nd rfl (Or.inl rfl))
        (xs_one (xs_if (x_notT (x_truth (x_df D_law_refused (hr.mono h_law_refused) (xa_cons (x_var 6) (xa_cons (x_var 5) xa_nil)))))
          (xs_one (xs_ret x_bl))
          xs_nil))))))))))
    (xs_one (xs_ret x_bl)))
end
end Law
set_option Elab.async false
set_option linter.all false
set_option maxRecDepth 100000
namespace Law
open PySem L2 L3 PyProof.Rows
theorem firstMet_congr {v v' : Nat → Int} {i : Nat} (h : ∀ j, j < i → v j = v' j) : firstMet v i = firstMet v' i := by
  unfold firstMet
  have : (List.range i).map v = (List.range i).map v' := List.map_congr_left fun j hj => h j (List.mem_range.mp hj)
  rw [this]
theorem distN_snoc (s : List Int) (x : Int) : distN (s ++ [x]) = if x ∈ s then distN s else distN s + 1 := by
  unfold distN
  rw [List.length_append, List.length_singleton, firstMet_succ, step_length]
  have e : firstMet (fun i => (s ++ [x]).getD i 0) s.length = firstMet (fun i => s.getD i 0) s.length := firstMet_congr fun j hj => by
    simp [List.getD_eq_getElem?_getD, List.getElem?_append_left hj]
  have ex : (s ++ [x]).getD s.length 0 = x := by simp [List.getD_eq_getElem?_getD]
  rw [e, ex, firstMet_any]
  have em : ((List.range s.length).map fun i => s.getD i 0) = s := by
    apply List.ext_getElem
    · simp
    · intro i h1 h2
      simp [List.getD_eq_getElem?_getD, List.getElem?_eq_getElem h2]
  rw [em]
  have eb : s.any (· == x) = decide (x ∈ s) := by
    rw [Bool.eq_iff_iff]; simp [List.any_eq_true]
  rw [eb]
  by_cases h : x ∈ s <;> simp [h]
def Sx : Nat → Nat → List (List Int × Nat)
  | 0, _ => [([], 0)]
  | n + 1, m => (Sx n m).flatMap fun p => (List.range (min (p.2 + 1) m)).map fun (i : Nat) => (p.1 ++ [(i : Int)], max p.2 (i + 1))
structure Gd (n m : Nat) (p : List Int × Nat) : Prop where
  len : p.1.length = n
  mem : ∀ x : Int, x ∈ p.1 ↔ 0 ≤ x ∧ x < p.2
  dist : distN p.1 = p.2
  le : p.2 ≤ m
  len2 : p.2 ≤ n
  rise : ∀ (k : Nat) (x : Int), p.1[k]? = some x → 0 ≤ x ∧ x ≤ distN (p.1.take k)
theorem Sx_good (m : Nat) : ∀ (n : Nat) (p : List Int × Nat), p ∈ Sx n m → Gd n m p
  | 0, p, h => by
    simp [Sx] at h
    subst h
    exact ⟨rfl, fun x => by simp, rfl, Nat.zero_le _, Nat.le_refl _, fun k x e => by simp at e⟩
  | n + 1, p, h => by
    simp only [Sx, List.mem_flatMap, List.mem_map, List.mem_range] at h
    obtain ⟨q, hq, i, hi, rfl⟩ := h
    have g := Sx_good m n q hq
    have him : i < m := by omega
    have hiu : i ≤ q.2 := by omega
    refine ⟨by simp [g.len], fun x => ?_, ?_, ?_, ?_, ?_⟩
    · simp only [List.mem_append, List.mem_singleton, g.mem]
      omega
    · show distN (q.1 ++ [(i : Int)]) = max q.2 (i + 1)
      rw [distN_snoc, g.dist]
      by_cases hm : (i : Int) ∈ q.1
      · rw [if_pos hm]
        have := (g.mem _).mp hm
        omega
      · rw [if_neg hm]
        have : ¬ (i : Int) < q.2 := fun z => hm ((g.mem _).mpr ⟨by omega, z⟩)
        omega
    · have := g.le
      show max q.2 (i + 1) ≤ m
      omega
    · have := g.len2
      show max q.2 (i + 1) ≤ n + 1
      omega
    · intro k x e
      have e : (q.1 ++ [(i : Int)])[k]? = some x := e
      show 0 ≤ x ∧ x ≤ distN ((q.1 ++ [(i : Int)]).take k)
      by_cases hk : k < q.1.length
      · rw [List.getElem?_append_left hk] at e
        rw [List.take_append_of_le_length (by omega)]
        exact g.rise k x e
      · rw [List.getElem?_append_right (by omega)] at e
        have hz : k = q.1.length := by
          have := (List.getElem?_eq_some_iff.mp e).1
          simp at this
          omega
        subst hz
        simp at e
        subst e
        rw [List.take_append_of_le_length (by omega), List.take_length, g.dist]
        omega
theorem Gd.used {n m : Nat} {p : List Int × Nat} (g : Gd n m p) : (mxL p.1).getD (-1) + 1 = (p.2 : Int) := by
  cases hn : mxL p.1 with
  | none =>
    have : p.1 = [] := by cases h : p.1 with
      | nil => rfl
      | cons a r => rw [h] at hn; cases hn
    have h0 : p.2 = 0 := by
      rcases Nat.eq_zero_or_pos p.2 with z | z
      · exact z
      · have := (g.mem 0).mpr ⟨by omega, by omega⟩
        rw [‹p.1 = []›] at this
        cases this
    simp [h0]
  | some M =>
    have hM := mxL_is hn
    have h1 := (g.mem M).mp hM.1
    have h2 := hM.2 ((p.2 : Int) - 1) ((g.mem _).mpr ⟨by omega, by omega⟩)
    simp only [Option.getD_some]
    omega
theorem lexGe_app : ∀ (a b u v : List Int), a.length = b.length → lexGe a b = false → lexGe (a ++ u) (b ++ v) = false
  | [], [], _, _, _, h => by cases h
  | [], _ :: _, _, _, h, _ => by cases h
  | _ :: _, [], _, _, h, _ => by cases h
  | x :: a, y :: b, u, v, hl, h => by
    simp only [List.cons_append, lexGe] at h ⊢
    split at h
    · rename_i e
      rw [if_pos e]
      exact lexGe_app a b u v (by simpa using hl) h
    · rename_i e
      rw [if_neg e]
      exact h
theorem lexGe_snoc : ∀ (a : List Int) (i j : Int), i < j → lexGe (a ++ [i]) (a ++ [j]) = false
  | [], i, j, h => by simp [lexGe]; omega
  | x :: a, i, j, h => by simp only [List.cons_append, lexGe, if_true]; exact lexGe_snoc a i j h
theorem Sx_rise (m : Nat) : ∀ n, (Sx n m).Pairwise fun p q => lexGe p.1 q.1 = false
  | 0 => by simp [Sx]
  | n + 1 => by
    rw [Sx, List.pairwise_flatMap]
    refine ⟨fun p hp => ?_, ?_⟩
    · rw [List.pairwise_map]
      refine List.Pairwise.imp ?_ List.pairwise_lt_range
      intro i j h
      exact lexGe_snoc _ _ _ (by omega)
    · refine (Sx_rise m n).imp_of_mem ?_
      intro p q hp hq h x hx y hy
      simp only [List.mem_map] at hx hy
      obtain ⟨i, _, rfl⟩ := hx
      obtain ⟨j, _, rfl⟩ := hy
      exact lexGe_app _ _ _ _ (by rw [(Sx_good m n p hp).len, (Sx_good m n q hq).len]) h
def strow : Nat → List Int
  | 0 => [1]
  | n + 1 => 0 :: (List.range (strow n).length).map fun (j : Nat) => ((j : Int) + 1) * (strow n ++ [0]).getD (j + 1) 0 + (strow n).getD j 0
theorem strow_len : ∀ n, (strow n).length = n + 1
  | 0 => rfl
  | n + 1 => by simp [strow, strow_len n]
theorem Sx_top (n : Nat) {m : Nat} (h : 8 ≤ m) : n ≤ 7 → Sx n m = Sx n 8 := by
  induction n with
  | zero => intro _; rfl
  | succ n ih =>
    intro hn
    rw [Sx, Sx, ih (by omega)]
    rw [List.flatMap_def, List.flatMap_def]
    congr 1
    apply List.map_congr_left
    intro p hp
    have := (Sx_good 8 n p hp).len2
    have e : min (p.2 + 1) m = min (p.2 + 1) 8 := by omega
    rw [e]
theorem Sx_many0 : ∀ n < 8, ∀ m < 9, ((Sx n m).length : Int) = ((strow n).take (m + 1)).sum := by decide +kernel
theorem Sx_many {n : Nat} (hn : n ≤ 7) (m : Nat) : ((Sx n m).length : Int) = ((strow n).take (m + 1)).sum := by
  by_cases h : m < 9
  · exact Sx_many0 n (by omega) m h
  · rw [Sx_top n (by omega) hn, Sx_many0 n (by omega) 8 (by omega), List.take_of_length_le (by rw [strow_len]; omega), List.take_of_length_le (by rw [strow_len]; omega)]
theorem Sx_few0 : ∀ n < 8, ∀ m < 9, (Sx n m).length ≤ 877 := by decide +kernel
theorem Sx_few {n : Nat} (hn : n ≤ 7) (m : Nat) : (Sx n m).length ≤ 877 := by
  by_cases h : m < 9
  · exact Sx_few0 n (by omega) m h
  · rw [Sx_top n (by omega) hn]; exact Sx_few0 n (by omega) 8 (by omega)
end Law
set_option Elab.async false
set_option linter.all false
set_option maxRecDepth 100000
set_option maxHeartbeats 0
namespace Law
open PySem L2 L3
abbrev Pr := Nat × (List Int × Nat)
def rfs (ps : List Pr) : List D := ps.map fun p => D.ref p.1
structure Nw (μ : M) (ps : List Pr) (μ' : M) : Prop where
  gr : Gr μ μ'
  at_ : ∀ p ∈ ps, μ'[p.1]? = some (some (.lst (p.2.1.map D.int)))
  lo : ∀ p ∈ ps, μ.length ≤ p.1
  inc : ps.Pairwise fun p q => p.1 < q.1
theorem Nw.nil {μ μ' : M} (h : Gr μ μ') : Nw μ [] μ' := ⟨h, fun _ h => by simp at h, fun _ h => by simp at h, .nil⟩
theorem Nw.app {μ μ1 μ2 : M} {ps qs : List Pr} (h : Nw μ ps μ1) (g : Nw μ1 qs μ2) : Nw μ (ps ++ qs) μ2 := by
  refine ⟨h.gr.trans g.gr, fun p hp => ?_, fun p hp => ?_, ?_⟩
  · rcases List.mem_append.mp hp with hp | hp
    · exact g.gr.get (h.at_ p hp)
    · exact g.at_ p hp
  · rcases List.mem_append.mp hp with hp | hp
    · exact h.lo p hp
    · exact Nat.le_trans h.gr.len (g.lo p hp)
  · rw [List.pairwise_append]
    refine ⟨h.inc, g.inc, fun p hp q hq => ?_⟩
    have := (List.getElem?_eq_some_iff.mp (h.at_ p hp)).1
    have := g.lo q hq
    omega
theorem Nw.one {μ : M} {s : List Int × Nat} : Nw μ [(μ.length, s)] (μ ++ [some (.lst (s.1.map D.int))]) :=
  ⟨gr_app, fun p hp => by simp at hp; subst hp; simp, fun p hp => by simp at hp; subst hp; exact Nat.le_refl _, by simp⟩
def ext (m : Nat) (p : List Int × Nat) : List (List Int × Nat) := (List.range (min (p.2 + 1) m)).map fun (i : Nat) => (p.1 ++ [(i : Int)], max p.2 (i + 1))
theorem comp_more {r : Nat} {s : List Int × Nat} (hl : s.1.length ≤ 1000) : ∀ (l : List Nat) (o : Option D) (μ : M), μ[r]? = some (some (.lst (s.1.map D.int))) →
    ∃ ps μ', compG none (gvName 0) bYes (v2 fCatM (vVar 1) (vL fLst (lCons (vVar 0) lNil))) (l.map fun k : Nat => D.int (k : Int)) [o, some (.ref r)] μ = some (rfs ps, μ') ∧ ps.map (·.2) = l.map (fun (i : Nat) => (s.1 ++ [(i : Int)], max s.2 (i + 1))) ∧ Nw μ ps μ'
  | [], o, μ, h => ⟨[], μ, rfl, rfl, .nil .refl⟩
  | k :: l, o, μ, h => by
    have n1 : Nw μ [(μ.length, (s.1 ++ [(k : Int)], max s.2 (k + 1)))] (μ ++ [some (.lst ((s.1 ++ [(k : Int)]).map D.int))]) := Nw.one (s := (s.1 ++ [(k : Int)], max s.2 (k + 1)))
    obtain ⟨ps, μ', e, e2, nw⟩ := comp_more hl l (some (.int (k : Int))) _ (n1.gr.get h)
    refine ⟨(μ.length, (s.1 ++ [(k : Int)], max s.2 (k + 1))) :: ps, μ', ?_, by simp [e2], n1.app nw⟩
    have ee : v2 fCatM (vVar 1) (vL fLst (lCons (vVar 0) lNil)) [some (.int (k : Int)), some (.ref r)] μ = some (.ref μ.length, μ ++ [some (.lst ((s.1 ++ [(k : Int)]).map D.int))]) := by
      rw [e_2 (x := .ref r) (μ1 := μ) (y := .lst [.int (k : Int)]) (μ2 := μ) rfl rfl]
      unfold fCatM
      rw [wlOf_ref h, bs]
      show (if (s.1.map D.int).length + 1 ≤ 1000000 then _ else _) = _
      rw [if_pos (by simp; omega)]
      simp
    have hg : gvName 0 (.int (k : Int)) [o, some (.ref r)] μ = some ([some (.int (k : Int)), some (.ref r)], μ) := rfl
    simp only [List.map_cons, compG, hg, bs]
    show (bYes _ _).bind _ = _
    simp only [bYes, bs, if_true, ee, chk_none, e]
    rfl
theorem run_more {μ : M} {r : Nat} {s : List Int × Nat} {k : Int} {n : Nat} (g : Gd n k.toNat s) (hn : n ≤ 7) (h : μ[r]? = some (some (.lst (s.1.map D.int)))) :
    ∃ ps μ', mi_one_thing_more [.ref r, .int k] μ = some (.lst (rfs ps), μ') ∧ ps.map (·.2) = ext k.toNat s ∧ Nw μ ps μ' := by
  have hl : s.1.length ≤ 1000 := by rw [g.len]; omega
  obtain ⟨ps, μ', e, e2, nw⟩ := comp_more hl (List.range (min (s.2 + 1) k.toNat)) none μ h
  refine ⟨ps, μ', ?_, e2, nw⟩
  have hu := g.used
  have h2 := g.len2
  have s1 : sAsg (v2 fPlus (v2 fMaxD (vVar 0) (v1 fNeg (vC (.int 1)))) (vC (.int 1))) (gvName 2) [some (.ref r), some (.int k), none] μ = some (.nx, [some (.ref r), some (.int k), some (.int (s.2 : Int))], μ) := by
    have e1 : v2 fMaxD (vVar 0) (v1 fNeg (vC (.int 1))) [some (.ref r), some (.int k), none] μ = some (.int ((mxL s.1).getD (-1)), μ) := by
      rw [e_2 (x := .ref r) (μ1 := μ) (y := .int (-1)) (μ2 := μ) rfl (by simp [fNeg])]
      simp only [fMaxD, lsOf_ref h, bs, all_ints]
    rw [sAsg_eq, e_2 (x := .int ((mxL s.1).getD (-1))) (μ1 := μ) (y := .int 1) (μ2 := μ) e1 rfl]
    simp only [fPlus, hu]
    rfl
  have s2 : v2 fMin (v2 fPlus (vVar 2) (vC (.int 1))) (vVar 1) [some (.ref r), some (.int k), some (.int (s.2 : Int))] μ = some (.int (min ((s.2 : Int) + 1) k), μ) := by
    rw [e_2 (x := .int ((s.2 : Int) + 1)) (μ1 := μ) (y := .int k) (μ2 := μ) (by simp [fPlus]) rfl]
    show some (D.int (if k < (s.2 : Int) + 1 then k else (s.2 : Int) + 1), μ) = _
    have e0 : (if k < (s.2 : Int) + 1 then k else (s.2 : Int) + 1) = min ((s.2 : Int) + 1) k := by
      simp only [Int.min_def]
      split <;> split <;> omega
    rw [e0]
  have s3 : vComp ["number"] [("sort", 0)] (ivRN (v2 fMin (v2 fPlus (vVar 2) (vC (.int 1))) (vVar 1))) (gvName 0) bYes (v2 fCatM (vVar 1) (vL fLst (lCons (vVar 0) lNil))) [some (.ref r), some (.int k), some (.int (s.2 : Int))] μ = some (.lst (rfs ps), μ') := by
    rw [vComp_eq, ivRN_s s2 (by have := Int.min_le_left ((s.2 : Int) + 1) k; omega), kComp_s]
    have hm : (min ((s.2 : Int) + 1) k).toNat = min (s.2 + 1) k.toNat := by simp only [Int.min_def, Nat.min_def]; split <;> split <;> omega
    have er : rngD 0 (min (s.2 + 1) k.toNat) = (List.range (min (s.2 + 1) k.toNat)).map fun j : Nat => D.int (j : Int) := by simp [rngD]
    have ec : capG (["number"] : List Str) [("sort", 0)] [some (.ref r), some (.int k), some (.int (s.2 : Int))] = [none, some (.ref r)] := rfl
    rw [hm, if_pos (by rw [rngD_len]; omega), er, ec, e]
    rfl
  unfold mi_one_thing_more ev_one_thing_more
  rw [runF_eq, if_pos (show [D.ref r, D.int k].length = 2 from rfl)]
  show kRun (sSeq _ _ [some (.ref r), some (.int k), none] μ) = _
  rw [sSeq_eq, s1, kSeq_nx, sRet_eq, s3]
  rfl
theorem inner_id {μ : M} {k : D} : ∀ (l : List Pr) (a o : Option D), ∃ o', innerG none (gvName 1) bYes (vVar 1) (rfs l) [a, o, some k] μ = some (rfs l, [a, o', some k], μ)
  | [], a, o => ⟨o, rfl⟩
  | p :: l, a, o => by
    obtain ⟨o', e⟩ := inner_id l a (some (.ref p.1))
    refine ⟨o', ?_⟩
    have hg : gvName 1 (.ref p.1) [a, o, some k] μ = some ([a, some (.ref p.1), some k], μ) := rfl
    have hv : vVar 1 [a, some (.ref p.1), some k] μ = some (.ref p.1, μ) := rfl
    simp only [rfs, List.map_cons, innerG, hg, bs]
    show (bYes _ _).bind _ = _
    simp only [bYes, bs, if_true, hv, chk_none]
    have e : innerG none (gvName 1) bYes (vVar 1) (l.map fun p => D.ref p.1) [a, some (.ref p.1), some k] μ = some (l.map fun p => D.ref p.1, [a, o', some k], μ) := e
    rw [e]
    rfl
theorem comp_all {n : Nat} {k : Int} (hn : n ≤ 7) : ∀ (ps : List Pr) (a o : Option D) (μ : M), (∀ p ∈ ps, Gd n k.toNat p.2) → (∀ p ∈ ps, μ[p.1]? = some (some (.lst (p.2.1.map D.int)))) →
    ∃ qs μ', compG2 none (gvName 0) bYes (ivL (vL mi_one_thing_more (lCons (vVar 0) (lCons (vVar 2) lNil)))) (gvName 1) bYes (vVar 1) (rfs ps) [a, o, some (.int k)] μ = some (rfs qs, μ') ∧ qs.map (·.2) = (ps.map (·.2)).flatMap (ext k.toNat) ∧ Nw μ qs μ'
  | [], a, o, μ, _, _ => ⟨[], μ, rfl, rfl, .nil .refl⟩
  | p :: ps, a, o, μ, hg, ha => by
    obtain ⟨qs1, μ1, e1, e2, n1⟩ := run_more (hg p (by simp)) hn (ha p (by simp))
    obtain ⟨o', e3⟩ := inner_id (μ := μ1) (k := .int k) qs1 (some (.ref p.1)) o
    obtain ⟨qs2, μ2, e4, e5, n2⟩ := comp_all hn ps (some (.ref p.1)) o' μ1 (fun q hq => hg q (by simp [hq])) (fun q hq => n1.gr.get (ha q (by simp [hq])))
    refine ⟨qs1 ++ qs2, μ2, ?_, by simp [e2, e5], n1.app n2⟩
    have h0 : gvName 0 (.ref p.1) [a, o, some (.int k)] μ = some ([some (.ref p.1), o, some (.int k)], μ) := rfl
    have hv : ivL (vL mi_one_thing_more (lCons (vVar 0) (lCons (vVar 2) lNil))) [some (.ref p.1), o, some (.int k)] μ = some ((rfs qs1, none), μ1) := by
      simp [e1, lsC]
    show compG2 none (gvName 0) bYes (ivL (vL mi_one_thing_more (lCons (vVar 0) (lCons (vVar 2) lNil)))) (gvName 1) bYes (vVar 1) (D.ref p.1 :: rfs ps) [a, o, some (.int k)] μ = _
    simp only [compG2, h0, bs]
    show (bYes _ _).bind _ = _
    simp only [bYes, bs, if_true, hv, chk_none]
    rw [e3]
    simp only [bs, chk_none]
    rw [e4]
    simp [rfs]
theorem Sx_succ (n m : Nat) : Sx (n + 1) m = (Sx n m).flatMap (ext m) := rfl
theorem run_all {μ : M} {n : Nat} {k : Int} {C : Addr} (hn : n ≤ 7) : ∃ ps μ', mi_all_sorts mi_one_thing_more (.int 7) C [.int (n : Int), .int k] μ = some (.ok (.lst (rfs ps)), μ') ∧ ps.map (·.2) = Sx n k.toNat ∧ Nw μ ps μ' := by
  have n0 : Nw μ [(μ.length, ([], 0))] (μ ++ [some (.lst [])]) := Nw.one (s := ([], 0))
  have main := forG_ix (c := none) (g := gvName 3) (body := (sAsg (vComp2 ["sort", "longer"] [("most", 1)] (ivL (vVar 2)) (gvName 0) bYes (ivL (vL mi_one_thing_more (lCons (vVar 0) (lCons (vVar 2) lNil)))) (gvName 1) bYes (vVar 1)) (gvName 2)))
    (fun i Γ μ' => ∃ (o : Option D) (ps : List Pr), Γ = [some (.int (n : Int)), some (.int k), some (.lst (rfs ps)), o] ∧ ps.map (·.2) = Sx i k.toNat ∧ Nw μ ps μ')
    (rngD 0 n) 0 [some (.int (n : Int)), some (.int k), some (.lst [.ref μ.length]), none] (μ ++ [some (.lst [])]) ⟨none, [(μ.length, ([], 0))], rfl, rfl, n0⟩ ?_
  · obtain ⟨Γ', μ', e, o, ps, rfl, h1, h2⟩ := main
    rw [rngD_len, Nat.zero_add] at h1
    refine ⟨ps, μ', runX_rt (Γ1 := [some (.int (n : Int)), some (.int k), some (.lst (rfs ps)), o]) rfl ?_, h1, h2⟩
    unfold ev_all_sorts
    show sSeqX _ _ [some (.int (n : Int)), some (.int k), none, none] μ = _
    have t : (bOr (vT (v2 fLt (vVar 0) (vC (.int 0)))) (vT (v2 fGt (vVar 0) (vC (.int 7))))) [some (.int (n : Int)), some (.int k), none, none] μ = some (false, μ) := by
      have a1 : ¬ ((n : Int) < 0) := by omega
      have a2 : ¬ ((7 : Int) < n) := by omega
      simp [fLt, fGt, fI0, a1, a2]
    rw [seqX_nx (Γ1 := [some (.int (n : Int)), some (.int k), none, none]) (μ1 := μ) ((ifX_f (upB_s t)).trans (upS_s (o := .nx) rfl))]
    refine upS_s (o := .rt _) ?_
    have s1 : sAsg (vL fLst (lCons (vL fNew lNil) lNil)) (gvName 2) [some (.int (n : Int)), some (.int k), none, none] μ = some (.nx, [some (.int (n : Int)), some (.int k), some (.lst [.ref μ.length]), none], μ ++ [some (.lst [])]) := rfl
    have hr : ivR (vVar 0) [some (.int (n : Int)), some (.int k), some (.lst [.ref μ.length]), none] (μ ++ [some (.lst [])]) = some ((rngD 0 n, none), μ ++ [some (.lst [])]) := by
      have hb : (-1000000000 : Int) ≤ (n : Int) ∧ (n : Int) ≤ 1000000000 := by omega
      simp [hb]
    rw [sSeq_eq, s1, kSeq_nx, sSeq_eq, sFor_eq, hr, kFor_s, e]
    rfl
  · rintro j d Γ μ1 hd ⟨o, ps, rfl, h1, h2⟩
    rw [Nat.zero_add] at h1
    obtain ⟨hjn, rfl⟩ := rng0_get hd
    have hg : ∀ p ∈ ps, Gd j k.toNat p.2 := fun p hp => Sx_good _ j p.2 (by rw [← h1]; exact List.mem_map_of_mem hp)
    obtain ⟨qs, μ2, e, e2, n2⟩ := comp_all (n := j) (k := k) (by omega) ps none none μ1 hg h2.at_
    have hl : (rfs qs).length ≤ 1000000 := by
      have : (rfs qs).length = (Sx (j + 1) k.toNat).length := by
        rw [Sx_succ, ← h1, ← e2]; simp [rfs]
      have := Sx_few (n := j + 1) (by omega) k.toNat
      omega
    refine ⟨[some (.int (n : Int)), some (.int k), some (.lst (rfs ps)), some (.int (j : Int))], μ1, [some (.int (n : Int)), some (.int k), some (.lst (rfs qs)), some (.int (j : Int))], μ2, rfl, ?_, trivial, some (.int (j : Int)), qs, rfl, by rw [Nat.zero_add, Sx_succ, ← h1, e2], (Nw.nil h2.gr).app n2⟩
    have hv : ivL (vVar 2) [some (.int (n : Int)), some (.int k), some (.lst (rfs ps)), some (.int (j : Int))] μ1 = some ((rfs ps, none), μ1) := rfl
    have hc : capG (["sort", "longer"] : List Str) [("most", 1)] [some (.int (n : Int)), some (.int k), some (.lst (rfs ps)), some (.int (j : Int))] = [none, none, some (.int k)] := rfl
    rw [sAsg_eq, vComp2_eq, hv, kComp2_s, hc, e, kLst2_s, if_pos hl]
    rfl
end Law
set_option Elab.async false
set_option linter.all false
set_option maxRecDepth 100000
set_option maxHeartbeats 0
namespace Law
open PySem L2 L3
theorem compG_pureC {c : Ck} {g : GV} {tc : BV} {te : EV} {α : Type} {dn : α → D} {keep : α → Bool} {val : α → D} (Pv : G → Prop) {μ : M} (hc : ckOf c μ) : ∀ (l : List α) (Γ : G), Pv Γ →
    (∀ x ∈ l, ∀ Γ, Pv Γ → ∃ Γ1, g (dn x) Γ μ = some (Γ1, μ) ∧ tc Γ1 μ = some (keep x, μ) ∧ (keep x = true → te Γ1 μ = some (val x, μ)) ∧ Pv Γ1) →
    compG c g tc te (l.map dn) Γ μ = some ((l.filter keep).map val, μ)
  | [], _, _, _ => rfl
  | x :: r, Γ, h, hs => by
    obtain ⟨Γ1, h1, h2, h3, h4⟩ := hs x (by simp) Γ h
    have ih := compG_pureC Pv hc r Γ1 h4 fun x hx => hs x (by simp [hx])
    simp only [List.map_cons, compG, h1, bs, h2]
    cases hk : keep x with
    | true => simp only [if_true, h3 hk, bs, chk_pos hc, ih, List.filter_cons_of_pos hk, List.map_cons]
    | false => simp only [Bool.false_eq_true, if_false, chk_pos hc, ih, List.filter_cons, hk]
section
variable {α : Type} {own : Str} {cap : List (Str × Nat)} {rest : G} {iv : IV} {tc : BV} {te : EV} {Γ : G} {μ : M} {c : Ck} {l : List α} {dn : α → D}
theorem comp_one {keep : α → Bool} {val : α → D} (hi : iv Γ μ = some ((l.map dn, c), μ)) (hl : l.length ≤ 1000000) (hc : ckOf c μ) (he : capG [own] cap Γ = none :: rest)
    (ht : ∀ x ∈ l, tc (some (dn x) :: rest) μ = some (keep x, μ)) (hv : ∀ x ∈ l, keep x = true → te (some (dn x) :: rest) μ = some (val x, μ)) : vComp [own] cap iv (gvName 0) tc te Γ μ = some (.lst ((l.filter keep).map val), μ) := by
  rw [vComp_eq, hi, kComp_s, if_pos (by simpa using hl), he]
  rw [compG_pureC (g := gvName 0) (tc := tc) (te := te) (keep := keep) (val := val) (fun Γ => ∃ o, Γ = o :: rest) hc l (none :: rest) ⟨none, rfl⟩ (by
    rintro x hx Γ ⟨o, rfl⟩
    exact ⟨some (dn x) :: rest, rfl, ht x hx, hv x hx, _, rfl⟩)]
  rfl
theorem comp_none (hi : iv Γ μ = some ((l.map dn, c), μ)) (hl : l.length ≤ 1000000) (hc : ckOf c μ) (he : capG [own] cap Γ = none :: rest)
    (ht : ∀ x ∈ l, tc (some (dn x) :: rest) μ = some (false, μ)) : vComp [own] cap iv (gvName 0) tc te Γ μ = some (.lst [], μ) := by
  rw [comp_one (keep := fun _ => false) (val := dn) hi hl hc he ht (fun _ _ z => by cases z)]
  simp
theorem ne_none (h : vComp [own] cap iv (gvName 0) tc te Γ μ = some (.lst [], μ)) : vT (v2 fNe (vComp [own] cap iv (gvName 0) tc te) (vL fLst lNil)) Γ μ = some (false, μ) := by
  rw [vT_eq, e_2 (x := .lst []) (μ1 := μ) (y := .lst []) (μ2 := μ) h rfl]
  rfl
theorem eq_none (h : vComp [own] cap iv (gvName 0) tc te Γ μ = some (.lst [], μ)) : v2 fEq (vComp [own] cap iv (gvName 0) tc te) (vL fLst lNil) Γ μ = some (.bl true, μ) := by
  rw [e_2 (x := .lst []) (μ1 := μ) (y := .lst []) (μ2 := μ) h rfl]
  rfl
end
theorem run_many {μ : M} {n : Nat} {k : Int} (hn : n ≤ 7) : mi_law_many [.int (n : Int), .int k] μ = some (.int ((strow n).take (k.toNat + 1)).sum, μ) := by
  have main := forG_ix (c := none) (g := gvName 3) (body := (sAsg (v2 fPlus (vL fLst (lCons (vC (.int 0)) lNil)) (vComp ["k"] [("row", 2)] (ivR2 (vC (.int 1)) (v2 fPlus (v1 fLen (vVar 2)) (vC (.int 1)))) (gvName 0) bYes (v2 fPlus (v2 fTimes (vVar 0) (v2 fIx (v2 fPlus (vVar 1) (vL fLst (lCons (vC (.int 0)) lNil))) (vVar 0))) (v2 fIx (vVar 1) (v2 fSub (vVar 0) (vC (.int 1))))))) (gvName 2)))
    (fun i Γ μ' => ∃ (o : Option D), Γ = [some (.int (n : Int)), some (.int k), some (.lst ((strow i).map D.int)), o] ∧ μ' = μ)
    (rngD 0 n) 0 [some (.int (n : Int)), some (.int k), some (.lst [.int 1]), none] μ ⟨none, rfl, rfl⟩ ?_
  · obtain ⟨Γ', μ', e, o, rfl, rfl⟩ := main
    rw [rngD_len, Nat.zero_add] at e
    have s1 : sAsg (vL fLst (lCons (vC (.int 1)) lNil)) (gvName 2) [some (.int (n : Int)), some (.int k), none, none] μ' = some (.nx, [some (.int (n : Int)), some (.int k), some (.lst [.int 1]), none], μ') := rfl
    have hr : ivR (vVar 0) [some (.int (n : Int)), some (.int k), some (.lst [.int 1]), none] μ' = some ((rngD 0 n, none), μ') := by
      have hb : (-1000000000 : Int) ≤ (n : Int) ∧ (n : Int) ≤ 1000000000 := by omega
      simp [hb]
    have s3 : vSl (vVar 2) oNone (oSome (v2 fPlus (v2 fMax (vC (.int 0)) (vVar 1)) (vC (.int 1)))) [some (.int (n : Int)), some (.int k), some (.lst ((strow n).map D.int)), o] μ' = some (.lst (((strow n).take (k.toNat + 1)).map D.int), μ') := by
      have e1 : v2 fPlus (v2 fMax (vC (.int 0)) (vVar 1)) (vC (.int 1)) [some (.int (n : Int)), some (.int k), some (.lst ((strow n).map D.int)), o] μ' = some (.int (((k.toNat + 1 : Nat)) : Int), μ') := by
        rw [e_2 (x := .int (k.toNat : Int)) (μ1 := μ') (y := .int 1) (μ2 := μ') (by
          rw [e_2 (x := .int 0) (μ1 := μ') (y := .int k) (μ2 := μ') rfl rfl]
          show some (D.int (if 0 < k then k else 0), μ') = _
          congr 3
          split <;> omega) rfl]
        simp [fPlus]
      unfold vSl
      show (vVar 2 _ μ').bind _ = _
      have hv : vVar 2 [some (.int (n : Int)), some (.int k), some (.lst ((strow n).map D.int)), o] μ' = some (.lst ((strow n).map D.int), μ') := rfl
      rw [hv, bs]
      show (oNone _ μ').bind _ = _
      have ho : oNone [some (.int (n : Int)), some (.int k), some (.lst ((strow n).map D.int)), o] μ' = some (none, μ') := rfl
      have ho2 : oSome (v2 fPlus (v2 fMax (vC (.int 0)) (vVar 1)) (vC (.int 1))) [some (.int (n : Int)), some (.int k), some (.lst ((strow n).map D.int)), o] μ' = some (some ((k.toNat + 1 : Nat) : Int), μ') := by
        unfold oSome; rw [e1]; rfl
      rw [ho, bs]
      show (oSome _ _ μ').bind _ = _
      rw [ho2, bs]
      show some (D.lst (cutD ((strow n).map D.int) none (some ((k.toNat + 1 : Nat) : Int))), μ') = _
      congr 3
      unfold cutD
      rw [HT.sIx_none, HT.sIx_nat, List.drop_zero, List.length_map, strow_len, Nat.sub_zero, ← List.map_take]
      congr 1
      by_cases hm : k.toNat + 1 ≤ n + 1
      · rw [Nat.min_eq_left hm]
      · rw [Nat.min_eq_right (by omega), List.take_of_length_le (by rw [strow_len]; omega), List.take_of_length_le (by rw [strow_len]; omega)]
    unfold mi_law_many ev_law_many
    rw [runF_eq, if_pos (show [D.int (n : Int), D.int k].length = 2 from rfl)]
    show kRun (sSeq _ _ [some (.int (n : Int)), some (.int k), none, none] μ') = _
    rw [sSeq_eq, s1, kSeq_nx, sSeq_eq, sFor_eq, hr, kFor_s, e, kSeq_nx, sRet_eq, e_1 s3]
    simp only [fSum, lsOf, bs, all_ints]
    rfl
  · rintro j d Γ μ1 hd ⟨o, rfl, rfl⟩
    obtain ⟨hjn, rfl⟩ := rng0_get hd
    rw [Nat.zero_add]
    refine ⟨[some (.int (n : Int)), some (.int k), some (.lst ((strow j).map D.int)), some (.int (j : Int))], μ1, [some (.int (n : Int)), some (.int k), some (.lst ((strow (j + 1)).map D.int)), some (.int (j : Int))], μ1, rfl, ?_, trivial, _, rfl, rfl⟩
    have hlen := strow_len j
    have hc : vComp ["k"] [("row", 2)] (ivR2 (vC (.int 1)) (v2 fPlus (v1 fLen (vVar 2)) (vC (.int 1)))) (gvName 0) bYes (v2 fPlus (v2 fTimes (vVar 0) (v2 fIx (v2 fPlus (vVar 1) (vL fLst (lCons (vC (.int 0)) lNil))) (vVar 0))) (v2 fIx (vVar 1) (v2 fSub (vVar 0) (vC (.int 1))))) [some (.int (n : Int)), some (.int k), some (.lst ((strow j).map D.int)), some (.int (j : Int))] μ1 = some (.lst (((List.range (strow j).length).filter fun _ => true).map fun i : Nat => D.int (((i : Int) + 1) * (strow j ++ [0]).getD (i + 1) 0 + (strow j).getD i 0)), μ1) := by
      refine comp_one (l := List.range (strow j).length) (dn := fun i : Nat => D.int (1 + (i : Int))) (c := none) (rest := [some (.lst ((strow j).map D.int))]) ?_ (by simp; omega) trivial rfl (fun _ _ => rfl) ?_
      · have e1 : v2 fPlus (v1 fLen (vVar 2)) (vC (.int 1)) [some (.int (n : Int)), some (.int k), some (.lst ((strow j).map D.int)), some (.int (j : Int))] μ1 = some (.int ((strow j).length + 1 : Int), μ1) := by
          simp [fPlus, fLen, lsOf]
        rw [ivR2_eq]
        show kIR2 _ _ (some (.int 1, μ1)) = _
        rw [kIR2_s, e1, kIR2b_s, if_pos (by omega)]
        have : ((strow j).length + 1 - 1 : Int).toNat = (strow j).length := by omega
        rw [this]
        rfl
      · intro i hi _
        have hi : i < (strow j).length := by simpa using hi
        have a1 : v2 fIx (v2 fPlus (vVar 1) (vL fLst (lCons (vC (.int 0)) lNil))) (vVar 0) [some (.int (1 + (i : Int))), some (.lst ((strow j).map D.int))] μ1 = some (.int ((strow j ++ [0]).getD (i + 1) 0), μ1) := by
          rw [e_2 (x := .lst ((strow j ++ [0]).map D.int)) (μ1 := μ1) (y := .int (1 + (i : Int))) (μ2 := μ1) (by
            rw [e_2 (x := .lst ((strow j).map D.int)) (μ1 := μ1) (y := .lst [.int 0]) (μ2 := μ1) rfl rfl]
            show fCat _ _ μ1 = _
            unfold fCat
            simp only [wlOf, bs]
            rw [if_pos (by simp; omega)]
            simp) rfl]
          have e1 : (1 + (i : Int)) = ((i + 1 : Nat) : Int) := by omega
          rw [e1]
          simp only [fIx, lsOf]
          rw [atI_n (j := i + 1) (v := .int ((strow j ++ [0]).getD (i + 1) 0)) (by
            rw [List.getElem?_map, List.getD_eq_getElem?_getD]
            have : i + 1 < (strow j ++ [0]).length := by simp; omega
            simp [List.getElem?_eq_getElem this])]
          rfl
        have a2 : v2 fIx (vVar 1) (v2 fSub (vVar 0) (vC (.int 1))) [some (.int (1 + (i : Int))), some (.lst ((strow j).map D.int))] μ1 = some (.int ((strow j).getD i 0), μ1) := by
          rw [e_2 (x := .lst ((strow j).map D.int)) (μ1 := μ1) (y := .int (i : Int)) (μ2 := μ1) rfl (by simp [fSub, fI0]; omega)]
          simp only [fIx, lsOf]
          rw [atI_n (j := i) (v := .int ((strow j).getD i 0)) (by
            rw [List.getElem?_map, List.getD_eq_getElem?_getD]
            simp [List.getElem?_eq_getElem hi])]
          rfl
        have m1 : CMul (1 + (i : Int)) ((strow j ++ [0]).getD (i + 1) 0) := .inl ⟨by omega, by omega⟩
        rw [e_2 (x := .int ((1 + (i : Int)) * (strow j ++ [0]).getD (i + 1) 0)) (μ1 := μ1) (y := .int ((strow j).getD i 0)) (μ2 := μ1) (by
          rw [e_2 (x := .int (1 + (i : Int))) (μ1 := μ1) (y := .int ((strow j ++ [0]).getD (i + 1) 0)) (μ2 := μ1) rfl a1]
          simp only [fTimes, if_pos m1]) a2]
        simp only [fPlus]
        rw [Int.add_comm 1 (i : Int)]
    rw [sAsg_eq, e_2 (x := .lst [.int 0]) (μ1 := μ1) rfl hc]
    show kAs _ _ (fCat _ _ μ1) = _
    unfold fCat
    simp only [wlOf, bs]
    rw [if_pos (by simp; have := List.length_filter_le (fun _ : Nat => true) (List.range (strow j).length); simp at this; omega)]
    have ef : (List.range (strow j).length).filter (fun _ => true) = List.range (strow j).length := List.filter_eq_self.mpr (by simp)
    rw [ef]
    have es : [D.int 0] ++ (List.range (strow j).length).map (fun i : Nat => D.int (((i : Int) + 1) * (strow j ++ [0]).getD (i + 1) 0 + (strow j).getD i 0)) = (strow (j + 1)).map D.int := by
      rw [strow]; simp
    rw [es]
    rfl
end Law
set_option Elab.async false
set_option linter.all false
set_option maxRecDepth 100000
set_option maxHeartbeats 0
namespace Law
open PySem L2 L3
theorem ty_ref {μ : M} {r : Nat} {ds : List D} (h : μ[r]? = some (some (.lst ds))) : fIsi "list" (.ref r) μ = some (.bl true, μ) := by
  simp only [fIsi, tyD, h, bs]; rfl
theorem set_ref {μ : M} {r : Nat} {ns : List Int} (h : μ[r]? = some (some (.lst (ns.map D.int)))) (hl : ns.length ≤ 4000) : fLenSet (.ref r) μ = some (.int (distN ns : Int), μ) := by
  unfold fLenSet
  rw [lsOf_ref h, bs, all_ints, bs, if_pos hl]
theorem set_lst {μ : M} {ns : List Int} (hl : ns.length ≤ 4000) : fLenSet (.lst (ns.map D.int)) μ = some (.int (distN ns : Int), μ) := by
  unfold fLenSet
  simp only [lsOf]
  rw [bs, all_ints, bs, if_pos hl]
theorem e_ch {f g : D → D → M → Option (D × M)} {ea eb ec : EV} {Γ : G} {μ μ1 μ2 μ3 μ4 : M} {x y z : D} (h1 : ea Γ μ = some (x, μ1)) (h2 : eb Γ μ1 = some (y, μ2)) (h3 : f x y μ2 = some (.bl true, μ3)) (h4 : ec Γ μ3 = some (z, μ4)) : vChain f g ea eb ec Γ μ = g y z μ4 := by
  unfold vChain
  rw [h1, bs, h2, bs, h3, bs]
  show (ec Γ μ3).bind _ = _
  rw [h4, bs]
theorem run_is {μ : M} {r n m : Nat} {s : List Int × Nat} (g : Gd n m s) (hn : n ≤ 7) (h : μ[r]? = some (some (.lst (s.1.map D.int)))) : mi_law_is_sorts [.ref r] μ = some (.bl true, μ) := by
  have hlen := g.len
  have hi : ivL (vVar 0) [some (.ref r)] μ = some ((s.1.map D.int, some (r, s.1.map D.int)), μ) := by
    simp [lsC_ref h]
  have hc : ckOf (some (r, s.1.map D.int)) μ := h
  have c1 : vComp ["kind"] [] (ivL (vVar 0)) (gvName 0) (bNot (bTru (v1 (fIsi "int") (vVar 0)))) (vVar 0) [some (.ref r)] μ = some (.lst [], μ) :=
    comp_none hi (by omega) hc (rest := []) rfl (fun x _ => rfl)
  have c2 : vComp ["kind"] [] (ivL (vVar 0)) (gvName 0) (bTru (v1 (fIsi "bool") (vVar 0))) (vVar 0) [some (.ref r)] μ = some (.lst [], μ) :=
    comp_none hi (by omega) hc (rest := []) rfl (fun x _ => rfl)
  have c3 : vComp ["k"] [("sorts", 0)] (ivR (v1 fLen (vVar 0))) (gvName 0) (bNot (vT (vChain fLe fLe (vC (.int 0)) (v2 fIx (vVar 1) (vVar 0)) (v1 fLenSet (vSl (vVar 1) oNone (oSome (vVar 0))))))) (vVar 0) [some (.ref r)] μ = some (.lst [], μ) := by
    refine comp_none (l := List.range s.1.length) (dn := fun k : Nat => D.int (k : Int)) (c := none) ?_ (by simp; omega) trivial (rest := [some (.ref r)]) rfl ?_
    · have hb : (-1000000000 : Int) ≤ (s.1.length : Int) ∧ (s.1.length : Int) ≤ 1000000000 := by omega
      simp [fLen_ref h, hb, rngD]
    · intro k hk
      have hk : k < s.1.length := by simpa using hk
      obtain ⟨r1, r2⟩ := g.rise k s.1[k] (by simp [hk])
      have a1 : v2 fIx (vVar 1) (vVar 0) [some (.int (k : Int)), some (.ref r)] μ = some (.int s.1[k], μ) := by
        rw [e_2 (x := .ref r) (μ1 := μ) (y := .int (k : Int)) (μ2 := μ) rfl rfl, fIx_ref h, atI_n (j := k) (v := .int s.1[k]) (by simp [hk])]
        rfl
      have a2 : vSl (vVar 1) oNone (oSome (vVar 0)) [some (.int (k : Int)), some (.ref r)] μ = some (.lst ((s.1.take k).map D.int), μ) := by
        show fSl (.ref r) none (some (k : Int)) μ = _
        simp only [fSl, lsOf_ref h]
        congr 3
        unfold cutD
        rw [HT.sIx_none, HT.sIx_nat, List.drop_zero, List.length_map, Nat.sub_zero, ← List.map_take, Nat.min_eq_left (by omega)]
      have a3 : v1 fLenSet (vSl (vVar 1) oNone (oSome (vVar 0))) [some (.int (k : Int)), some (.ref r)] μ = some (.int (distN (s.1.take k) : Int), μ) := by
        rw [e_1 a2, set_lst (by simp; omega)]
      have a4 : vChain fLe fLe (vC (.int 0)) (v2 fIx (vVar 1) (vVar 0)) (v1 fLenSet (vSl (vVar 1) oNone (oSome (vVar 0)))) [some (.int (k : Int)), some (.ref r)] μ = some (.bl true, μ) := by
        rw [e_ch (x := .int 0) (μ1 := μ) (y := .int s.1[k]) (μ2 := μ) (μ3 := μ) (z := .int (distN (s.1.take k) : Int)) (μ4 := μ) rfl a1 (by simp [fLe, fI0, r1]) a3]
        simp [fLe, fI0, r2]
      rw [bNot_eq, vT_eq, a4]
      rfl
  have e1 := ne_none c1
  have e2 := ne_none c2
  have e3 := eq_none c3
  have t1 : v1 (fIsi "list") (vVar 0) [some (.ref r)] μ = some (.bl true, μ) := by rw [e_1 (x := .ref r) (μ1 := μ) rfl, ty_ref h]
  unfold mi_law_is_sorts ev_law_is_sorts
  rw [runF_eq, if_pos (show [D.ref r].length = 1 from rfl)]
  show kRun (sSeq _ _ [some (.ref r)] μ) = _
  have b1 : (bOr (bNot (bTru (v1 (fIsi "list") (vVar 0)))) (vT (v2 fNe (vComp ["kind"] [] (ivL (vVar 0)) (gvName 0) (bNot (bTru (v1 (fIsi "int") (vVar 0)))) (vVar 0)) (vL fLst lNil)))) [some (.ref r)] μ = some (false, μ) := by
    rw [bOr_eq, bNot_eq, bTru_eq, t1]
    exact e1
  rw [sSeq_eq, sIf_eq, b1]
  show kRun (kSeq _ (some (.nx, [some (.ref r)], μ))) = _
  rw [kSeq_nx, sSeq_eq, sIf_eq, e2]
  show kRun (kSeq _ (some (.nx, [some (.ref r)], μ))) = _
  rw [kSeq_nx, sRet_eq, e3]
  rfl
theorem app_loop {G0 : G} {x : D} : ∀ (ps : List Pr) (o : Option D) (μ : M), (∀ p ∈ ps, μ[p.1]? = some (some (.lst (p.2.1.map D.int)))) → (∀ p ∈ ps, p.2.1.length ≤ 1000) → ps.Pairwise (fun p q => p.1 < q.1) → (∀ o, (G0 ++ [o])[4]? = some o) → G0.length = 4 →
    ∃ o' μ', forG none (gvName 4) (sExpr (v2l fApp (vVar 4) (vC x))) (rfs ps) (G0 ++ [o]) μ = some (.nx, G0 ++ [o'], μ') ∧ (∀ p ∈ ps, μ'[p.1]? = some (some (.lst (p.2.1.map D.int ++ [x])))) ∧ (∀ j, (∀ p ∈ ps, p.1 ≠ j) → μ'[j]? = μ[j]?) ∧ μ'.length = μ.length
  | [], o, μ, _, _, _, _, _ => ⟨o, μ, rfl, fun _ h => by simp at h, fun _ _ => rfl, rfl⟩
  | p :: ps, o, μ, ha, hl, hp, h4, hg => by
    have h0 := ha p (by simp)
    rw [List.pairwise_cons] at hp
    have ef : v2l fApp (vVar 4) (vC x) (G0 ++ [some (.ref p.1)]) μ = some (.non, μ.set p.1 (some (.lst (p.2.1.map D.int ++ [x])))) := by
      have hv : vVar 4 (G0 ++ [some (.ref p.1)]) μ = some (.ref p.1, μ) := e_var (h4 _)
      unfold v2l
      rw [hv, bs]
      show (lsOf μ (.ref p.1)).bind _ = _
      rw [lsOf_ref h0, bs]
      show fApp (.ref p.1) x μ = _
      have := hl p (by simp)
      simp only [fApp, onL_ref h0, if_pos (show (p.2.1.map D.int).length < 1000000 by simp; omega), kOn_s]
    obtain ⟨o', μ', e, h1, h2, h3⟩ := app_loop (G0 := G0) (x := x) ps (some (.ref p.1)) (μ.set p.1 (some (.lst (p.2.1.map D.int ++ [x])))) (fun q hq => by
      rw [set_get_ne (by have := hp.1 q hq; omega)]; exact ha q (by simp [hq])) (fun q hq => hl q (by simp [hq])) hp.2 h4 hg
    refine ⟨o', μ', ?_, fun q hq => ?_, fun j hj => ?_, by rw [h3, List.length_set]⟩
    · have hn : gvName 4 (.ref p.1) (G0 ++ [o]) μ = some (G0 ++ [some (.ref p.1)], μ) := by
        show some ((G0 ++ [o]).set 4 (some (.ref p.1)), μ) = _
        rw [List.set_append_right _ _ (by omega), hg]
        rfl
      show forG none (gvName 4) (sExpr (v2l fApp (vVar 4) (vC x))) (D.ref p.1 :: rfs ps) (G0 ++ [o]) μ = _
      have hb : sExpr (v2l fApp (vVar 4) (vC x)) (G0 ++ [some (.ref p.1)]) μ = some (.nx, G0 ++ [some (.ref p.1)], μ.set p.1 (some (.lst (p.2.1.map D.int ++ [x])))) := by
        rw [sExpr_eq, ef]; rfl
      simp only [forG, hn, bs, hb, chk_none]
      exact e
    · rcases List.mem_cons.mp hq with rfl | hq
      · rw [h2 _ (fun z hz => by have := hp.1 z hz; omega)]
        exact set_get h0
      · exact h1 q hq
    · rw [h2 j (fun q hq => hj q (by simp [hq])), set_get_ne (fun z => hj p (by simp) z.symm)]
end Law
set_option Elab.async false
set_option linter.all false
set_option maxRecDepth 100000
set_option maxHeartbeats 0
namespace Law
open PySem L2 L3
noncomputable abbrev miAll (C : Addr) : FX := mi_all_sorts mi_one_thing_more (.int 7) C
theorem dn_ok {f : FX} {ds : List D} {d : D} {μ μ' : M} (h : f ds μ = some (.ok d, μ')) : dn f ds μ = some (d, μ') := by simp [dn, h]
theorem if_no {b : BV} {s t : SV} {Γ : G} {μ : M} (h : b Γ μ = some (false, μ)) : sIf b s t Γ μ = t Γ μ := by rw [sIf_eq, h]; rfl
noncomputable abbrev rBody (C : Addr) : SV := (sSeq (sAsg (vL (dn (miAll C)) (lCons (vVar 0) (lCons (vVar 1) lNil))) (gvName 3))
      (sSeq (sIf (bOr (bNot (bTru (v1 (fIsi "list") (vVar 3)))) (vT (v2 fNe (v1 fLen (vVar 3)) (vL mi_law_many (lCons (vVar 0) (lCons (vVar 1) lNil))))))
        (sRet (vC (.bl false)))
        sNx)
      (sSeq (sIf (vT (v2 fNe (vComp ["sorts"] [("things", 0)] (ivL (vVar 3)) (gvName 0) (bOr (vT (v2 fNe (v1 fLen (vVar 0)) (vVar 1))) (bNot (bTru (vL mi_law_is_sorts (lCons (vVar 0) lNil))))) (vVar 0)) (vL fLst lNil)))
        (sRet (vC (.bl false)))
        sNx)
      (sSeq (sIf (vT (v2 fNe (vComp ["k"] [("told", 3)] (ivR2 (vC (.int 1)) (v1 fLen (vVar 3))) (gvName 0) (vT (v2 fGeL (v2 fIx (vVar 1) (v2 fSub (vVar 0) (vC (.int 1)))) (v2 fIx (vVar 1) (vVar 0)))) (vVar 0)) (vL fLst lNil)))
        (sRet (vC (.bl false)))
        sNx)
      (sSeq (sIf (vT (v2 fNe (vComp ["sorts"] [("kinds", 1)] (ivL (vVar 3)) (gvName 0) (vT (v2 fGt (v1 fLenSet (vVar 0)) (v2 fMax (vC (.int 0)) (vVar 1)))) (vVar 0)) (vL fLst lNil)))
        (sRet (vC (.bl false)))
        sNx)
      (sSeq (sFor (ivL (vVar 3)) (gvName 4)
        (sExpr (v2l fApp (vVar 4) (vC (.int 0)))))
      (sIf (vT (v2 fNe (vComp ["sorts"] [("things", 0)] (ivL (vVar 3)) (gvName 0) (vT (v2 fNe (v1 fLen (vVar 0)) (v2 fPlus (vVar 1) (vC (.int 1))))) (vVar 0)) (vL fLst lNil)))
        (sRet (vC (.bl false)))
        sNx)))))))
theorem run_rBody {C : Addr} {n : Nat} {k : Int} {i : D} {o3 o4 : Option D} {μ : M} (hn : n ≤ 7) :
    ∃ o3' o4' μ', rBody C [some (.int (n : Int)), some (.int k), some i, o3, o4] μ = some (.nx, [some (.int (n : Int)), some (.int k), some i, o3', o4'], μ') ∧ Gr μ μ' := by
  obtain ⟨ps, μ1, e1, hS, nw⟩ := run_all (μ := μ) (k := k) (C := C) hn
  have hg : ∀ p ∈ ps, Gd n k.toNat p.2 := fun p hp => Sx_good _ n p.2 (by rw [← hS]; exact List.mem_map_of_mem hp)
  have hlen : ps.length = (Sx n k.toNat).length := by rw [← hS]; simp
  have hfew := Sx_few hn k.toNat
  have e1 := dn_ok e1
  have s1 : sAsg (vL (dn (miAll C)) (lCons (vVar 0) (lCons (vVar 1) lNil))) (gvName 3) [some (.int (n : Int)), some (.int k), some i, o3, o4] μ = some (.nx, [some (.int (n : Int)), some (.int k), some i, some (.lst (rfs ps)), o4], μ1) := by
    simp [e1]
  have hi : ivL (vVar 3) [some (.int (n : Int)), some (.int k), some i, some (.lst (rfs ps)), o4] μ1 = some ((ps.map fun p => D.ref p.1, none), μ1) := rfl
  have b2 : (bOr (bNot (bTru (v1 (fIsi "list") (vVar 3)))) (vT (v2 fNe (v1 fLen (vVar 3)) (vL mi_law_many (lCons (vVar 0) (lCons (vVar 1) lNil)))))) [some (.int (n : Int)), some (.int k), some i, some (.lst (rfs ps)), o4] μ1 = some (false, μ1) := by
    have hm := run_many (μ := μ1) (k := k) hn
    rw [← Sx_many hn, ← hlen] at hm
    have hl : v1 fLen (vVar 3) [some (.int (n : Int)), some (.int k), some i, some (.lst (rfs ps)), o4] μ1 = some (.int (ps.length : Int), μ1) := by simp [fLen, lsOf, rfs]
    have hv : vL mi_law_many (lCons (vVar 0) (lCons (vVar 1) lNil)) [some (.int (n : Int)), some (.int k), some i, some (.lst (rfs ps)), o4] μ1 = some (.int (ps.length : Int), μ1) := by simp [hm]
    have ht : vT (v2 fNe (v1 fLen (vVar 3)) (vL mi_law_many (lCons (vVar 0) (lCons (vVar 1) lNil)))) [some (.int (n : Int)), some (.int k), some i, some (.lst (rfs ps)), o4] μ1 = some (false, μ1) := by
      rw [vT_eq, e_2 hl hv]
      simp [fNe, eqD]
    rw [bOr_eq]
    exact ht
  have c3 : vComp ["sorts"] [("things", 0)] (ivL (vVar 3)) (gvName 0) (bOr (vT (v2 fNe (v1 fLen (vVar 0)) (vVar 1))) (bNot (bTru (vL mi_law_is_sorts (lCons (vVar 0) lNil))))) (vVar 0) [some (.int (n : Int)), some (.int k), some i, some (.lst (rfs ps)), o4] μ1 = some (.lst [], μ1) := by
    refine comp_none hi (by omega) trivial (rest := [some (.int (n : Int))]) rfl fun p hp => ?_
    have h0 := nw.at_ p hp
    have g := hg p hp
    have hl : v1 fLen (vVar 0) [some (.ref p.1), some (.int (n : Int))] μ1 = some (.int (n : Int), μ1) := by
      rw [e_1 (x := .ref p.1) (μ1 := μ1) rfl, fLen_ref h0]; simp [g.len]
    have ht : vT (v2 fNe (v1 fLen (vVar 0)) (vVar 1)) [some (.ref p.1), some (.int (n : Int))] μ1 = some (false, μ1) := by
      rw [vT_eq, e_2 (y := .int (n : Int)) (μ2 := μ1) hl rfl]
      simp [fNe, eqD]
    have hq : bNot (bTru (vL mi_law_is_sorts (lCons (vVar 0) lNil))) [some (.ref p.1), some (.int (n : Int))] μ1 = some (false, μ1) := by
      have : vL mi_law_is_sorts (lCons (vVar 0) lNil) [some (.ref p.1), some (.int (n : Int))] μ1 = some (.bl true, μ1) := by
        simp [run_is g hn h0]
      rw [bNot_eq, bTru_eq, this]
      rfl
    rw [bOr_eq, ht]
    exact hq
  have c4 : vComp ["k"] [("told", 3)] (ivR2 (vC (.int 1)) (v1 fLen (vVar 3))) (gvName 0) (vT (v2 fGeL (v2 fIx (vVar 1) (v2 fSub (vVar 0) (vC (.int 1)))) (v2 fIx (vVar 1) (vVar 0)))) (vVar 0) [some (.int (n : Int)), some (.int k), some i, some (.lst (rfs ps)), o4] μ1 = some (.lst [], μ1) := by
    refine comp_none (l := List.range (ps.length - 1)) (dn := fun j : Nat => D.int (1 + (j : Int))) (c := none) ?_ (by simp; omega) trivial (rest := [some (.lst (rfs ps))]) rfl ?_
    · have hl : v1 fLen (vVar 3) [some (.int (n : Int)), some (.int k), some i, some (.lst (rfs ps)), o4] μ1 = some (.int (ps.length : Int), μ1) := by simp [fLen, lsOf, rfs]
      rw [ivR2_eq]
      show kIR2 _ _ (some (.int 1, μ1)) = _
      rw [kIR2_s, hl, kIR2b_s, if_pos (by omega)]
      have : ((ps.length : Int) - 1).toNat = ps.length - 1 := by omega
      rw [this]
      rfl
    · intro j hj
      have hj : j < ps.length - 1 := by simpa using hj
      have a1 : v2 fIx (vVar 1) (v2 fSub (vVar 0) (vC (.int 1))) [some (.int (1 + (j : Int))), some (.lst (rfs ps))] μ1 = some (.ref (ps[j]'(by omega)).1, μ1) := by
        rw [e_2 (x := .lst (rfs ps)) (μ1 := μ1) (y := .int (j : Int)) (μ2 := μ1) rfl (by simp [fSub, fI0]; omega)]
        simp only [fIx, lsOf]
        rw [atI_n (j := j) (v := .ref (ps[j]'(by omega)).1) (by simp [rfs, List.getElem?_eq_getElem (show j < ps.length by omega)])]
        rfl
      have a2 : v2 fIx (vVar 1) (vVar 0) [some (.int (1 + (j : Int))), some (.lst (rfs ps))] μ1 = some (.ref (ps[j + 1]'(by omega)).1, μ1) := by
        have e1 : (1 + (j : Int)) = ((j + 1 : Nat) : Int) := by omega
        rw [e1, e_2 (x := .lst (rfs ps)) (μ1 := μ1) (y := .int ((j + 1 : Nat) : Int)) (μ2 := μ1) rfl rfl]
        simp only [fIx, lsOf]
        rw [atI_n (j := j + 1) (v := .ref (ps[j + 1]'(by omega)).1) (by simp [rfs, List.getElem?_eq_getElem (show j + 1 < ps.length by omega)])]
        rfl
      have hr : lexGe (ps[j]'(by omega)).2.1 (ps[j + 1]'(by omega)).2.1 = false := by
        have hp : ps.Pairwise fun p q => lexGe p.2.1 q.2.1 = false := by
          have := Sx_rise k.toNat n
          rw [← hS, List.pairwise_map] at this
          exact this
        exact List.pairwise_iff_getElem.mp hp j (j + 1) (by omega) (by omega) (by omega)
      rw [vT_eq, e_2 a1 a2]
      unfold fGeL
      rw [lsOf_ref (nw.at_ _ (List.getElem_mem _)), bs, lsOf_ref (nw.at_ _ (List.getElem_mem _)), bs, all_ints, bs, all_ints, bs, hr]
      rfl
  have c5 : vComp ["sorts"] [("kinds", 1)] (ivL (vVar 3)) (gvName 0) (vT (v2 fGt (v1 fLenSet (vVar 0)) (v2 fMax (vC (.int 0)) (vVar 1)))) (vVar 0) [some (.int (n : Int)), some (.int k), some i, some (.lst (rfs ps)), o4] μ1 = some (.lst [], μ1) := by
    refine comp_none hi (by omega) trivial (rest := [some (.int k)]) rfl fun p hp => ?_
    have h0 := nw.at_ p hp
    have g := hg p hp
    have a1 : v1 fLenSet (vVar 0) [some (.ref p.1), some (.int k)] μ1 = some (.int (p.2.2 : Int), μ1) := by
      rw [e_1 (x := .ref p.1) (μ1 := μ1) rfl, set_ref h0 (by rw [g.len]; omega), g.dist]
    have a2 : v2 fMax (vC (.int 0)) (vVar 1) [some (.ref p.1), some (.int k)] μ1 = some (.int (k.toNat : Int), μ1) := by
      rw [e_2 (x := .int 0) (μ1 := μ1) (y := .int k) (μ2 := μ1) rfl rfl]
      show some (D.int (if 0 < k then k else 0), μ1) = _
      congr 3
      split <;> omega
    have : ¬ ((k.toNat : Int) < (p.2.2 : Int)) := by have := g.le; omega
    rw [vT_eq, e_2 a1 a2]
    simp only [fGt, fI0]
    rw [decide_eq_false this]
    rfl
  obtain ⟨o', μ2, e6, h1, h2, h3⟩ := app_loop (G0 := [some (.int (n : Int)), some (.int k), some i, some (.lst (rfs ps))]) (x := .int 0) ps o4 μ1 nw.at_ (fun p hp => by rw [(hg p hp).len]; omega) nw.inc (fun _ => rfl) rfl
  have s6 : sFor (ivL (vVar 3)) (gvName 4) (sExpr (v2l fApp (vVar 4) (vC (.int 0)))) [some (.int (n : Int)), some (.int k), some i, some (.lst (rfs ps)), o4] μ1 = some (.nx, [some (.int (n : Int)), some (.int k), some i, some (.lst (rfs ps)), o'], μ2) := by
    rw [sFor_eq, hi, kFor_s]
    exact e6
  have hi2 : ivL (vVar 3) [some (.int (n : Int)), some (.int k), some i, some (.lst (rfs ps)), o'] μ2 = some ((ps.map fun p => D.ref p.1, none), μ2) := rfl
  have c7 : vComp ["sorts"] [("things", 0)] (ivL (vVar 3)) (gvName 0) (vT (v2 fNe (v1 fLen (vVar 0)) (v2 fPlus (vVar 1) (vC (.int 1))))) (vVar 0) [some (.int (n : Int)), some (.int k), some i, some (.lst (rfs ps)), o'] μ2 = some (.lst [], μ2) := by
    refine comp_none hi2 (by omega) trivial (rest := [some (.int (n : Int))]) rfl fun p hp => ?_
    have g := hg p hp
    have hl : v1 fLen (vVar 0) [some (.ref p.1), some (.int (n : Int))] μ2 = some (.int ((n : Int) + 1), μ2) := by
      rw [e_1 (x := .ref p.1) (μ1 := μ2) rfl, fLen_ref (h1 p hp)]; simp [g.len]
    rw [vT_eq, e_2 (y := .int ((n : Int) + 1)) (μ2 := μ2) hl (by simp [fPlus])]
    simp [fNe, eqD]
  refine ⟨some (.lst (rfs ps)), o', μ2, ?_, ⟨by rw [h3]; exact nw.gr.len, fun j hj => ?_⟩⟩
  · unfold rBody
    rw [sSeq_eq, s1, kSeq_nx, sSeq_eq, if_no b2]
    show kSeq _ (some (.nx, _, μ1)) = _
    rw [kSeq_nx, sSeq_eq, if_no (ne_none c3)]
    show kSeq _ (some (.nx, _, μ1)) = _
    rw [kSeq_nx, sSeq_eq, if_no (ne_none c4)]
    show kSeq _ (some (.nx, _, μ1)) = _
    rw [kSeq_nx, sSeq_eq, if_no (ne_none c5)]
    show kSeq _ (some (.nx, _, μ1)) = _
    rw [kSeq_nx, sSeq_eq, s6, kSeq_nx, if_no (ne_none c7)]
    rfl
  · rw [h2 j (fun p hp => by have := nw.lo p hp; omega)]
    exact nw.gr.at_ j hj
theorem run_right {C : Addr} {n : Nat} {k : Int} {μ : M} (hn : n ≤ 7) : ∃ μ', mi_law_right (dn (miAll C)) mi_law_many mi_law_is_sorts [.int (n : Int), .int k] μ = some (.bl true, μ') ∧ Gr μ μ' := by
  obtain ⟨a3, a4, μ1, e1, g1⟩ := run_rBody (C := C) (k := k) (i := .int 0) (o3 := none) (o4 := none) (μ := μ) hn
  obtain ⟨b3, b4, μ2, e2, g2⟩ := run_rBody (C := C) (k := k) (i := .int 1) (o3 := a3) (o4 := a4) (μ := μ1) hn
  refine ⟨μ2, ?_, g1.trans g2⟩
  have hf : forG none (gvName 2) (rBody C) [.int 0, .int 1] [some (.int (n : Int)), some (.int k), none, none, none] μ = some (.nx, [some (.int (n : Int)), some (.int k), some (.int 1), b3, b4], μ2) := by
    have h1 : gvName 2 (.int 0) [some (.int (n : Int)), some (.int k), none, none, none] μ = some ([some (.int (n : Int)), some (.int k), some (.int 0), none, none], μ) := rfl
    have h2 : gvName 2 (.int 1) [some (.int (n : Int)), some (.int k), some (.int 0), a3, a4] μ1 = some ([some (.int (n : Int)), some (.int k), some (.int 1), a3, a4], μ1) := rfl
    simp only [forG, h1, bs, e1, chk_none, h2, e2]
  unfold mi_law_right ev_law_right
  rw [runF_eq, if_pos (show [D.int (n : Int), D.int k].length = 2 from rfl)]
  show kRun (sSeq _ _ [some (.int (n : Int)), some (.int k), none, none, none] μ) = _
  have hr : ivR (vC (.int 2)) [some (.int (n : Int)), some (.int k), none, none, none] μ = some (([.int 0, .int 1], none), μ) := rfl
  rw [sSeq_eq, sFor_eq, hr, kFor_s, hf]
  rfl
end Law
set_option Elab.async false
set_option linter.all false
set_option maxRecDepth 100000
set_option maxHeartbeats 0
namespace Law
open PySem L2 L3
def Pt (μ : M) (k : Nat) : Prop := ∃ a b c : Int, μ[k]? = some (some (.lst [.int a, .int b, .int c]))
theorem run_pot (c : Int) (μ : M) : ∃ k μ', mi_law_pot [.int c] μ = some (.ref k, μ') ∧ Pt μ' k := by
  have hp : CPow 10 18 := ⟨by decide, by decide, by decide⟩
  have hm : CPos c 99999999977 := by unfold CPos; decide
  obtain ⟨r, hr⟩ : ∃ r, mi_law_pot [.int c] μ = r := ⟨_, rfl⟩
  have hr' := hr
  simp [mi_law_pot, ev_law_pot, hp, hm] at hr'
  subst hr'
  exact ⟨_, _, hr, _, _, _, by simp; exact ⟨rfl, rfl, rfl⟩⟩
theorem run_take {μ : M} {k : Nat} {m : Int} (h : Pt μ k) (h0 : 0 < m) (h1 : m < 2 ^ 200) : ∃ r μ', mi_law_take [.ref k, .int m] μ = some (.int r, μ') ∧ Pt μ' k ∧ 0 ≤ r ∧ r < m := by
  obtain ⟨a, b, c, hk⟩ := h
  have hq : ∀ i : Int, CPos i m := fun _ => h0
  have hd : ∀ i : Int, CDivW i m := fun _ => ⟨h0, h1⟩
  by_cases ha : 0 < a
  · refine ⟨a % m, μ.set k (some (.lst [.int (a / m), .int b, .int c])), ?_, ⟨_, _, _, set_get hk⟩, Int.emod_nonneg _ (by omega), Int.emod_lt_of_pos _ h0⟩
    simp [mi_law_take, ev_law_take, fIx_ref hk, onL_ref hk, ha, hq, hd]
  · have hk2 := set_get (y := some (O.lst [.int a, .int b, .int (c + 1)])) hk
    have c1 : CMul 700001 (c + 1) := .inl ⟨by decide, by decide⟩
    have p1 : ∀ i : Int, CPos i 99999999947 := fun _ => by unfold CPos; decide
    have p2 : ∀ i : Int, CPos i 99999999821 := fun _ => by unfold CPos; decide
    have p3 : ∀ i : Int, CPos i 9999999967 := fun _ => by unfold CPos; decide
    have d13 : ∀ i : Int, CDivW i 13 := fun _ => by unfold CDivW; decide
    have s1 : ∀ n : Int, CMul (n % 99999999947) (n % 99999999947) := fun n => .inl ⟨by have := Int.emod_nonneg n (b := 99999999947) (by decide); omega, by have := Int.emod_lt_of_pos n (b := 99999999947) (by decide); omega⟩
    have s2 : ∀ n x : Int, CMul (n % 99999999821) x := fun n x => .inl ⟨by have := Int.emod_nonneg n (b := 99999999821) (by decide); omega, by have := Int.emod_lt_of_pos n (b := 99999999821) (by decide); omega⟩
    obtain ⟨r, hr⟩ : ∃ r, mi_law_take [.ref k, .int m] μ = r := ⟨_, rfl⟩
    have hr' := hr
    simp [mi_law_take, ev_law_take, fIx_ref hk, onL_ref hk, ha, hq, hd, fIx_ref hk2, c1, p1, p2, p3, d13, s1, s2] at hr'
    subst hr'
    exact ⟨_, _, hr, ⟨_, _, _, hk2⟩, Int.emod_nonneg _ (by omega), Int.emod_lt_of_pos _ h0⟩
theorem seq_of {a b : SV} {Γ Γ' : G} {μ μ' : M} {r : Option (Out × G × M)} (h : a Γ μ = some (.nx, Γ', μ')) (h2 : b Γ' μ' = r) : sSeq a b Γ μ = r := by
  rw [sSeq_eq, h, kSeq_nx, h2]
theorem cut_ints {ns : List Int} {lo hi : Option Int} {d : D} (h : d ∈ cutD (ns.map D.int) lo hi) : ∃ c, d = .int c := by
  have := List.mem_of_mem_drop (List.mem_of_mem_take h)
  obtain ⟨c, _, e⟩ := List.mem_map.mp this
  exact ⟨c, e.symm⟩
theorem cut_len {ds : List D} {lo hi : Option Int} : (cutD ds lo hi).length ≤ ds.length := by
  unfold cutD; rw [List.length_take, List.length_drop]; omega
theorem grPt {μ μ' : M} {k : Nat} (h : Gr μ μ') (d : Pt μ k) : Pt μ' k := let ⟨a, b, c, e⟩ := d; ⟨a, b, c, h.get e⟩
section
variable {qN qT qF qH qY qO qX qA qV : Addr → Option Bool} {C : Addr} {μ : M} {e : Nat} {cs : List Addr}
structure Fl (q1 q2 q3 q4 q5 q6 q7 q8 q9 : Addr → Option Bool) (C : Addr) (b1 b2 b3 b4 b5 b6 b7 b8 : Bool) : Prop where
  h1 : q1 C = some b1
  h2 : q2 C = some b2
  h3 : q3 C = some b3
  h4 : q4 C = some b4
  h5 : q5 C = some b5
  h6 : q6 C = some b6
  h7 : q7 C = some b7
  h8 : q8 C = some b8
  h9 : q9 C = some true
theorem run_flags {bN bT bF bH bY bO bX bA : Bool} (F : Fl qN qT qF qH qY qO qX qA qV C bN bT bF bH bY bO bX bA) (hk : μ[e]? = some (some (.exc C))) :
    mi_law_flags qN qT qF qH qY qO qX qA qV [.ref e] μ = some (.lst ([bH, bF, bT, bN, bA, bX, bO, bY, true].map D.bl), μ) := by
  have x : ∀ q b, q C = some b → fIsiX q (.ref e) μ = some (.bl b, μ) := fun q b h => by simp only [fIsiX, hk, h, Option.bind_some]
  simp [mi_law_flags, ev_law_flags, x _ _ F.h1, x _ _ F.h2, x _ _ F.h3, x _ _ F.h4, x _ _ F.h5, x _ _ F.h6, x _ _ F.h7, x _ _ F.h8, x _ _ F.h9, fLst, fPlus, fCat, wlOf]
def due (at_ : Nat) : List Bool := (List.range 9).map fun k => decide (k = at_ ∨ k = 8)
theorem run_due {a : Nat} (ha : a < 9) : mi_law_due_flags [.int (a : Int)] μ = some (.lst ((due a).map D.bl), μ) := by
  have hc : vComp ["k"] [("at", 0)] (ivR (vC (.int 9))) (gvName 0) bYes (v2 (fIn false) (vVar 0) (vL fTup (lCons (vVar 1) (lCons (vC (.int 8)) lNil)))) [some (.int (a : Int))] μ = some (.lst (((List.range 9).filter fun _ => true).map fun k : Nat => D.bl (decide (k = a ∨ k = 8))), μ) := by
    refine comp_one (l := List.range 9) (dn := fun k : Nat => D.int (k : Int)) (c := none) (rest := [some (.int (a : Int))]) rfl (by simp) trivial rfl (fun _ _ => rfl) fun k hk _ => ?_
    rw [e_2 (x := .int (k : Int)) (μ1 := μ) (y := .tup [.int (a : Int), .int 8]) (μ2 := μ) rfl rfl]
    simp only [fIn, flV, bs, sqOf, lsOf, tpOf, optAll]
    simp [inV, eqV]
    rw [Bool.eq_iff_iff]
    simp
    omega
  have ef : (List.range 9).filter (fun _ => true) = List.range 9 := List.filter_eq_self.mpr (by simp)
  rw [ef] at hc
  unfold mi_law_due_flags ev_law_due_flags
  rw [runF_eq, if_pos (show [D.int (a : Int)].length = 1 from rfl)]
  show kRun (sRet _ [some (.int (a : Int))] μ) = _
  rw [sRet_eq, hc]
  simp [due, kRun, kRt]
theorem all_refused {n k : Int} (h : n < 0 ∨ 7 < n) (hb : n.natAbs.log2 < 1920) : miAll C [.int n, .int k] μ = some (.ex C, μ) := by
  refine runX_ex (Γ1 := [some (.int n), some (.int k), none, none]) rfl ?_
  unfold ev_all_sorts
  show sSeqX _ _ [some (.int n), some (.int k), none, none] μ = _
  refine seqX_ex ?_
  have t : (bOr (vT (v2 fLt (vVar 0) (vC (.int 0)))) (vT (v2 fGt (vVar 0) (vC (.int 7))))) [some (.int n), some (.int k), none, none] μ = some (true, μ) := by
    by_cases h0 : n < 0
    · simp [fLt, fGt, fI0, h0]
    · have h7 : 7 < n := by omega
      simp [fLt, fGt, fI0, h0, h7]
  rw [ifX_t (upB_s t)]
  have hl : (7 : Int).natAbs.log2 < 1920 := by decide
  have hm : runM [vC (.int 7), vVar 0] [some (.int n), some (.int k), none, none] μ = some μ := by
    show (if (7 : Int).natAbs.log2 < 1920 then (if n.natAbs.log2 < 1920 then some μ else none) else none) = _
    rw [if_pos hl, if_pos hb]
  show (runM [vC (.int 7), vVar 0] [some (.int n), some (.int k), none, none] μ).bind _ = _
  rw [hm]
  rfl
theorem run_refused {n k : Int} {f : List D → M → Option (D × M)} (h : n < 0 ∨ 7 < n) (hb : n.natAbs.log2 < 1920) (hC : C ∈ cs) (hf : ∀ (μ : M) (e : Nat), μ[e]? = some (some (.exc C)) → f [.ref e] μ = some (.lst ((due 2).map D.bl), μ)) :
    ∃ μ', mi_law_refused mi_law_due_flags f (miAll C) cs [.int n, .int k] μ = some (.bl true, μ') ∧ Gr μ μ' := by
  refine ⟨μ ++ [some (.exc C)], ?_, gr_app⟩
  have hex : (μ ++ [some (O.exc C)])[μ.length]? = some (some (.exc C)) := by simp
  have hfx := hf (μ ++ [some (.exc C)]) μ.length hex
  have tr : sTry cs 3 (sExprX (vLX (miAll C) (upL (lCons (vVar 0) (lCons (vVar 1) lNil))))) (sAsg (vL f (lCons (vVar 3) lNil)) (gvName 2)) [some (.int n), some (.int k), some (.lst []), none] μ = some (.nx, [some (.int n), some (.int k), some (.lst ((due 2).map D.bl)), none], μ ++ [some (.exc C)]) := by
    have := try_ex (cs := cs) (i := 3) (C := C) (b := sExprX (vLX (miAll C) (upL (lCons (vVar 0) (lCons (vVar 1) lNil))))) (s := sAsg (vL f (lCons (vVar 3) lNil)) (gvName 2)) (Γ := [some (.int n), some (.int k), some (.lst []), none]) (μ := μ) (Γ1 := [some (.int n), some (.int k), some (.lst []), none]) (μ1 := μ) (o := .nx) (Γ2 := [some (.int n), some (.int k), some (.lst ((due 2).map D.bl)), some (.ref μ.length)]) (μ2 := μ ++ [some (.exc C)])
      (exprX_e (by rw [vLX_s (ds := [.int n, .int k]) (μ1 := μ) (upL_s rfl)]; exact all_refused h hb)) hC (by
        show sAsg (vL f (lCons (vVar 3) lNil)) (gvName 2) [some (.int n), some (.int k), some (.lst []), some (.ref μ.length)] (μ ++ [some (.exc C)]) = _
        simp [hfx])
    exact this
  have hd := run_due (μ := μ ++ [some (.exc C)]) (a := 2) (by decide)
  unfold mi_law_refused ev_law_refused
  rw [runF_eq, if_pos (show [D.int n, D.int k].length = 2 from rfl)]
  show kRun (sSeq _ _ [some (.int n), some (.int k), none, none] μ) = _
  have s1 : sAsg (vL fLst lNil) (gvName 2) [some (.int n), some (.int k), none, none] μ = some (.nx, [some (.int n), some (.int k), some (.lst []), none], μ) := rfl
  rw [sSeq_eq, s1, kSeq_nx, sSeq_eq, tr, kSeq_nx, sRet_eq, e_2 (x := .lst ((due 2).map D.bl)) (μ1 := μ ++ [some (.exc C)]) (y := .lst ((due 2).map D.bl)) (μ2 := μ ++ [some (.exc C)]) rfl (by
    show vL mi_law_due_flags (lCons (vC (.int 2)) lNil) _ _ = _
    have hd : mi_law_due_flags [.int 2] (μ ++ [some (.exc C)]) = some (.lst ((due 2).map D.bl), μ ++ [some (.exc C)]) := hd
    simp [hd])]
  rfl
end
end Law
set_option Elab.async false
set_option linter.all false
set_option maxRecDepth 100000
set_option maxHeartbeats 0
namespace Law
open PySem L2 L3
section
variable {C : Addr} {cs : List Addr} {f : List D → M → Option (D × M)}
noncomputable abbrev fR (C : Addr) : List D → M → Option (D × M) := mi_law_right (dn (miAll C)) mi_law_many mi_law_is_sorts
noncomputable abbrev fN (f : List D → M → Option (D × M)) (C : Addr) (cs : List Addr) : List D → M → Option (D × M) := mi_law_refused mi_law_due_flags f (miAll C) cs
noncomputable abbrev q1 : SV := (sAsg (vL mi_law_pot (lCons (vVar 1) lNil)) (gvName 2))
noncomputable abbrev q2 : SV := (sAsg (vL mi_law_take (lCons (vVar 2) (lCons (vC (.int 8)) lNil))) (gvName 3))
noncomputable abbrev q3 : SV := (sAsg (vL mi_law_take (lCons (vVar 2) (lCons (v2 fIx (vL fLst (lCons (vC (.int 3)) (lCons (v2 fPow (vC (.int 10)) (vC (.int 20))) lNil))) (vL mi_law_take (lCons (vVar 2) (lCons (vC (.int 2)) lNil)))) lNil))) (gvName 4))
noncomputable abbrev q4 : SV := (sAsg (v2 fIx (vL fLst (lCons (vL mi_law_take (lCons (vVar 2) (lCons (vC (.int 10)) lNil))) (lCons (vVar 3) (lCons (vC (.int 2)) (lCons (v2 fSub (vC (.int 0)) (vVar 4)) (lCons (v2 fPlus (vC (.int 8)) (vVar 4)) lNil)))))) (vL mi_law_take (lCons (vVar 2) (lCons (vC (.int 5)) lNil)))) (gvName 5))
noncomputable abbrev q5 (C : Addr) : SV := (sIf (bOr (bNot (bTru (vL (fR C) (lCons (vVar 3) (lCons (vVar 5) lNil))))) (bNot (bTru (vL (fR C) (lCons (vL mi_law_take (lCons (vVar 2) (lCons (vC (.int 6)) lNil))) (lCons (vC (.int 2)) lNil))))))
        (sRet (vC (.bl false)))
        sNx)
noncomputable abbrev q6 (f : List D → M → Option (D × M)) (C : Addr) (cs : List Addr) : SV := (sFor (ivL (vL fLst (lCons (vC (.int 8)) (lCons (v2 fPlus (vC (.int 8)) (vVar 4)) (lCons (v1 fNeg (vC (.int 1))) (lCons (v2 fSub (v2 fSub (vC (.int 0)) (vC (.int 1))) (vVar 4)) lNil)))))) (gvName 6)
        (sIf (bNot (bTru (vL (fN f C cs) (lCons (vVar 6) (lCons (vVar 5) lNil)))))
          (sRet (vC (.bl false)))
          sNx))
theorem rq3 {sc c t : D} {o4 o5 o6 : Option D} {p : Nat} {μ : M} (h : Pt μ p) : ∃ (far : Int) (μ' : M), 0 ≤ far ∧ far < 10 ^ 20 ∧ Pt μ' p ∧ q3 [some sc, some c, some (.ref p), some t, o4, o5, o6] μ = some (.nx, [some sc, some c, some (.ref p), some t, some (.int far), o5, o6], μ') := by
  have hp : CPow 10 20 := ⟨by decide, by decide, by decide⟩
  obtain ⟨r1, μ1, e1, h1, p1, p2⟩ := run_take (m := 2) h (by decide) (by decide)
  have : ∃ z : Int, 0 < z ∧ z ≤ 10 ^ 20 ∧ fIx (.lst [.int 3, .int 100000000000000000000]) (.int r1) μ1 = some (.int z, μ1) := by
    have : r1 = 0 ∨ r1 = 1 := by omega
    rcases this with rfl | rfl
    · exact ⟨3, by decide, by decide, rfl⟩
    · exact ⟨100000000000000000000, by decide, by decide, rfl⟩
  obtain ⟨z, z0, z1, ez⟩ := this
  obtain ⟨r2, μ2, e2, h2, p3, p4⟩ := run_take (m := z) h1 z0 (by omega)
  refine ⟨r2, μ2, p3, by omega, h2, ?_⟩
  simp [q3, hp, e1, ez, e2]
theorem rq4 {sc c : D} {t : Nat} {far : Int} {o5 o6 : Option D} {p : Nat} {μ : M} (h : Pt μ p) : ∃ (kd : Int) (μ' : M), Pt μ' p ∧ q4 [some sc, some c, some (.ref p), some (.int (t : Int)), some (.int far), o5, o6] μ = some (.nx, [some sc, some c, some (.ref p), some (.int (t : Int)), some (.int far), some (.int kd), o6], μ') := by
  obtain ⟨r1, μ1, e1, h1, p1, p2⟩ := run_take (m := 10) h (by decide) (by decide)
  obtain ⟨r2, μ2, e2, h2, p3, p4⟩ := run_take (m := 5) h1 (by decide) (by decide)
  have : ∃ z : Int, fIx (.lst [.int r1, .int (t : Int), .int 2, .int (0 - far), .int (8 + far)]) (.int r2) μ2 = some (.int z, μ2) := by
    have : r2 = 0 ∨ r2 = 1 ∨ r2 = 2 ∨ r2 = 3 ∨ r2 = 4 := by omega
    rcases this with rfl | rfl | rfl | rfl | rfl
    · exact ⟨_, rfl⟩
    · exact ⟨_, rfl⟩
    · exact ⟨_, rfl⟩
    · exact ⟨_, rfl⟩
    · exact ⟨_, rfl⟩
  obtain ⟨z, ez⟩ := this
  refine ⟨z, μ2, h2, ?_⟩
  have hl : vL fLst (lCons (vL mi_law_take (lCons (vVar 2) (lCons (vC (.int 10)) lNil))) (lCons (vVar 3) (lCons (vC (.int 2)) (lCons (v2 fSub (vC (.int 0)) (vVar 4)) (lCons (v2 fPlus (vC (.int 8)) (vVar 4)) lNil))))) [some sc, some c, some (.ref p), some (.int (t : Int)), some (.int far), o5, o6] μ = some (.lst [.int r1, .int (t : Int), .int 2, .int (0 - far), .int (8 + far)], μ1) := by
    simp [e1, fLst, fPlus, fSub, fI0]
  rw [q4, sAsg_eq, e_2 (y := .int r2) (μ2 := μ2) hl (by simp [e2]), ez]
  rfl
theorem rq5 {sc c : D} {t : Nat} {far kd : Int} {o6 : Option D} {p : Nat} {μ : M} (h : Pt μ p) (ht : t ≤ 7) : ∃ μ', Pt μ' p ∧ q5 C [some sc, some c, some (.ref p), some (.int (t : Int)), some (.int far), some (.int kd), o6] μ = some (.nx, [some sc, some c, some (.ref p), some (.int (t : Int)), some (.int far), some (.int kd), o6], μ') := by
  obtain ⟨μ1, e1, g1⟩ := run_right (C := C) (k := kd) (μ := μ) ht
  obtain ⟨r2, μ2, e2, h2, p1, p2⟩ := run_take (m := 6) (grPt g1 h) (by decide) (by decide)
  obtain ⟨t2, rfl⟩ : ∃ n : Nat, r2 = n := ⟨r2.toNat, by omega⟩
  obtain ⟨μ3, e3, g3⟩ := run_right (C := C) (k := 2) (μ := μ2) (n := t2) (by omega)
  refine ⟨μ3, grPt g3 h2, ?_⟩
  have a1 : vL (fR C) (lCons (vVar 3) (lCons (vVar 5) lNil)) [some sc, some c, some (.ref p), some (.int (t : Int)), some (.int far), some (.int kd), o6] μ = some (.bl true, μ1) := by
    skip
    simp [e1]
  have a2 : vL (fR C) (lCons (vL mi_law_take (lCons (vVar 2) (lCons (vC (.int 6)) lNil))) (lCons (vC (.int 2)) lNil)) [some sc, some c, some (.ref p), some (.int (t : Int)), some (.int far), some (.int kd), o6] μ1 = some (.bl true, μ3) := by
    simp [e2, e3]
  rw [q5, sIf_eq, bOr_eq, bNot_eq, bTru_eq, a1]
  show kSIf _ _ _ (bNot (bTru (vL (fR C) _)) _ μ1) = _
  rw [bNot_eq, bTru_eq, a2]
  rfl
theorem rq6 {sc c p : D} {t : Nat} {far kd : Int} {o6 : Option D} {μ : M} (h0 : 0 ≤ far) (h1 : far < 10 ^ 20) (hC : C ∈ cs) (hf : ∀ (μ : M) (e : Nat), μ[e]? = some (some (.exc C)) → f [.ref e] μ = some (.lst ((due 2).map D.bl), μ)) :
    ∃ o6' μ', q6 f C cs [some sc, some c, some p, some (.int (t : Int)), some (.int far), some (.int kd), o6] μ = some (.nx, [some sc, some c, some p, some (.int (t : Int)), some (.int far), some (.int kd), o6'], μ') := by
  have hi : ivL (vL fLst (lCons (vC (.int 8)) (lCons (v2 fPlus (vC (.int 8)) (vVar 4)) (lCons (v1 fNeg (vC (.int 1))) (lCons (v2 fSub (v2 fSub (vC (.int 0)) (vC (.int 1))) (vVar 4)) lNil))))) [some sc, some c, some p, some (.int (t : Int)), some (.int far), some (.int kd), o6] μ = some (([8, 8 + far, -1, 0 - 1 - far].map D.int, none), μ) := by
    simp [fLst, fPlus, fSub, fI0, fNeg, lsC]
  have main := forG_inv (c := none) (g := gvName 6) (body := (sIf (bNot (bTru (vL (fN f C cs) (lCons (vVar 6) (lCons (vVar 5) lNil))))) (sRet (vC (.bl false))) sNx)) (fun Γ μ => ∃ o6, Γ = [some sc, some c, some p, some (.int (t : Int)), some (.int far), some (.int kd), o6])
    ([8, 8 + far, -1, 0 - 1 - far].map D.int) [some sc, some c, some p, some (.int (t : Int)), some (.int far), some (.int kd), o6] μ ⟨_, rfl⟩ ?_
  · obtain ⟨Γ', μ', e, o6', rfl⟩ := main
    refine ⟨o6', μ', ?_⟩
    rw [q6, sFor_eq, hi, kFor_s, e]
  · rintro d hd Γ μ ⟨o6, rfl⟩
    obtain ⟨b, rfl, hb, hs⟩ : ∃ b : Int, d = .int b ∧ (b < 0 ∨ 7 < b) ∧ b.natAbs < 2 ^ 100 := by
      simp only [List.map_cons, List.map_nil, List.mem_cons, List.not_mem_nil, or_false] at hd
      rcases hd with rfl | rfl | rfl | rfl
      · exact ⟨_, rfl, by omega, by decide⟩
      · exact ⟨_, rfl, by omega, by omega⟩
      · exact ⟨_, rfl, by omega, by decide⟩
      · exact ⟨_, rfl, by omega, by omega⟩
    have hlog : b.natAbs.log2 < 1920 := by
      have : b.natAbs ≠ 0 := by omega
      have : b.natAbs.log2 < 100 := (Nat.log2_lt this).mpr hs
      omega
    obtain ⟨μ', e, g⟩ := run_refused (C := C) (cs := cs) (f := f) (k := kd) (μ := μ) hb hlog hC hf
    refine ⟨[some sc, some c, some p, some (.int (t : Int)), some (.int far), some (.int kd), some (.int b)], μ, _, μ', rfl, ?_, trivial, some (.int b), rfl⟩
    have a1 : vL (fN f C cs) (lCons (vVar 6) (lCons (vVar 5) lNil)) [some sc, some c, some p, some (.int (t : Int)), some (.int far), some (.int kd), some (.int b)] μ = some (.bl true, μ') := by
      skip
      simp [e]
    rw [sIf_eq, bNot_eq, bTru_eq, a1]
    rfl
noncomputable abbrev bodyL (f : List D → M → Option (D × M)) (C : Addr) (cs : List Addr) : SV := sSeq q1 (sSeq q2 (sSeq q3 (sSeq q4 (sSeq (q5 C) (q6 f C cs)))))
theorem run_body {sc : D} {c : Int} {o2 o3 o4 o5 o6 : Option D} {μ : M} (hC : C ∈ cs) (hf : ∀ (μ : M) (e : Nat), μ[e]? = some (some (.exc C)) → f [.ref e] μ = some (.lst ((due 2).map D.bl), μ)) :
    ∃ x2 x3 x4 x5 x6 μ', bodyL f C cs [some sc, some (.int c), o2, o3, o4, o5, o6] μ = some (.nx, [some sc, some (.int c), x2, x3, x4, x5, x6], μ') := by
  obtain ⟨p, μ1, e1, p1⟩ := run_pot c μ
  have h1 : q1 [some sc, some (.int c), o2, o3, o4, o5, o6] μ = some (.nx, [some sc, some (.int c), some (.ref p), o3, o4, o5, o6], μ1) := by
    simp [q1, e1]
  obtain ⟨t, μ2, e2, p2, l1, l2⟩ := run_take (m := 8) p1 (by decide) (by decide)
  obtain ⟨t, rfl⟩ : ∃ n : Nat, t = n := ⟨t.toNat, by omega⟩
  have h2 : q2 [some sc, some (.int c), some (.ref p), o3, o4, o5, o6] μ1 = some (.nx, [some sc, some (.int c), some (.ref p), some (.int (t : Int)), o4, o5, o6], μ2) := by
    simp [q2, e2]
  obtain ⟨far, μ3, f0, f1, p3, h3⟩ := rq3 (sc := sc) (c := .int c) (t := .int (t : Int)) (o4 := o4) (o5 := o5) (o6 := o6) p2
  obtain ⟨kd, μ4, p4, h4⟩ := rq4 (sc := sc) (c := .int c) (t := t) (far := far) (o5 := o5) (o6 := o6) p3
  obtain ⟨μ5, p5, h5⟩ := rq5 (C := C) (sc := sc) (c := .int c) (t := t) (far := far) (kd := kd) (o6 := o6) p4 (by omega)
  obtain ⟨x6, μ6, h6⟩ := rq6 (sc := sc) (c := .int c) (p := .ref p) (t := t) (far := far) (kd := kd) (o6 := o6) (μ := μ5) f0 f1 hC hf
  exact ⟨_, _, _, _, _, _, seq_of h1 (seq_of h2 (seq_of h3 (seq_of h4 (seq_of h5 h6))))⟩
theorem run_law (hC : C ∈ cs) (hf : ∀ (μ : M) (e : Nat), μ[e]? = some (some (.exc C)) → f [.ref e] μ = some (.lst ((due 2).map D.bl), μ)) (ns : List Int) (hn : ns.length ≤ 63) : ∃ μ', mi_law mi_law_pot mi_law_take (fR C) (fN f C cs) [.scr (ns.map D.int)] [] = some (.bl true, μ') := by
  have hl := cut_len (ds := ns.map D.int) (lo := none) (hi := some 4)
  rw [List.length_map] at hl
  have main := forG_inv (c := none) (g := gvName 1) (body := bodyL f C cs) (fun Γ μ => ∃ o1 o2 o3 o4 o5 o6, Γ = [some (.scr (ns.map D.int)), o1, o2, o3, o4, o5, o6])
    (D.int 0 :: cutD (ns.map D.int) none (some 4)) [some (.scr (ns.map D.int)), none, none, none, none, none, none] [] ⟨_, _, _, _, _, _, rfl⟩ ?_
  · obtain ⟨Γ', μ', e, o1, o2, o3, o4, o5, o6, rfl⟩ := main
    refine ⟨μ', ?_⟩
    have hs : fSl (.scr (ns.map D.int)) none (some 4) [] = some (.lst (cutD (ns.map D.int) none (some 4)), []) := rfl
    have hl2 : 1 + (cutD (ns.map D.int) none (some 4)).length ≤ 1000000 := by omega
    have ef : ev_law mi_law_pot mi_law_take (fR C) (fN f C cs) = sSeq (sFor (ivL (v2 fPlus (vL fLst (lCons (vC (.int 0)) lNil)) (vSl (vVar 0) oNone (oSome (vC (.int 4)))))) (gvName 1) (bodyL f C cs)) (sRet (vC (.bl true))) := rfl
    unfold mi_law
    rw [ef]
    generalize bodyL f C cs = B at *
    simp [hs, hl2, e]
  · rintro d hd Γ μ ⟨o1, o2, o3, o4, o5, o6, rfl⟩
    obtain ⟨c, rfl⟩ : ∃ c, d = .int c := by
      rcases List.mem_cons.mp hd with rfl | hd
      · exact ⟨_, rfl⟩
      · exact cut_ints hd
    obtain ⟨x2, x3, x4, x5, x6, μ', e⟩ := run_body (sc := .scr (ns.map D.int)) (c := c) (o2 := o2) (o3 := o3) (o4 := o4) (o5 := o5) (o6 := o6) (μ := μ) hC hf
    exact ⟨_, _, _, _, rfl, e, trivial, _, _, _, _, _, _, rfl⟩
end
end Law
set_option Elab.async false
set_option linter.all false
set_option maxRecDepth 100000
set_option maxHeartbeats 0
namespace Law
open PySem L2 L3
theorem all_mk {l : PySem.W.OpenLaw} {w : World} {K : PySem.W.Frag} {h : Heap} {mg : Str → Option Value} {fa f1 f2 f3 f4 f5 f6 f7 f8 f9 f10 f11 c_TooMany c_NoName c_NoFit c_NoThing c_NoneYet c_NoForm c_NoText c_NoAsk c_HalfError : Addr} {cd_c_TooMany cd_c_HalfError : ClassData} (X : K.In h) (G : h.Ns mainGlobals mg) (hfa : mg "law" = some (.ref fa))
    {od1 an1 od2 an2 od3 an3 od4 an4 od5 an5 od6 an6 od7 an7 od8 an8 od9 an9 od10 an10 od11 an11 : Option Addr} {sl1 sl2 sl3 sl4 sl5 sl6 sl7 sl8 sl9 sl10 sl11 : Array (Option Value)} {oc1 kV1 dc1 pm1 cd1 ct1 oc2 kV2 dc2 pm2 cd2 ct2 oc3 kV3 dc3 pm3 cd3 ct3 oc4 kV4 dc4 pm4 cd4 ct4 oc5 kV5 dc5 pm5 cd5 ct5 oc6 kV6 dc6 pm6 cd6 ct6 oc7 kV7 dc7 pm7 cd7 ct7 oc8 kV8 dc8 pm8 cd8 ct8 oc9 kV9 dc9 pm9 cd9 ct9 oc10 kV10 dc10 pm10 cd10 ct10 oc11 kV11 dc11 pm11 cd11 ct11 : Value}
    (a1 : PySem.W.nsIn K mainGlobals "one_thing_more" = some (some (.ref f1)))
    (l1 : K.lookup f1 = some ⟨oc1, od1, .func (PySem.W.fnOf "one_thing_more" "one_thing_more" (defArgs (top 12)) (defBody (top 12)) (defScope (top 12)) .none kV1 dc1 pm1 an1 cd1 ct1), sl1⟩) (c1 : PySem.W.codeIn K cd1 "one_thing_more" = true) (k1 : PySem.W.keepIn K (.ref f1) = true)
    (a2 : PySem.W.nsIn K mainGlobals "all_sorts" = some (some (.ref f2)))
    (l2 : K.lookup f2 = some ⟨oc2, od2, .func (PySem.W.fnOf "all_sorts" "all_sorts" (defArgs (top 13)) (defBody (top 13)) (defScope (top 13)) .none kV2 dc2 pm2 an2 cd2 ct2), sl2⟩) (c2 : PySem.W.codeIn K cd2 "all_sorts" = true) (k2 : PySem.W.keepIn K (.ref f2) = true)
    (a3 : PySem.W.nsIn K mainGlobals "_law_pot" = some (some (.ref f3)))
    (l3 : K.lookup f3 = some ⟨oc3, od3, .func (PySem.W.fnOf "_law_pot" "_law_pot" (defArgs (top 15)) (defBody (top 15)) (defScope (top 15)) .none kV3 dc3 pm3 an3 cd3 ct3), sl3⟩) (c3 : PySem.W.codeIn K cd3 "_law_pot" = true) (k3 : PySem.W.keepIn K (.ref f3) = true)
    (a4 : PySem.W.nsIn K mainGlobals "_law_take" = some (some (.ref f4)))
    (l4 : K.lookup f4 = some ⟨oc4, od4, .func (PySem.W.fnOf "_law_take" "_law_take" (defArgs (top 16)) (defBody (top 16)) (defScope (top 16)) .none kV4 dc4 pm4 an4 cd4 ct4), sl4⟩) (c4 : PySem.W.codeIn K cd4 "_law_take" = true) (k4 : PySem.W.keepIn K (.ref f4) = true)
    (a5 : PySem.W.nsIn K mainGlobals "_law_flags" = some (some (.ref f5)))
    (l5 : K.lookup f5 = some ⟨oc5, od5, .func (PySem.W.fnOf "_law_flags" "_law_flags" (defArgs (top 17)) (defBody (top 17)) (defScope (top 17)) .none kV5 dc5 pm5 an5 cd5 ct5), sl5⟩) (c5 : PySem.W.codeIn K cd5 "_law_flags" = true) (k5 : PySem.W.keepIn K (.ref f5) = true)
    (a6 : PySem.W.nsIn K mainGlobals "_law_due_flags" = some (some (.ref f6)))
    (l6 : K.lookup f6 = some ⟨oc6, od6, .func (PySem.W.fnOf "_law_due_flags" "_law_due_flags" (defArgs (top 18)) (defBody (top 18)) (defScope (top 18)) .none kV6 dc6 pm6 an6 cd6 ct6), sl6⟩) (c6 : PySem.W.codeIn K cd6 "_law_due_flags" = true) (k6 : PySem.W.keepIn K (.ref f6) = true)
    (a7 : PySem.W.nsIn K mainGlobals "_law_many" = some (some (.ref f7)))
    (l7 : K.lookup f7 = some ⟨oc7, od7, .func (PySem.W.fnOf "_law_many" "_law_many" (defArgs (top 19)) (defBody (top 19)) (defScope (top 19)) .none kV7 dc7 pm7 an7 cd7 ct7), sl7⟩) (c7 : PySem.W.codeIn K cd7 "_law_many" = true) (k7 : PySem.W.keepIn K (.ref f7) = true)
    (a8 : PySem.W.nsIn K mainGlobals "_law_is_sorts" = some (some (.ref f8)))
    (l8 : K.lookup f8 = some ⟨oc8, od8, .func (PySem.W.fnOf "_law_is_sorts" "_law_is_sorts" (defArgs (top 20)) (defBody (top 20)) (defScope (top 20)) .none kV8 dc8 pm8 an8 cd8 ct8), sl8⟩) (c8 : PySem.W.codeIn K cd8 "_law_is_sorts" = true) (k8 : PySem.W.keepIn K (.ref f8) = true)
    (a9 : PySem.W.nsIn K mainGlobals "_law_right" = some (some (.ref f9)))
    (l9 : K.lookup f9 = some ⟨oc9, od9, .func (PySem.W.fnOf "_law_right" "_law_right" (defArgs (top 21)) (defBody (top 21)) (defScope (top 21)) .none kV9 dc9 pm9 an9 cd9 ct9), sl9⟩) (c9 : PySem.W.codeIn K cd9 "_law_right" = true) (k9 : PySem.W.keepIn K (.ref f9) = true)
    (a10 : PySem.W.nsIn K mainGlobals "_law_refused" = some (some (.ref f10)))
    (l10 : K.lookup f10 = some ⟨oc10, od10, .func (PySem.W.fnOf "_law_refused" "_law_refused" (defArgs (top 22)) (defBody (top 22)) (defScope (top 22)) .none kV10 dc10 pm10 an10 cd10 ct10), sl10⟩) (c10 : PySem.W.codeIn K cd10 "_law_refused" = true) (k10 : PySem.W.keepIn K (.ref f10) = true)
    (a11 : PySem.W.nsIn K mainGlobals "law" = some (some (.ref f11)))
    (l11 : K.lookup f11 = some ⟨oc11, od11, .func (PySem.W.fnOf "law" "law" (defArgs (top 23)) (defBody (top 23)) (defScope (top 23)) .none kV11 dc11 pm11 an11 cd11 ct11), sl11⟩) (c11 : PySem.W.codeIn K cd11 "law" = true) (k11 : PySem.W.keepIn K (.ref f11) = true)
    {t_MOST_THINGS : Tok} (z_MOST_THINGS : PySem.W.nsIn K mainGlobals "MOST_THINGS" = some (some (.int 7 t_MOST_THINGS)))
    (z_max : PySem.W.nsIn K mainGlobals "max" = some none)
    (z_min : PySem.W.nsIn K mainGlobals "min" = some none)
    (z_range : PySem.W.nsIn K mainGlobals "range" = some none)
    (z_isinstance : PySem.W.nsIn K mainGlobals "isinstance" = some none)
    (z_ValueError : PySem.W.nsIn K mainGlobals "ValueError" = some none)
    (z_len : PySem.W.nsIn K mainGlobals "len" = some none)
    (z_sum : PySem.W.nsIn K mainGlobals "sum" = some none)
    (z_list : PySem.W.nsIn K mainGlobals "list" = some none)
    (z_int : PySem.W.nsIn K mainGlobals "int" = some none)
    (z_bool : PySem.W.nsIn K mainGlobals "bool" = some none)
    (z_set : PySem.W.nsIn K mainGlobals "set" = some none)
    (zc_TooMany : PySem.W.nsIn K mainGlobals "TooMany" = some (some (.ref c_TooMany)))
    (zc_NoName : PySem.W.nsIn K mainGlobals "NoName" = some (some (.ref c_NoName)))
    (zc_NoFit : PySem.W.nsIn K mainGlobals "NoFit" = some (some (.ref c_NoFit)))
    (zc_NoThing : PySem.W.nsIn K mainGlobals "NoThing" = some (some (.ref c_NoThing)))
    (zc_NoneYet : PySem.W.nsIn K mainGlobals "NoneYet" = some (some (.ref c_NoneYet)))
    (zc_NoForm : PySem.W.nsIn K mainGlobals "NoForm" = some (some (.ref c_NoForm)))
    (zc_NoText : PySem.W.nsIn K mainGlobals "NoText" = some (some (.ref c_NoText)))
    (zc_NoAsk : PySem.W.nsIn K mainGlobals "NoAsk" = some (some (.ref c_NoAsk)))
    (zc_HalfError : PySem.W.nsIn K mainGlobals "HalfError" = some (some (.ref c_HalfError)))
    (ks_HalfError : PySem.W.subIn K (.ref c_HalfError) (.type "BaseException") = some true) (kc_HalfError : PySem.W.clsIn K c_HalfError = some cd_c_HalfError) (ky_HalfError : PySem.W.typeIn K (.ref c_HalfError) = some (.type "type"))
    (er_TooMany : PySem.W.excIn K c_TooMany veBm "ValueError.__new__" = true)
    (xhga_TooMany : PySem.W.findIn K (.ref c_TooMany) "__getattribute__" = some (some (.builtin "BaseException.__getattribute__")))
    (xhgn_TooMany : PySem.W.findIn K (.ref c_TooMany) "__getattr__" = some none)
    (xhmB_TooMany : PySem.W.mroIn K c_TooMany (.type "BaseException") = some true)
    (xha_TooMany : PySem.W.findIn K (.ref c_TooMany) "__class__" = some (some (.builtin "object.__class__")))
    (xhn_TooMany : PySem.W.specialIn K (.builtin "object.__class__") "__get__" = some (some (.builtin "getset_descriptor.__get__")))
    (xhtk_TooMany : PySem.W.takesIn K (.builtin "object.__class__") = some true)
    (xhm_TooMany : PySem.W.mroIn K c_TooMany (.type "object") = some true)
    (xcls_TooMany : PySem.W.clsIn K c_TooMany = some cd_c_TooMany)
    (kq_NoName_TooMany : PySem.W.kitOne K (.ref c_TooMany) (.ref c_NoName) = some false)
    (kq_TooMany_TooMany : PySem.W.kitOne K (.ref c_TooMany) (.ref c_TooMany) = some true)
    (kq_NoFit_TooMany : PySem.W.kitOne K (.ref c_TooMany) (.ref c_NoFit) = some false)
    (kq_NoThing_TooMany : PySem.W.kitOne K (.ref c_TooMany) (.ref c_NoThing) = some false)
    (kq_NoneYet_TooMany : PySem.W.kitOne K (.ref c_TooMany) (.ref c_NoneYet) = some false)
    (kq_NoForm_TooMany : PySem.W.kitOne K (.ref c_TooMany) (.ref c_NoForm) = some false)
    (kq_NoText_TooMany : PySem.W.kitOne K (.ref c_TooMany) (.ref c_NoText) = some false)
    (kq_NoAsk_TooMany : PySem.W.kitOne K (.ref c_TooMany) (.ref c_NoAsk) = some false)
    (kq_ValueError_TooMany : PySem.W.kitOne K (.ref c_TooMany) (.type "ValueError") = some true)
    (kt_HalfError_TooMany : PySem.W.subIn K (.ref c_TooMany) (.ref c_HalfError) = some true) :
    ∃ fd : FuncData, (∀ (s : Shared) (v : Value), BindsTo s fd ⟨[v], []⟩ [("script", v)]) ∧ ∀ base : Heap, K.In base → base.Ns mainGlobals mg → FnOk l.prog w K mg base CX0 4 fa fd ["script"] (spLaw K) := by
  have e := hfa.symm.trans (PySem.W.mg_of X G a11)
  cases e
  have F1 := fun_mk (st := (top 12)) l1 c1 k1
  have b1 := F1.binds (ps := ["sort", "most"]) fun _ _ _ _ _ _ us hl => match us, hl with | [_, _], _ => rfl
  have g1 := PySem.W.mg_of X G a1
  have F2 := fun_mk (st := (top 13)) l2 c2 k2
  have b2 := F2.binds (ps := ["many", "most"]) fun _ _ _ _ _ _ us hl => match us, hl with | [_, _], _ => rfl
  have g2 := PySem.W.mg_of X G a2
  have F3 := fun_mk (st := (top 15)) l3 c3 k3
  have b3 := F3.binds (ps := ["cell"]) fun _ _ _ _ _ _ us hl => match us, hl with | [_], _ => rfl
  have g3 := PySem.W.mg_of X G a3
  have F4 := fun_mk (st := (top 16)) l4 c4 k4
  have b4 := F4.binds (ps := ["pot", "many"]) fun _ _ _ _ _ _ us hl => match us, hl with | [_, _], _ => rfl
  have g4 := PySem.W.mg_of X G a4
  have F5 := fun_mk (st := (top 17)) l5 c5 k5
  have b5 := F5.binds (ps := ["e"]) fun _ _ _ _ _ _ us hl => match us, hl with | [_], _ => rfl
  have g5 := PySem.W.mg_of X G a5
  have F6 := fun_mk (st := (top 18)) l6 c6 k6
  have b6 := F6.binds (ps := ["at"]) fun _ _ _ _ _ _ us hl => match us, hl with | [_], _ => rfl
  have g6 := PySem.W.mg_of X G a6
  have F7 := fun_mk (st := (top 19)) l7 c7 k7
  have b7 := F7.binds (ps := ["things", "kinds"]) fun _ _ _ _ _ _ us hl => match us, hl with | [_, _], _ => rfl
  have g7 := PySem.W.mg_of X G a7
  have F8 := fun_mk (st := (top 20)) l8 c8 k8
  have b8 := F8.binds (ps := ["sorts"]) fun _ _ _ _ _ _ us hl => match us, hl with | [_], _ => rfl
  have g8 := PySem.W.mg_of X G a8
  have F9 := fun_mk (st := (top 21)) l9 c9 k9
  have b9 := F9.binds (ps := ["things", "kinds"]) fun _ _ _ _ _ _ us hl => match us, hl with | [_, _], _ => rfl
  have g9 := PySem.W.mg_of X G a9
  have F10 := fun_mk (st := (top 22)) l10 c10 k10
  have b10 := F10.binds (ps := ["things", "kinds"]) fun _ _ _ _ _ _ us hl => match us, hl with | [_, _], _ => rfl
  have g10 := PySem.W.mg_of X G a10
  have F11 := fun_mk (st := (top 23)) l11 c11 k11
  have m_max := PySem.W.mg_none_of X G z_max
  have m_min := PySem.W.mg_none_of X G z_min
  have m_range := PySem.W.mg_none_of X G z_range
  have m_isinstance := PySem.W.mg_none_of X G z_isinstance
  have m_ValueError := PySem.W.mg_none_of X G z_ValueError
  have m_len := PySem.W.mg_none_of X G z_len
  have m_sum := PySem.W.mg_none_of X G z_sum
  have m_list := PySem.W.mg_none_of X G z_list
  have m_int := PySem.W.mg_none_of X G z_int
  have m_bool := PySem.W.mg_none_of X G z_bool
  have m_set := PySem.W.mg_none_of X G z_set
  have g_MOST_THINGS : mg "MOST_THINGS" = some (.int 7 t_MOST_THINGS) ∧ RelV (.int 7) (.int 7 t_MOST_THINGS) ∧ ∀ W, DR K W (.int 7) (.int 7) := ⟨PySem.W.mg_of X G z_MOST_THINGS, ⟨_, rfl⟩, fun _ => .int _⟩
  have ei_TooMany : ExcIn K c_TooMany := ⟨xhga_TooMany, xhgn_TooMany, xhmB_TooMany, xha_TooMany, xhn_TooMany, xhtk_TooMany, xhm_TooMany, by rw [xcls_TooMany]; rfl⟩
  have e_TooMany : mg "TooMany" = some (.ref c_TooMany) ∧ RaiseIn K c_TooMany := ⟨PySem.W.mg_of X G zc_TooMany, er_TooMany⟩
  have i_NoName : mg "NoName" = some (.ref c_NoName) ∧ IsX K (.ref c_NoName) (qOf K (.ref c_NoName)) := ⟨PySem.W.mg_of X G zc_NoName, isX_q rfl⟩
  have fq_NoName_TooMany : (qOf K (.ref c_NoName)) c_TooMany = some false := q_of ei_TooMany kq_NoName_TooMany
  have i_TooMany : mg "TooMany" = some (.ref c_TooMany) ∧ IsX K (.ref c_TooMany) (qOf K (.ref c_TooMany)) := ⟨PySem.W.mg_of X G zc_TooMany, isX_q rfl⟩
  have fq_TooMany_TooMany : (qOf K (.ref c_TooMany)) c_TooMany = some true := q_of ei_TooMany kq_TooMany_TooMany
  have i_NoFit : mg "NoFit" = some (.ref c_NoFit) ∧ IsX K (.ref c_NoFit) (qOf K (.ref c_NoFit)) := ⟨PySem.W.mg_of X G zc_NoFit, isX_q rfl⟩
  have fq_NoFit_TooMany : (qOf K (.ref c_NoFit)) c_TooMany = some false := q_of ei_TooMany kq_NoFit_TooMany
  have i_NoThing : mg "NoThing" = some (.ref c_NoThing) ∧ IsX K (.ref c_NoThing) (qOf K (.ref c_NoThing)) := ⟨PySem.W.mg_of X G zc_NoThing, isX_q rfl⟩
  have fq_NoThing_TooMany : (qOf K (.ref c_NoThing)) c_TooMany = some false := q_of ei_TooMany kq_NoThing_TooMany
  have i_NoneYet : mg "NoneYet" = some (.ref c_NoneYet) ∧ IsX K (.ref c_NoneYet) (qOf K (.ref c_NoneYet)) := ⟨PySem.W.mg_of X G zc_NoneYet, isX_q rfl⟩
  have fq_NoneYet_TooMany : (qOf K (.ref c_NoneYet)) c_TooMany = some false := q_of ei_TooMany kq_NoneYet_TooMany
  have i_NoForm : mg "NoForm" = some (.ref c_NoForm) ∧ IsX K (.ref c_NoForm) (qOf K (.ref c_NoForm)) := ⟨PySem.W.mg_of X G zc_NoForm, isX_q rfl⟩
  have fq_NoForm_TooMany : (qOf K (.ref c_NoForm)) c_TooMany = some false := q_of ei_TooMany kq_NoForm_TooMany
  have i_NoText : mg "NoText" = some (.ref c_NoText) ∧ IsX K (.ref c_NoText) (qOf K (.ref c_NoText)) := ⟨PySem.W.mg_of X G zc_NoText, isX_q rfl⟩
  have fq_NoText_TooMany : (qOf K (.ref c_NoText)) c_TooMany = some false := q_of ei_TooMany kq_NoText_TooMany
  have i_NoAsk : mg "NoAsk" = some (.ref c_NoAsk) ∧ IsX K (.ref c_NoAsk) (qOf K (.ref c_NoAsk)) := ⟨PySem.W.mg_of X G zc_NoAsk, isX_q rfl⟩
  have fq_NoAsk_TooMany : (qOf K (.ref c_NoAsk)) c_TooMany = some false := q_of ei_TooMany kq_NoAsk_TooMany
  have i_ValueError : IsX K (.ty "ValueError") (qOf K (.type "ValueError")) := isX_q rfl
  have fq_ValueError_TooMany : (qOf K (.type "ValueError")) c_TooMany = some true := q_of ei_TooMany kq_ValueError_TooMany
  have t_HalfError : mg "HalfError" = some (.ref c_HalfError) ∧ ∀ C ∈ ([c_TooMany] : List Addr), PySem.W.exmOne K (.ref C) (.ref c_HalfError) = some true := ⟨PySem.W.mg_of X G zc_HalfError, fun C hC => by
    simp only [List.mem_cons, List.not_mem_nil, or_false] at hC
    rcases hC with rfl
    · exact exm_of ks_HalfError kc_HalfError ky_HalfError kt_HalfError_TooMany⟩
  refine ⟨PySem.W.fnOf "law" "law" (defArgs (top 23)) (defBody (top 23)) (defScope (top 23)) .none kV11 dc11 pm11 an11 cd11 ct11, fun s v => .of_eq rfl, fun base _ _ => ?_⟩
  have D_one_thing_more : Df l.prog w K mg base 1 "one_thing_more" ["sort", "most"] (spM K (mi_one_thing_more)) := ⟨_, _, ok_one_thing_more F1 m_max m_min m_range, b1, k1, g1⟩
  have D_all_sorts : DfX l.prog w K mg base 2 "all_sorts" ["many", "most"] (spX K (mi_all_sorts mi_one_thing_more (.int 7) c_TooMany)) := ⟨_, _, ok_all_sorts F2 (D_one_thing_more) (by omega) g_MOST_THINGS e_TooMany m_range, b2, k2, g2⟩
  have D_law_pot : Df l.prog w K mg base 1 "_law_pot" ["cell"] (spM K (mi_law_pot)) := ⟨_, _, ok_law_pot F3 m_max, b3, k3, g3⟩
  have D_law_take : Df l.prog w K mg base 1 "_law_take" ["pot", "many"] (spM K (mi_law_take)) := ⟨_, _, ok_law_take F4, b4, k4, g4⟩
  have D_law_flags : DfU l.prog w K mg base 1 "_law_flags" ["e"] (spM K (mi_law_flags (qOf K (.ref c_NoName)) (qOf K (.ref c_TooMany)) (qOf K (.ref c_NoFit)) (qOf K (.ref c_NoThing)) (qOf K (.ref c_NoneYet)) (qOf K (.ref c_NoForm)) (qOf K (.ref c_NoText)) (qOf K (.ref c_NoAsk)) (qOf K (.type "ValueError")))) := ⟨_, _, ok_law_flags F5 i_NoName i_TooMany i_NoFit i_NoThing i_NoneYet i_NoForm i_NoText i_NoAsk i_ValueError m_isinstance m_ValueError, b5, k5, g5⟩
  have D_law_due_flags : Df l.prog w K mg base 1 "_law_due_flags" ["at"] (spM K (mi_law_due_flags)) := ⟨_, _, ok_law_due_flags F6 m_range, b6, k6, g6⟩
  have D_law_many : Df l.prog w K mg base 1 "_law_many" ["things", "kinds"] (spM K (mi_law_many)) := ⟨_, _, ok_law_many F7 m_range m_len m_max m_sum, b7, k7, g7⟩
  have D_law_is_sorts : Df l.prog w K mg base 1 "_law_is_sorts" ["sorts"] (spM K (mi_law_is_sorts)) := ⟨_, _, ok_law_is_sorts F8 m_isinstance m_list m_int m_bool m_len m_range m_set, b8, k8, g8⟩
  have D_law_right : Df l.prog w K mg base 3 "_law_right" ["things", "kinds"] (spM K (fR c_TooMany)) := ⟨_, _, ok_law_right F9 (Df.dn (D_all_sorts)) (by omega) (D_law_many) (by omega) (D_law_is_sorts) (by omega) m_range m_isinstance m_list m_len m_set m_max, b9, k9, g9⟩
  have D_law_refused : Df l.prog w K mg base 3 "_law_refused" ["things", "kinds"] (spM K (fN (mi_law_flags (qOf K (.ref c_NoName)) (qOf K (.ref c_TooMany)) (qOf K (.ref c_NoFit)) (qOf K (.ref c_NoThing)) (qOf K (.ref c_NoneYet)) (qOf K (.ref c_NoForm)) (qOf K (.ref c_NoText)) (qOf K (.ref c_NoAsk)) (qOf K (.type "ValueError"))) c_TooMany [c_TooMany])) := ⟨_, _, ok_law_refused F10 (D_law_due_flags) (by omega) (D_law_flags) (by omega) (D_all_sorts) (by omega) t_HalfError, b10, k10, g10⟩
  exact law_of (ok_law F11 (D_law_pot) (by omega) (D_law_take) (by omega) (D_law_right) (by omega) (D_law_refused) (by omega)) (run_law (C := c_TooMany) (cs := [c_TooMany]) (f := mi_law_flags (qOf K (.ref c_NoName)) (qOf K (.ref c_TooMany)) (qOf K (.ref c_NoFit)) (qOf K (.ref c_NoThing)) (qOf K (.ref c_NoneYet)) (qOf K (.ref c_NoForm)) (qOf K (.ref c_NoText)) (qOf K (.ref c_NoAsk)) (qOf K (.type "ValueError"))) (by simp) fun μ e hk => run_flags ⟨fq_NoName_TooMany, fq_TooMany_TooMany, fq_NoFit_TooMany, fq_NoThing_TooMany, fq_NoneYet_TooMany, fq_NoForm_TooMany, fq_NoText_TooMany, fq_NoAsk_TooMany, fq_ValueError_TooMany⟩ hk)
theorem walk {l : PySem.W.OpenLaw} {q : Program} {loose : List Str} {XP : (Str → Option Value) → Heap → Prop} {YP : World → Heap → Prop} {d : DefRec} {K : Params → PySem.W.Frag} (hn : l.most = some 63) (hdf : d.params.defaults = [])
    (hY : ∀ (w : World) (h : Heap), YP w h → (K w.params).In h)
    (F : ∀ (w : World) (mg : Str → Option Value) (fa : Addr) (h : Heap), (K w.params).In h → h.Ns mainGlobals mg → mg d.name = some (.ref fa) →
      ∃ fd : FuncData, (∀ (s : Shared) (u : Value), BindsTo s fd ⟨[u], []⟩ [("script", u)]) ∧ ∀ base : Heap, (K w.params).In base → base.Ns mainGlobals mg → FnOk l.prog w (K w.params) mg base CX0 4 fa fd ["script"] (spLaw (K w.params))) :
    PySem.W.WalkO q loose XP YP l.row.toRowW d [] (fun f vs => PySem.call f vs) :=
  L2.walk_of (n := 63) (k := 4) (x := "script") (CX := fun _ => CX0) (sp := fun w => spLaw (K w.params)) hn (by decide) hdf ⟨rfl, by decide, by decide⟩ hY F (fun _ _ a ns hl hO hS => ⟨a, ns, rfl, hO, hS, hl, fun _ => rfl⟩) fun _ _ _ _ _ z => z
end Law
open PySem PySem.W PyProof.Rows
set_option maxRecDepth 100000 in
set_option maxHeartbeats 0 in
theorem PySem.Challenge.cw_morethanhalf_k04_all_sorts_holds : PySem.Challenge.rw_morethanhalf_k04_all_sorts.Holds := by
  w_on; o_law; k_head; (case hw => w_witness2)
  k_fill
  refine Law.walk (l := PySem.Challenge.rw_morethanhalf_k04_all_sorts) rfl rfl (fun w h Y => PySem.W.kIn_of Y) ?F
  case F =>
    intro w mg fa h KX G hmg
    refine' Law.all_mk KX G hmg ?a1 ?l1 ?c1 ?k1 ?a2 ?l2 ?c2 ?k2 ?a3 ?l3 ?c3 ?k3 ?a4 ?l4 ?c4 ?k4 ?a5 ?l5 ?c5 ?k5 ?a6 ?l6 ?c6 ?k6 ?a7 ?l7 ?c7 ?k7 ?a8 ?l8 ?c8 ?k8 ?a9 ?l9 ?c9 ?k9 ?a10 ?l10 ?c10 ?k10 ?a11 ?l11 ?c11 ?k11 ?z_MOST_THINGS ?z_max ?z_min ?z_range ?z_isinstance ?z_ValueError ?z_len ?z_sum ?z_list ?z_int ?z_bool ?z_set ?zc_TooMany ?zc_NoName ?zc_NoFit ?zc_NoThing ?zc_NoneYet ?zc_NoForm ?zc_NoText ?zc_NoAsk ?zc_HalfError ?ks_HalfError ?kc_HalfError ?ky_HalfError ?er_TooMany ?xhga_TooMany ?xhgn_TooMany ?xhmB_TooMany ?xha_TooMany ?xhn_TooMany ?xhtk_TooMany ?xhm_TooMany ?xcls_TooMany ?kq_NoName_TooMany ?kq_TooMany_TooMany ?kq_NoFit_TooMany ?kq_NoThing_TooMany ?kq_NoneYet_TooMany ?kq_NoForm_TooMany ?kq_NoText_TooMany ?kq_NoAsk_TooMany ?kq_ValueError_TooMany ?kt_HalfError_TooMany
    (case zc_TooMany => k_is)
    (case zc_NoName => k_is)
    (case zc_NoFit => k_is)
    (case zc_NoThing => k_is)
    (case zc_NoneYet => k_is)
    (case zc_NoForm => k_is)
    (case zc_NoText => k_is)
    (case zc_NoAsk => k_is)
    (case zc_HalfError => k_is)
    (case a1 => k_is)
    (case l1 => k_is)
    (case c1 => k_is)
    (case k1 => k_is)
    (case a2 => k_is)
    (case l2 => k_is)
    (case c2 => k_is)
    (case k2 => k_is)
    (case a3 => k_is)
    (case l3 => k_is)
    (case c3 => k_is)
    (case k3 => k_is)
    (case a4 => k_is)
    (case l4 => k_is)
    (case c4 => k_is)
    (case k4 => k_is)
    (case a5 => k_is)
    (case l5 => k_is)
    (case c5 => k_is)
    (case k5 => k_is)
    (case a6 => k_is)
    (case l6 => k_is)
    (case c6 => k_is)
    (case k6 => k_is)
    (case a7 => k_is)
    (case l7 => k_is)
    (case c7 => k_is)
    (case k7 => k_is)
    (case a8 => k_is)
    (case l8 => k_is)
    (case c8 => k_is)
    (case k8 => k_is)
    (case a9 => k_is)
    (case l9 => k_is)
    (case c9 => k_is)
    (case k9 => k_is)
    (case a10 => k_is)
    (case l10 => k_is)
    (case c10 => k_is)
    (case k10 => k_is)
    (case a11 => k_is)
    (case l11 => k_is)
    (case c11 => k_is)
    (case k11 => k_is)
    (case z_MOST_THINGS => k_is)
    (case z_max => k_is)
    (case z_min => k_is)
    (case z_range => k_is)
    (case z_isinstance => k_is)
    (case z_ValueError => k_is)
    (case z_len => k_is)
    (case z_sum => k_is)
    (case z_list => k_is)
    (case z_int => k_is)
    (case z_bool => k_is)
    (case z_set => k_is)
    (case ks_HalfError => k_is)
    (case kc_HalfError => k_is)
    (case ky_HalfError => k_is)
    (case er_TooMany => kernel_rfl)
    (case xhga_TooMany => k_is)
    (case xhgn_TooMany => k_is)
    (case xhmB_TooMany => k_is)
    (case xha_TooMany => k_is)
    (case xhn_TooMany => k_is)
    (case xhtk_TooMany => k_is)
    (case xhm_TooMany => k_is)
    (case xcls_TooMany => k_is)
    (case kq_NoName_TooMany => kit_is)
    (case kq_TooMany_TooMany => kit_is)
    (case kq_NoFit_TooMany => kit_is)
    (case kq_NoThing_TooMany => kit_is)
    (case kq_NoneYet_TooMany => kit_is)
    (case kq_NoForm_TooMany => kit_is)
    (case kq_NoText_TooMany => kit_is)
    (case kq_NoAsk_TooMany => kit_is)
    (case kq_ValueError_TooMany => kit_is)
    (case kt_HalfError_TooMany => k_is)
