import PyProof.Rows.All
import Wide.All
import OpenK.AllK
import Wide.FinOn
import Lean
import PyProof.EqAt
import PyProof.EqKinds
import PyProof.TupleCall
import PyProof.NsDelKeeps
import KE.KTryMore
import OpenK.KOwn
import PyProof.ExcBaseAll.ValueError
import PyProof.Rows.CountFlat
import PyProof.Rows.SeqMore2
import PyProof.SumWalkG
import PyProof.FitsBits
import PyProof.Rows.IntMath
import PySem.Challenge.RW_morethanhalf_k44_keepers_refuse
set_option Elab.async false
set_option linter.all false
set_option maxRecDepth 100000
namespace L2
open PySem PySem.Spec PyProof.Rows
abbrev Key := Sum Int Str
def keyIs : Key → Value → Bool
  | .inl k, v => Value.isInt k v
  | .inr x, v => Value.isStrOf x v
def keyH (w : World) : Key → Int
  | .inl k => hashInt k
  | .inr x => hashStr w x
theorem keyIs_shape : ∀ {k : Key} {v : Value}, keyIs k v = true → (∃ i t, k = Sum.inl i ∧ v = Value.int i t) ∨ (∃ x t, k = Sum.inr x ∧ v = Value.str x t)
  | .inl i, v, h => by
    obtain ⟨t, e⟩ := Value.isInt_shape (k := i) (v := v) h
    exact .inl ⟨i, t, rfl, e⟩
  | .inr x, v, h => by
    obtain ⟨t, e⟩ := Value.isStrOf_shape (x := x) (v := v) h
    exact .inr ⟨x, t, rfl, e⟩
theorem key_ll (a b : Int) : decide ((Sum.inl a : Key) = Sum.inl b) = (a == b) := by
  by_cases e : a = b
  · subst e; simp
  · have h : ¬ (Sum.inl a : Key) = Sum.inl b := fun q => e (Sum.inl.inj q)
    rw [decide_eq_false h]
    exact (beq_eq_false_iff_ne.mpr e).symm
theorem key_rr (a b : Str) : decide ((Sum.inr a : Key) = Sum.inr b) = decide (a = b) := by
  by_cases e : a = b
  · subst e; simp
  · have h : ¬ (Sum.inr a : Key) = Sum.inr b := fun q => e (Sum.inr.inj q)
    rw [decide_eq_false h, decide_eq_false e]
theorem key_lr (a : Int) (b : Str) : decide ((Sum.inl a : Key) = Sum.inr b) = false := decide_eq_false (fun q => nomatch q)
theorem key_rl (a : Str) (b : Int) : decide ((Sum.inr a : Key) = Sum.inl b) = false := decide_eq_false (fun q => nomatch q)
def mixKind (prog : Program) (w : World) : PySem.KeyKind prog w Key where
  is := keyIs
  hash := keyH w
  inj := fun v a b ha hb => by
    rcases keyIs_shape ha with ⟨i, t, rfl, rfl⟩ | ⟨x, t, rfl, rfl⟩
    · rcases keyIs_shape hb with ⟨j, u, rfl, e⟩ | ⟨y, u, rfl, e⟩
      · injection e with e1 _; rw [e1]
      · exact nomatch e
    · rcases keyIs_shape hb with ⟨j, u, rfl, e⟩ | ⟨y, u, rfl, e⟩
      · exact nomatch e
      · injection e with e1 _; rw [e1]
  byValue := fun k v h => by
    rcases keyIs_shape h with ⟨i, t, rfl, rfl⟩ | ⟨x, t, rfl, rfl⟩ <;> rfl
  pyHash := fun hv h => by
    rcases keyIs_shape hv with ⟨i, t, rfl, rfl⟩ | ⟨x, t, rfl, rfl⟩
    · exact wpAny_pyHash_int h
    · exact wpAny_pyHash_str h
  eqBool := fun hu hv h => by
    rcases keyIs_shape hu with ⟨i, t, rfl, rfl⟩ | ⟨x, t, rfl, rfl⟩
    · rcases keyIs_shape hv with ⟨j, u, rfl, rfl⟩ | ⟨y, u, rfl, rfl⟩
      · rw [key_ll] at h; exact wpAny_eqBool_int h
      · rw [key_lr] at h; exact SeqAt.EqAt.int_str i t y u _ _ _ _ h
    · rcases keyIs_shape hv with ⟨j, u, rfl, rfl⟩ | ⟨y, u, rfl, rfl⟩
      · rw [key_rl] at h; exact SeqAt.EqAt.str_int x t j u _ _ _ _ h
      · rw [key_rr] at h; exact wpAny_eqBool_str h
  «strs» := fun k x t v h => by
    rcases keyIs_shape h with ⟨i, u, rfl, e⟩ | ⟨y, u, rfl, e⟩
    · exact nomatch e
    · injection e with e1 _
      subst e1
      cases v <;> rfl
end L2
namespace L2
open PySem PySem.Spec PyProof.Rows
inductive V where
  | non | bl (b : Bool) | int (i : Int) | str (x : Str) | byt (b : Array UInt8) | flt (b : UInt64) | ref (a : Addr) | ty (n : String)
  deriving DecidableEq
def RelV : V → Value → Prop
  | .non, u => u = Value.none
  | .bl b, u => u = Value.bool b
  | .int i, u => ∃ t, u = Value.int i t
  | .str x, u => ∃ t, u = Value.str x t
  | .byt b, u => ∃ t, u = Value.bytes b t
  | .flt b, u => ∃ t, u = Value.float b t
  | .ref a, u => u = Value.ref a
  | .ty n, u => u = Value.type n
abbrev Vals : List V → List Value → Prop := Paired RelV
theorem Vals.length {xs : List V} {us : List Value} (r : Vals xs us) : xs.length = us.length := Paired.length r
theorem Vals.get : ∀ {xs : List V} {us : List Value} {i : Nat} {x : V}, Vals xs us → xs[i]? = some x → ∃ u, us[i]? = some u ∧ RelV x u
  | _, _, _, _, .nil, e => by simp at e
  | _, _, 0, _, .cons r _, e => by simp at e; subst e; exact ⟨_, rfl, r⟩
  | _, _, i + 1, x, .cons _ t, e => by
    obtain ⟨u, h1, h2⟩ := Vals.get (i := i) (x := x) t (by simpa using e)
    exact ⟨u, by simpa using h1, h2⟩
theorem Vals.set {x : V} {u : Value} (r : RelV x u) : ∀ {xs : List V} {us : List Value} (i : Nat), Vals xs us → Vals (xs.set i x) (us.set i u)
  | _, _, _, .nil => .nil
  | _, _, 0, .cons _ t => .cons r t
  | _, _, i + 1, .cons q t => .cons q (Vals.set r i t)
theorem Vals.append : ∀ {xs ys : List V} {us ws : List Value}, Vals xs us → Vals ys ws → Vals (xs ++ ys) (us ++ ws)
  | _, _, _, _, .nil, s => s
  | _, _, _, _, .cons r t, s => .cons r (Vals.append t s)
theorem Vals.take : ∀ {xs : List V} {us : List Value} (n : Nat), Vals xs us → Vals (xs.take n) (us.take n)
  | _, _, 0, _ => .nil
  | _, _, _ + 1, .nil => .nil
  | _, _, n + 1, .cons r t => .cons r (Vals.take n t)
theorem Vals.drop : ∀ {xs : List V} {us : List Value} (n : Nat), Vals xs us → Vals (xs.drop n) (us.drop n)
  | _, _, 0, r => r
  | _, _, _ + 1, .nil => .nil
  | _, _, n + 1, .cons _ t => Vals.drop n t
theorem Vals.none_of : ∀ {xs : List V} {us : List Value} {i : Nat}, Vals xs us → xs[i]? = none → us[i]? = none := fun {xs us i} r e => by
  have h1 := r.length
  have h2 : xs.length ≤ i := List.getElem?_eq_none_iff.mp e
  exact List.getElem?_eq_none_iff.mpr (by omega)
def RelO : Option V → Option Value → Prop
  | some v, some u => RelV v u
  | none, none => True
  | _, _ => False
def KV {κ : Type} : List (κ × V) → List (κ × Value) → Prop := Paired fun (p : κ × V) (q : κ × Value) => p.1 = q.1 ∧ RelV p.2 q.2
def kV : Key → V
  | .inl i => .int i
  | .inr x => .str x
inductive HO where
  | lst (xs : List V)
  | tup (xs : List V)
  | dK (kvs : List (Key × V)) | dT (kvs : List (List Key × V))
  | set (S : Int → Bool) (n : Nat)
  | ins (C dx : Addr) (fs : List (Str × V))
  | own (x : Addr)
  | xd (fs : List (Str × V))
  | met (f x : Addr)
  | rng (lo hi : Int)
  | frz (o : Obj) (u : HO)
  | tbl (ps : Array Value)
  | ext (φ : Heap → Prop)
abbrev Hp := Addr → Option HO
def upd (H : Hp) (a : Addr) (o : HO) : Hp := fun b => if b = a then some o else H b
theorem upd_same {H : Hp} {a : Addr} {o : HO} : upd H a o a = some o := by unfold upd; rw [if_pos rfl]
theorem upd_ne {H : Hp} {a b : Addr} {o : HO} (h : b ≠ a) : upd H a o b = H b := by unfold upd; rw [if_neg h]
theorem ne_of {H : Hp} {a b : Addr} {o u : HO} (h : H a = some o) (h' : H b = some u) (d : o ≠ u) : a ≠ b := by
  intro e; subst e; rw [h] at h'; exact d (Option.some.inj h')
theorem ne_of_none {H : Hp} {a b : Addr} {o : HO} (h : H a = some o) (h' : H b = none) : a ≠ b := by
  intro e; subst e; rw [h] at h'; cases h'
section
variable (P : Program) (w : World)
def ObjOk (H : Hp) (h : Heap) (a : Addr) : HO → Prop
  | .lst xs => xs.length ≤ sizeLine ∧ ∃ (its : List Value) (n : Nat), Vals xs its ∧ h.get? a = some { cls := .type "list", data := .seq its.toArray n }
  | .tup xs => xs.length ≤ sizeLine ∧ ∃ its : List Value, Vals xs its ∧ IsTup h a its.toArray
  | .dK kvs => kvs.length ≤ sizeLine ∧ (a == sysModules) = false ∧ ∃ vs, KV kvs vs ∧ h.DictOf (mixKind P w) a vs
  | .dT kvs => kvs.length ≤ sizeLine ∧ (a == sysModules) = false ∧ ∃ xs : List (List Key × Addr × Value),
      Paired (fun (p : List Key × V) (q : List Key × Addr × Value) => p.1 = q.1 ∧ H q.2.1 = some (.tup (p.1.map kV)) ∧ RelV p.2 q.2.2) kvs xs ∧
      ∃ o es ep, h.get? a = some o ∧ o.ExactDict ∧ o.data = .dict es ep ∧ es.toList = xs.map (entryOfKey (tupleKind (mixKind P w))) ∧ (xs.map (·.1)).Nodup
  | .set S n => h.SetOf (intKind P w) a S n
  | .ins C dx fs => H dx = some (.own a) ∧ fs.length ≤ 1000 ∧ dx ≠ a ∧ h.get? a = some (PySem.W.instObj C dx) ∧
      ∃ mA, h.Ns1 dx mA ∧ (∀ f, RelO (fs.lookup f) (mA f)) ∧ PySem.Within mA (fs.map (·.1))
  | .own _ => ∃ o, h.get? a = some o
  | .xd fs => ∃ mA, h.Ns1 a mA ∧ ∀ f, RelO (fs.lookup f) (mA f)
  | .rng lo hi => ∃ t u v, h.get? a = some { cls := .type "range", data := .fields #[.int lo t, .int hi u, .int 1 v] }
  | .frz o u => h.get? a = some o ∧ ObjOk H h a u
  | .tbl ps => h.get? a = some { cls := .none, data := .fields ps }
  | .met f x => h.get? a = some (PySem.W.methodObj (.ref f) (.ref x))
  | .ext φ => φ h ∧ (∃ o, h.get? a = some o) ∧ ∀ h1 h2 : Heap, φ h1 → (∀ o, h1.get? a = some o → h2.get? a = some o) → φ h2
def HOk (H : Hp) (h : Heap) : Prop := ∀ a o, H a = some o → ObjOk P w H h a o
end
section
variable {P : Program} {w : World} {H H' : Hp} {h h' : Heap} {a : Addr} {o : HO}
theorem ObjOk.lt (x : ObjOk P w H h a o) : a < h.objs.size := by
  cases o with
  | lst xs => obtain ⟨_, _, _, _, e⟩ := x; exact Heap.lt_size e
  | tup xs => obtain ⟨_, _, _, p⟩ := x; exact p.lt
  | dK kvs => obtain ⟨_, _, _, _, o, _, _, e, _⟩ := x; exact Heap.lt_size e
  | dT kvs => obtain ⟨_, _, _, _, o, _, _, e, _⟩ := x; exact Heap.lt_size e
  | set S n => obtain ⟨o, _, _, _, e, _⟩ := x; exact Heap.lt_size e
  | ins C dx fs => obtain ⟨_, _, _, e, _⟩ := x; exact Heap.lt_size e
  | own y => obtain ⟨_, e⟩ := x; exact Heap.lt_size e
  | xd fs => obtain ⟨_, ⟨_, _, _, e, _⟩, _⟩ := x; exact Heap.lt_size e
  | rng lo hi => obtain ⟨_, _, _, e⟩ := x; exact Heap.lt_size e
  | frz ob u => obtain ⟨e, _⟩ := x; exact Heap.lt_size e
  | tbl ps => exact Heap.lt_size (show h.get? a = some _ from x)
  | met f y => exact Heap.lt_size (show h.get? a = some _ from x)
  | ext φ => obtain ⟨_, ⟨_, e⟩, _⟩ := x; exact Heap.lt_size e
theorem Paired.mapP {α β : Type} {F G : α → β → Prop} : ∀ {l₁ : List α} {l₂ : List β}, Paired F l₁ l₂ → (∀ a b, F a b → G a b) → Paired G l₁ l₂
  | _, _, .nil, _ => .nil
  | _, _, .cons r t, f => .cons (f _ _ r) (Paired.mapP t f)
theorem ObjOk.stay (x : ObjOk P w H h a o) (k : ∀ b u, (b = a ∨ H b = some (.own a)) → h.get? b = some u → h'.get? b = some u)
    (ho : ∀ b, H b = some (.own a) → H' b = some (.own a)) (ht : ∀ b xs, H b = some (.tup xs) → H' b = some (.tup xs)) : ObjOk P w H' h' a o := by
  induction o with
  | lst xs => obtain ⟨z, its, n, r, e⟩ := x; exact ⟨z, its, n, r, k _ _ (.inl rfl) e⟩
  | tup xs => obtain ⟨z, its, r, ob, e, c⟩ := x; exact ⟨z, its, r, ob, k _ _ (.inl rfl) e, c⟩
  | dK kvs => obtain ⟨z, y, vs, r, ob, es, ep, e, c⟩ := x; exact ⟨z, y, vs, r, ob, es, ep, k _ _ (.inl rfl) e, c⟩
  | dT kvs =>
    obtain ⟨z, y, xs, r, ob, es, ep, e, c⟩ := x
    exact ⟨z, y, xs, Paired.mapP r fun p q z => ⟨z.1, ht _ _ z.2.1, z.2.2⟩, ob, es, ep, k _ _ (.inl rfl) e, c⟩
  | set S n => obtain ⟨ob, es, ep, t, e, c⟩ := x; exact ⟨ob, es, ep, t, k _ _ (.inl rfl) e, c⟩
  | ins C dx fs =>
    obtain ⟨d, z, ne, e, mA, ⟨od, es, ep, e2, c⟩, r⟩ := x
    exact ⟨ho _ d, z, ne, k _ _ (.inl rfl) e, mA, ⟨od, es, ep, k _ _ (.inr d) e2, c⟩, r⟩
  | own y => obtain ⟨ob, e⟩ := x; exact ⟨ob, k _ _ (.inl rfl) e⟩
  | xd fs => obtain ⟨mA, ⟨od, es, ep, e, c⟩, r⟩ := x; exact ⟨mA, ⟨od, es, ep, k _ _ (.inl rfl) e, c⟩, r⟩
  | rng lo hi => obtain ⟨t, u, v, e⟩ := x; exact ⟨t, u, v, k _ _ (.inl rfl) e⟩
  | frz ob u ih => obtain ⟨e, q⟩ := x; exact ⟨k _ _ (.inl rfl) e, ih q⟩
  | tbl ps =>
    have e : h.get? a = some { cls := .none, data := .fields ps } := x
    show h'.get? a = some { cls := .none, data := .fields ps }
    exact k a _ (.inl rfl) e
  | met f y =>
    have e : h.get? a = some (PySem.W.methodObj (.ref f) (.ref y)) := x
    show h'.get? a = some (PySem.W.methodObj (.ref f) (.ref y))
    exact k a _ (.inl rfl) e
  | ext φ => obtain ⟨p, ⟨o, e⟩, st⟩ := x; exact ⟨st _ _ p fun o q => k _ _ (.inl rfl) q, ⟨o, k _ _ (.inl rfl) e⟩, st⟩
theorem HOk.lt (x : HOk P w H h) (e : H a = some o) : a < h.objs.size := (x a o e).lt
theorem HOk.fresh (x : HOk P w H h) (e : h.objs.size ≤ a) : H a = none := by
  cases q : H a with
  | none => rfl
  | some u => exact absurd (Nat.lt_of_lt_of_le (x.lt q) e) (Nat.lt_irrefl _)
theorem HOk.kept (x : HOk P w H h) (k : ∀ b u, h.get? b = some u → h'.get? b = some u) : HOk P w H h' := fun a o e =>
  (x a o e).stay (fun b u _ q => k b u q) (fun _ q => q) fun _ _ q => q
theorem HOk.laid (x : HOk P w H h) (k : ∀ b u, h.get? b = some u → h'.get? b = some u) (hp : h.objs.size ≤ a) (new : ObjOk P w (upd H a o) h' a o) : HOk P w (upd H a o) h' := fun b u e => by
  have hn := x.fresh hp
  by_cases hb : b = a
  · subst hb; rw [upd_same] at e; cases e; exact new
  · rw [upd_ne hb] at e
    exact (x b u e).stay (fun c v _ q => k c v q) (fun c q => by rw [upd_ne (ne_of_none q hn)]; exact q) fun c xs q => by rw [upd_ne (ne_of_none q hn)]; exact q
end
def Rd (H : Hp) (a : Addr) (u : HO) : Prop := H a = some u ∨ ∃ o, H a = some (.frz o u)
theorem Rd.of {H : Hp} {a : Addr} {u : HO} (h : H a = some u) : Rd H a u := .inl h
theorem Rd.ok {P : Program} {w : World} {H : Hp} {h : Heap} {a : Addr} {u : HO} (r : Rd H a u) (x : HOk P w H h) : ObjOk P w H h a u := by
  rcases r with r | ⟨o, r⟩
  · exact x a u r
  · obtain ⟨_, q⟩ := x a _ r
    exact q
def Mut : Option HO → Prop
  | some (.lst _) => True
  | some (.dK _) => True
  | some (.dT _) => True
  | some (.set _ _) => True
  | some (.ins _ _ _) => True
  | some (.ext _) => True
  | _ => False
section
variable {P : Program} {w : World} {H : Hp} {h h' : Heap} {x e : Addr} {o' : HO}
theorem HOk.write (ok : HOk P w H h) (mu : Mut (H x)) (he : e = x ∨ H e = some (.own x)) (k : ∀ b u, b ≠ e → h.get? b = some u → h'.get? b = some u) (heo : ∃ u, h'.get? e = some u)
    (new : ObjOk P w (upd H x o') h' x o') : HOk P w (upd H x o') h' := fun b u q => by
  have nown : ∀ c y, H c = some (.own y) → c ≠ x := fun c y r z => by subst z; rw [r] at mu; exact mu
  have ntup : ∀ c xs, H c = some (.tup xs) → c ≠ x := fun c xs r z => by subst z; rw [r] at mu; exact mu
  by_cases hb : b = x
  · subst hb; rw [upd_same] at q; cases q; exact new
  · rw [upd_ne hb] at q
    by_cases hbe : b = e
    · have q' : H b = some (.own x) := by
        rcases he with z | z
        · exact absurd (hbe.trans z) hb
        · rw [hbe]; exact z
      rw [q] at q'; cases q'
      obtain ⟨v, hv⟩ := heo
      exact ⟨v, by rw [hbe]; exact hv⟩
    · refine (ok b u q).stay (fun c v hc r => k c v ?_ r) (fun c r => by rw [upd_ne (nown c b r)]; exact r) fun c xs r => by rw [upd_ne (ntup c xs r)]; exact r
      rcases hc with rfl | hc
      · exact hbe
      · rintro rfl
        rcases he with z | z
        · exact nown c b hc z
        · rw [hc] at z; cases z; exact hb rfl
end
structure Un (fs ex : List Addr) (H H' : Hp) (h h' : Heap) : Prop where
  keep : ∀ b o, h.get? b = some o → H b = none → b ∉ fs → b ∉ ex → h'.get? b = some o
  slot : ∀ b o, h.get? b = some o → H b = none → b ∈ fs → b ∉ ex → ∃ sl, h'.get? b = some { o with slots := sl }
  free : ∀ b o, h.get? b = some o → H b = none → b ∉ ex → H' b = none
  there : ∀ b o, h.get? b = some o → b ∉ ex → ∃ o', h'.get? b = some o'
  tups : ∀ b xs, H b = some (.tup xs) → H' b = some (.tup xs)
  frzs : ∀ b o u, H b = some (.frz o u) → H' b = some (.frz o u)
  tbls : ∀ b ps, H b = some (.tbl ps) → ∃ more, H' b = some (.tbl (ps ++ more))
section
variable {fs fs' ex ex' : List Addr} {H H1 H2 : Hp} {h h1 h2 h' : Heap} {a x e : Addr} {o : HO}
theorem Un.any (u : Un fs ex H H1 h h1) {b : Addr} {ob : Obj} (q : h.get? b = some ob) (n : H b = none) (hx : b ∉ ex) : ∃ sl, h1.get? b = some { ob with slots := sl } := by
  by_cases hb : b ∈ fs
  · exact u.slot b ob q n hb hx
  · exact ⟨ob.slots, u.keep b ob q n hb hx⟩
theorem Un.trans (a : Un fs ex H H1 h h1) (b : Un fs ex H1 H2 h1 h2) : Un fs ex H H2 h h2 where
  keep := fun c ob q n hc hx => b.keep c ob (a.keep c ob q n hc hx) (a.free c ob q n hx) hc hx
  slot := fun c ob q n hc hx => by
    obtain ⟨sl, e1⟩ := a.slot c ob q n hc hx
    obtain ⟨sl', e2⟩ := b.slot c _ e1 (a.free c ob q n hx) hc hx
    exact ⟨sl', e2⟩
  free := fun c ob q n hx => by
    obtain ⟨o', e1⟩ := a.there c ob q hx
    exact b.free c o' e1 (a.free c ob q n hx) hx
  there := fun c ob q hx => by
    obtain ⟨o', e1⟩ := a.there c ob q hx
    exact b.there c o' e1 hx
  tups := fun c xs q => b.tups c xs (a.tups c xs q)
  frzs := fun c ob xs q => b.frzs c ob xs (a.frzs c ob xs q)
  tbls := fun c ps q => by
    obtain ⟨m1, e1⟩ := a.tbls c ps q
    obtain ⟨m2, e2⟩ := b.tbls c _ e1
    exact ⟨m1 ++ m2, by rw [e2, Array.append_assoc]⟩
theorem Un.kept (k : ∀ b u, h.get? b = some u → h'.get? b = some u) : Un fs ex H H h h' :=
  ⟨fun b ob q _ _ _ => k b ob q, fun b ob q _ _ _ => ⟨ob.slots, k b ob q⟩, fun _ _ _ n _ => n, fun b ob q _ => ⟨ob, k b ob q⟩, fun _ _ q => q, fun _ _ _ q => q, fun _ ps q => ⟨#[], by rw [q]; simp⟩⟩
theorem Un.refl : Un fs ex H H h h := Un.kept fun _ _ q => q
theorem Un.laid (k : ∀ b u, h.get? b = some u → h'.get? b = some u) (hp : h.objs.size ≤ a) (hn : H a = none) : Un fs ex H (upd H a o) h h' where
  keep := fun b u q _ _ _ => k b u q
  slot := fun b u q _ _ _ => ⟨u.slots, k b u q⟩
  free := fun b u q n _ => by rw [upd_ne (Nat.ne_of_lt (Nat.lt_of_lt_of_le (Heap.lt_size q) hp))]; exact n
  there := fun b u q _ => ⟨u, k b u q⟩
  tups := fun b xs q => by rw [upd_ne (ne_of_none q hn)]; exact q
  frzs := fun b u xs q => by rw [upd_ne (ne_of_none q hn)]; exact q
  tbls := fun b ps q => ⟨#[], by rw [upd_ne (ne_of_none q hn), q]; simp⟩
theorem Un.write (mu : Mut (H x)) (he : e = x ∨ H e = some (.own x)) (k : ∀ b u, b ≠ e → h.get? b = some u → h'.get? b = some u) (heo : ∃ u, h'.get? e = some u) : Un fs ex H (upd H x o) h h' := by
  have hx : ∀ b, H b = none → b ≠ x := fun b n z => by subst z; rw [n] at mu; exact mu
  have hb : ∀ b, H b = none → b ≠ e := fun b n z => by
    subst z
    rcases he with r | r
    · exact hx b n r
    · rw [n] at r; cases r
  have hm : ∀ b u, H b = some u → ¬ Mut (some u) → b ≠ x := fun b u q nm z => by subst z; rw [q] at mu; exact nm mu
  refine ⟨fun b u q n _ _ => k b u (hb b n) q, fun b u q n _ _ => ⟨u.slots, k b u (hb b n) q⟩, fun b u q n _ => by rw [upd_ne (hx b n)]; exact n, fun b u q _ => ?_,
    fun b xs q => by rw [upd_ne (hm b _ q fun z => z)]; exact q, fun b u xs q => by rw [upd_ne (hm b _ q fun z => z)]; exact q, fun b ps q => ⟨#[], by rw [upd_ne (hm b _ q fun z => z), q]; simp⟩⟩
  by_cases hbe : b = e
  · subst hbe; exact heo
  · exact ⟨u, k b u hbe q⟩
theorem Un.mono (u : Un fs ex H H1 h h1) (hs : ∀ b ∈ fs, b ∈ fs') (hx : ∀ b ∈ ex, b ∈ ex') : Un fs' ex' H H1 h h1 :=
  ⟨fun b ob q n hb he => u.keep b ob q n (fun z => hb (hs b z)) fun z => he (hx b z), fun _ _ q n _ he => u.any q n fun z => he (hx _ z), fun b ob q n he => u.free b ob q n fun z => he (hx b z), fun b ob q he => u.there b ob q fun z => he (hx b z), u.tups, u.frzs, u.tbls⟩
end
def trk (h : Heap) (H : Hp) : List Addr := (List.range h.objs.size).filter fun a => (H a).isSome
def hidT (h : Heap) (H : Hp) : Heap := PySem.W.hideAll h (trk h H)
theorem hidT_size (h : Heap) (H : Hp) : (hidT h H).objs.size = h.objs.size := PySem.W.hideAll_size _ _
theorem hidT_get {h : Heap} {H : Hp} {b : Addr} {o : Obj} (e : h.get? b = some o) (n : H b = none) : (hidT h H).get? b = some o :=
  PySem.W.hideAll_get _ e fun hm => by
    have q : (H b).isSome = true := (List.mem_filter.mp hm).2
    rw [n] at q; simp at q
theorem of_hidT {h : Heap} {H : Hp} {b : Addr} {o : Obj} (e : (hidT h H).get? b = some o) : h.get? b = some o ∧ H b = none := by
  have e' : h.get? b = some o := PySem.W.of_hideAll (trk h H) e
  refine ⟨e', ?_⟩
  cases q : H b with
  | none => rfl
  | some x =>
    have hm : b ∈ trk h H := List.mem_filter.mpr ⟨List.mem_range.mpr (Heap.lt_size e'), by simp [q]⟩
    have z : (hidT h H).get? b = none := PySem.W.hideAll_none (trk h H) hm
    rw [z] at e; cases e
def allNews (g h : Heap) (L : Addr) : List (Addr × Obj) := (List.range h.objs.size).filterMap fun a => if a = L ∨ (g.get? a).isSome = true then none else (h.get? a).map fun o => (a, o)
def rest (g h : Heap) (L d : Addr) : List (Addr × Obj) := (allNews g h L).filter fun p => decide (p.1 ≠ d)
end L2
namespace L2
open PySem PySem.Spec PyProof.Rows
structure Mod (K : PySem.W.Frag) (mg : Str → Option Value) (base : Heap) : Prop where
  kin : K.In base
  glob : base.Ns mainGlobals mg
  blt : ∃ mb, base.Ns builtinsNs mb ∧ ∀ x : Str, x ≠ "__name__" → mb x = bootBuiltins x
  nolimit : base.NoLimit
structure Cx where
  prog : Program
  w : World
  K : PySem.W.Frag
  mg : Str → Option Value
  base : Heap
  A : Around
  N : List Str
  s₀ : Shared
  H₀ : Hp
  env : Env
  outer : List Env
  stack : List Env
  ex : List Addr
  fn : Str → Bool
  calm : Bool
  pn : List (Addr × Obj)
  xe : Value → Shared → Prop
def frs (l : List Env) : List Addr := l.filterMap (·.frame)
abbrev Cx.fs (X : Cx) : List Addr := frs X.outer
def Vis (sc : Scope) (x : Str) : Prop := sc.names.lookup x = some .local ∨ sc.names.lookup x = some .cell ∨ sc.names.lookup x = some .free
def Loc (sc : Scope) (x : Str) : Prop := sc.names.lookup x = some .local ∨ sc.names.lookup x = some .cell
def Look (env : Env) (h : Heap) (m : Str → Option Value) (x : Str) (u : Value) : Prop :=
  (env.kindOf x = some .local ∧ m x = some u) ∨ ((env.kindOf x = some .cell ∨ env.kindOf x = some .free) ∧ ∃ c, env.cells.lookup x = some c ∧ h.IsCell c (some u))
structure Cx.Ok (X : Cx) : Prop where
  mod : Mod X.K X.mg X.base
  kind : X.env.scope.kind = .function
  glob : X.env.globals = mainGlobals
  blt : X.env.builtins = builtinsNs
  above : X.s₀.heap.objs.size ≤ X.env.locals
  inj : ∀ x y c, X.env.cells.lookup x = some c → X.env.cells.lookup y = some c → x = y
  has : ∀ x, (X.env.kindOf x = some .cell ∨ X.env.kindOf x = some .free) → ∃ c, X.env.cells.lookup x = some c
  cab : ∀ x c, X.fn x = true → X.env.cells.lookup x = some c → X.s₀.heap.objs.size ≤ c
  hd : X.calm = true → X.A.handled = none
  frames : X.A.frames = some X.stack
  stk : X.stack = X.outer ∨ (X.stack = X.env :: X.outer ∧ X.env.frame = some X.env.locals)
  exf : ∀ b ∈ X.ex, b ≠ X.env.locals ∧ ∀ x c, X.env.cells.lookup x = some c → c ≠ b
  bs : ∀ b o, X.base.get? b = some o → X.s₀.heap.get? b = some o ∧ X.H₀ b = none
  bsz : X.base.objs.size ≤ X.s₀.heap.objs.size
  noex : ∀ b o, X.base.get? b = some o → b ∉ X.ex
  exfs : ∀ b ∈ X.ex, b ∉ X.fs
  funs : X.s₀.heap.FunFrames X.base X.outer
  frf : ∀ b ∈ X.fs, X.H₀ b = none
structure Inv (X : Cx) (pins : List (Addr × Obj)) (σ : List (Option V)) (H : Hp) (s : Shared) : Prop where
  ok : X.Ok
  os : s.os = X.s₀.os
  bare : AllBare s.gens
  base : Un X.fs X.ex X.H₀ H X.s₀.heap s.heap
  loc : ∃ m, s.heap.Ns X.env.locals m ∧ ∀ (i : Nat) (x : Str) (v : V), X.N[i]? = some x → σ[i]? = some (some v) → Vis X.env.scope x → ∃ u, RelV v u ∧ Look X.env s.heap m x u
  cell : ∀ x c, X.env.cells.lookup x = some c → ∃ v, s.heap.IsCell c v
  free : H X.env.locals = none
  freeC : ∀ x c, X.env.cells.lookup x = some c → H c = none
  pin : ∀ p ∈ X.pn ++ pins, s.heap.get? p.1 = some p.2 ∧ H p.1 = none ∧ p.1 ≠ X.env.locals ∧ p.1 ∉ X.fs ∧ ∀ v, p.2.data ≠ .cell v
  hok : HOk X.prog X.w H s.heap
  len : σ.length = X.N.length
section
variable {X : Cx} {pins : List (Addr × Obj)} {σ : List (Option V)} {H H' : Hp} {s : Shared} {h' : Heap}
theorem Cx.Ok.nofr (ok : X.Ok) {b : Addr} {o : Obj} (e : X.base.get? b = some o) : b ∉ X.fs := fun hb => by
  have := (ok.funs.mem hb).1
  rw [e] at this; cases this
theorem Inv.bs (I : Inv X pins σ H s) : ∀ b o, X.base.get? b = some o → s.heap.get? b = some o ∧ H b = none := fun b o e =>
  ⟨I.base.keep b o (I.ok.bs b o e).1 (I.ok.bs b o e).2 (I.ok.nofr e) (I.ok.noex b o e), I.base.free b o (I.ok.bs b o e).1 (I.ok.bs b o e).2 (I.ok.noex b o e)⟩
theorem Inv.bk (I : Inv X pins σ H s) : ∀ b o, X.base.get? b = some o → s.heap.get? b = some o := fun b o e => (I.bs b o e).1
theorem Inv.mod (I : Inv X pins σ H s) : Mod X.K X.mg X.base := I.ok.mod
theorem Inv.kIn (I : Inv X pins σ H s) : X.K.In s.heap := I.ok.mod.kin.keeps I.bk
theorem Inv.nolimit (I : Inv X pins σ H s) : s.heap.NoLimit := I.ok.mod.nolimit.keeps I.bk
theorem Inv.fr (I : Inv X pins σ H s) : ∃ m, Fr X.base X.env.locals s.heap m :=
  let ⟨m, hn, _⟩ := I.loc
  ⟨m, hn, I.bk, Nat.le_trans I.ok.bsz I.ok.above⟩
theorem Inv.lt (I : Inv X pins σ H s) : X.env.locals < s.heap.objs.size := let ⟨_, hn, _⟩ := I.loc; hn.lt
theorem Inv.sz (I : Inv X pins σ H s) : X.s₀.heap.objs.size ≤ s.heap.objs.size := Nat.le_trans I.ok.above (Nat.le_of_lt I.lt)
theorem Inv.nofs (I : Inv X pins σ H s) {a : Addr} (h : s.heap.objs.size ≤ a) : a ∉ X.fs := fun hb => by
  obtain ⟨_, o, ho, _⟩ := I.ok.funs.mem hb
  exact absurd (Nat.lt_of_lt_of_le (Heap.lt_size ho) (Nat.le_trans I.sz h)) (Nat.lt_irrefl _)
theorem Inv.cne (I : Inv X pins σ H s) : ∀ x c, X.env.cells.lookup x = some c → c ≠ X.env.locals := fun x c e z => by
  obtain ⟨v, o, ho, hd⟩ := I.cell x c e
  obtain ⟨m, ⟨o', es, ep, ho', hd', _⟩, _⟩ := I.loc
  rw [z, ho'] at ho; cases ho; rw [hd'] at hd; cases hd
theorem Inv.funs (I : Inv X pins σ H s) : s.heap.FunFrames X.base X.outer := by
  have all : ∀ (l : List Env), (∀ b ∈ frs l, b ∈ X.fs) → X.s₀.heap.FunFrames X.base l → s.heap.FunFrames X.base l := by
    intro l
    induction l with
    | nil => intro _ _; trivial
    | cons env r ih =>
      intro hs hl
      obtain ⟨hk, ⟨L, o, hf, hn, ho, hd⟩, hr⟩ := hl
      have hL : L ∈ X.fs := hs L (by unfold frs; rw [List.filterMap_cons, hf]; exact List.mem_cons_self)
      obtain ⟨sl, e⟩ := I.base.slot L o ho (I.ok.frf L hL) hL fun z => I.ok.exfs L z hL
      exact ⟨hk, ⟨L, _, hf, hn, e, hd⟩, ih (fun b hb => hs b (by unfold frs; rw [List.filterMap_cons, hf]; exact List.mem_cons_of_mem _ hb)) hr⟩
  exact all X.outer (fun _ hb => hb) I.ok.funs
theorem Inv.stack (I : Inv X pins σ H s) : s.heap.FunFrames X.base X.stack := by
  rcases I.ok.stk with e | ⟨e, hf⟩
  · rw [e]; exact I.funs
  · rw [e]
    obtain ⟨m, hn, _⟩ := I.loc
    refine .cons (by rw [I.ok.kind]; decide) hf hn ?_ I.funs
    exact Heap.get?_none_of_le (Nat.le_trans I.ok.bsz I.ok.above)
theorem Inv.stkSub (I : Inv X pins σ H s) : ∀ b ∈ frs X.stack, b ∈ X.env.locals :: X.fs := fun b hb => by
  rcases I.ok.stk with e | ⟨e, hf⟩
  · rw [e] at hb; exact List.mem_cons_of_mem _ hb
  · rw [e] at hb
    unfold frs at hb
    rw [List.filterMap_cons, hf] at hb
    exact hb
theorem Inv.stkFree (I : Inv X pins σ H s) : ∀ b ∈ frs X.stack, H b = none := fun b hb => by
  rcases List.mem_cons.mp (I.stkSub b hb) with e | hb
  · rw [e]; exact I.free
  · obtain ⟨_, o, ho, _⟩ := I.ok.funs.mem hb
    exact I.base.free b o ho (I.ok.frf b hb) fun z => I.ok.exfs b z hb
theorem Inv.step {g' : Array GenState} {t' : Nat} {d' : Drawn} {ch : List Addr} (I : Inv X pins σ H s)
    (hch : ∀ b ∈ ch, (b ∈ X.ex ∨ X.s₀.heap.objs.size ≤ b) ∧ b ≠ X.env.locals ∧ (∀ x c, X.env.cells.lookup x = some c → c ≠ b) ∧ ∀ p ∈ X.pn ++ pins, p.1 ≠ b)
    (keep : ∀ b o, b ≠ X.env.locals → b ∉ X.fs → b ∉ ch → s.heap.get? b = some o → H b = none → h'.get? b = some o)
    (slot : ∀ b o, b ≠ X.env.locals → b ∈ X.fs → b ∉ ch → s.heap.get? b = some o → H b = none → ∃ sl, h'.get? b = some { o with slots := sl }) (free : ∀ b o, b ∉ ch → s.heap.get? b = some o → H b = none → H' b = none)
    (there : ∀ b o, b ∉ ch → s.heap.get? b = some o → ∃ o', h'.get? b = some o')
    (tups : ∀ b xs, H b = some (.tup xs) → H' b = some (.tup xs)) (frzs : ∀ b o u, H b = some (.frz o u) → H' b = some (.frz o u)) (tbls : ∀ b ps, H b = some (.tbl ps) → ∃ more, H' b = some (.tbl (ps ++ more)))
    (ns : ∀ m, s.heap.Ns X.env.locals m → h'.Ns X.env.locals m) (hok : HOk X.prog X.w H' h') (hg : AllBare g') :
    Inv X pins σ H' { s with heap := h', gens := g', drawn := d', toks := t' } := by
  have neL : ∀ b o, X.s₀.heap.get? b = some o → b ≠ X.env.locals := fun b o e => Nat.ne_of_lt (Nat.lt_of_lt_of_le (Heap.lt_size e) I.ok.above)
  have neC : ∀ b o, X.s₀.heap.get? b = some o → b ∉ X.ex → b ∉ ch := fun b o e hx hb => by
    rcases (hch b hb).1 with z | z
    · exact hx z
    · exact absurd (Nat.lt_of_lt_of_le (Heap.lt_size e) z) (Nat.lt_irrefl _)
  have cellK : ∀ x c, X.env.cells.lookup x = some c → ∀ v, s.heap.IsCell c v → h'.IsCell c v := fun x c e v ⟨o, ho, hd⟩ => by
    have nch : c ∉ ch := fun z => (hch c z).2.2.1 x c e rfl
    by_cases hc : c ∈ X.fs
    · obtain ⟨sl, q⟩ := slot c o (I.cne x c e) hc nch ho (I.freeC x c e)
      exact ⟨_, q, hd⟩
    · exact ⟨o, keep c o (I.cne x c e) hc nch ho (I.freeC x c e), hd⟩
  refine ⟨I.ok, I.os, hg, ⟨fun b o e n hb hx => ?_, fun b o e n hb hx => ?_, fun b o e n hx => ?_, fun b o e hx => ?_, fun b xs e => tups b xs (I.base.tups b xs e), fun b o xs e => frzs b o xs (I.base.frzs b o xs e), fun b ps e => ?_⟩, ?_, fun x c e => ?_, ?_, fun x c e => ?_, fun p hp => ?_, hok, I.len⟩
  · exact keep b o (neL b o e) hb (neC b o e hx) (I.base.keep b o e n hb hx) (I.base.free b o e n hx)
  · obtain ⟨sl, e1⟩ := I.base.slot b o e n hb hx
    obtain ⟨sl', e2⟩ := slot b _ (neL b o e) hb (neC b o e hx) e1 (I.base.free b o e n hx)
    exact ⟨sl', e2⟩
  · obtain ⟨o', e1⟩ := I.base.there b o e hx
    exact free b o' (neC b o e hx) e1 (I.base.free b o e n hx)
  · obtain ⟨o', e1⟩ := I.base.there b o e hx
    exact there b o' (neC b o e hx) e1
  · obtain ⟨m1, e1⟩ := I.base.tbls b ps e
    obtain ⟨m2, e2⟩ := tbls b _ e1
    exact ⟨m1 ++ m2, by rw [e2, Array.append_assoc]⟩
  · obtain ⟨m, hn, hl⟩ := I.loc
    refine ⟨m, ns m hn, fun i x v e1 e2 e3 => ?_⟩
    obtain ⟨u, r, l⟩ := hl i x v e1 e2 e3
    refine ⟨u, r, ?_⟩
    rcases l with l | ⟨k, c, e, z⟩
    · exact .inl l
    · exact .inr ⟨k, c, e, cellK x c e _ z⟩
  · obtain ⟨v, z⟩ := I.cell x c e
    exact ⟨v, cellK x c e v z⟩
  · obtain ⟨m, ⟨o, _, _, ho, _⟩, _⟩ := I.loc
    exact free _ o (fun z => (hch _ z).2.1 rfl) ho I.free
  · obtain ⟨v, o, ho, hd⟩ := I.cell x c e
    exact free c o (fun z => (hch c z).2.2.1 x c e rfl) ho (I.freeC x c e)
  · obtain ⟨e, n, ne, nf, d⟩ := I.pin p hp
    have nch : p.1 ∉ ch := fun z => (hch p.1 z).2.2.2 p hp rfl
    exact ⟨keep p.1 p.2 ne nf nch e n, free p.1 p.2 nch e n, ne, nf, d⟩
theorem Inv.un {t' : Nat} (I : Inv X pins σ H s) (u : Un X.fs [] H H' s.heap h') (hok : HOk X.prog X.w H' h') : Inv X pins σ H' { s with heap := h', toks := t' } := by
  obtain ⟨m, ⟨o, es, ep, ho, r⟩, _⟩ := id I.loc
  obtain ⟨sl, hL⟩ := u.any ho I.free (by simp)
  exact I.step (g' := s.gens) (d' := s.drawn) (ch := []) (fun _ z => nomatch z) (fun b o _ hb _ e n => u.keep b o e n hb (by simp)) (fun b o _ hb _ e n => u.slot b o e n hb (by simp)) (fun b o _ e n => u.free b o e n (by simp)) (fun b o _ e => u.there b o e (by simp)) u.tups u.frzs u.tbls (fun m' hm => by
    obtain ⟨o', es', ep', ho', r'⟩ := hm
    rw [ho] at ho'; cases ho'
    exact ⟨_, es', ep', hL, r'⟩) hok I.bare
theorem Inv.call {g' : Array GenState} {t' : Nat} {d' : Drawn} {ch : List Addr} (I : Inv X pins σ H s) (u : Un (frs X.stack) ch H H' s.heap h') (hok : HOk X.prog X.w H' h') (hg : AllBare g')
    (hch : ∀ b ∈ ch, (b ∈ X.ex ∨ X.s₀.heap.objs.size ≤ b) ∧ b ≠ X.env.locals ∧ (∀ x c, X.env.cells.lookup x = some c → c ≠ b) ∧ ∀ p ∈ X.pn ++ pins, p.1 ≠ b) :
    Inv X pins σ H' { s with heap := h', gens := g', drawn := d', toks := t' } := by
  obtain ⟨m, ⟨o, es, ep, ho, r⟩, _⟩ := id I.loc
  obtain ⟨sl, hL⟩ := u.any ho I.free fun z => (hch _ z).2.1 rfl
  exact I.step (ch := ch) hch (fun b o hL hb hc e n => u.keep b o e n (fun z => (List.mem_cons.mp (I.stkSub b z)).elim hL hb) hc) (fun b o _ _ hc e n => u.any e n hc) (fun b o hc e n => u.free b o e n hc) (fun b o hc e => u.there b o e hc) u.tups u.frzs u.tbls (fun m' hm => by
    obtain ⟨o', es', ep', ho', r'⟩ := hm
    rw [ho] at ho'; cases ho'
    exact ⟨_, es', ep', hL, r'⟩) hok hg
theorem Inv.turned {t' : Nat} {it : Addr} (I : Inv X pins σ H s) (k : ∀ b o, b ≠ it → s.heap.get? b = some o → h'.get? b = some o) (hn : H it = none) (hL : it ≠ X.env.locals)
    (h1 : it ∈ X.ex ∨ X.s₀.heap.objs.size ≤ it) (h2 : ∀ x c, X.env.cells.lookup x = some c → c ≠ it) (h3 : ∀ p ∈ X.pn ++ pins, p.1 ≠ it) : Inv X pins σ H { s with heap := h', toks := t' } := by
  have nit : ∀ b u, H b = some u → b ≠ it := fun b u e z => by rw [z, hn] at e; cases e
  refine I.step (g' := s.gens) (d' := s.drawn) (ch := [it]) (fun b hb => ?_) (fun b o _ _ hc e _ => k b o (fun z => hc (by simp [z])) e) (fun b o _ _ hc e _ => ⟨o.slots, k b o (fun z => hc (by simp [z])) e⟩) (fun _ _ _ _ n => n)
    (fun b o hc e => ⟨o, k b o (fun z => hc (by simp [z])) e⟩) (fun _ _ e => e) (fun _ _ _ e => e) (fun b ps e => ⟨#[], by rw [e]; simp⟩) (fun m hm => ?_) (fun b u e => ?_) I.bare
  · have e : b = it := by simpa using hb
    subst e
    exact ⟨h1, hL, h2, h3⟩
  · obtain ⟨o, es, ep, ho, r⟩ := hm
    exact ⟨o, es, ep, k _ o (Ne.symm hL) ho, r⟩
  · refine (I.hok b u e).stay (fun c v hc q => k c v ?_ q) (fun _ q => q) fun _ _ q => q
    rcases hc with z | z
    · rw [z]; exact nit b u e
    · exact nit c _ z
theorem Inv.tok (I : Inv X pins σ H s) (t : Nat) : Inv X pins σ H { s with toks := t } := I.un (h' := s.heap) (t' := t) Un.refl I.hok
theorem Inv.kept {t' : Nat} (I : Inv X pins σ H s) (k : ∀ b u, s.heap.get? b = some u → h'.get? b = some u) : Inv X pins σ H { s with heap := h', toks := t' } := I.un (Un.kept k) (I.hok.kept k)
theorem Inv.laid {a : Addr} {o : HO} {t' : Nat} (I : Inv X pins σ H s) (k : ∀ b u, s.heap.get? b = some u → h'.get? b = some u) (hp : s.heap.objs.size ≤ a) (new : ObjOk X.prog X.w (upd H a o) h' a o) :
    Inv X pins σ (upd H a o) { s with heap := h', toks := t' } := I.un (Un.laid k hp (I.hok.fresh hp)) (I.hok.laid k hp new)
theorem Inv.write {x e : Addr} {o : HO} {t' : Nat} (I : Inv X pins σ H s) (mu : Mut (H x)) (he : e = x ∨ H e = some (.own x)) (k : ∀ b u, b ≠ e → s.heap.get? b = some u → h'.get? b = some u) (heo : ∃ u, h'.get? e = some u)
    (new : ObjOk X.prog X.w (upd H x o) h' x o) : Inv X pins σ (upd H x o) { s with heap := h', toks := t' } := I.un (Un.write mu he k heo) (I.hok.write mu he k heo new)
theorem Inv.pins_of {pins' : List (Addr × Obj)} (I : Inv X pins σ H s) (h : ∀ p ∈ pins', s.heap.get? p.1 = some p.2 ∧ H p.1 = none ∧ p.1 ≠ X.env.locals ∧ p.1 ∉ X.fs ∧ ∀ v, p.2.data ≠ .cell v) : Inv X pins' σ H s :=
  ⟨I.ok, I.os, I.bare, I.base, I.loc, I.cell, I.free, I.freeC, fun p hp => (List.mem_append.mp hp).elim (fun z => I.pin p (List.mem_append_left _ z)) (h p), I.hok, I.len⟩
theorem nodup_ix {N : List Str} (hN : N.Nodup) {i j : Nat} {x : Str} (a : N[i]? = some x) (b : N[j]? = some x) : i = j := by
  obtain ⟨h1, e1⟩ := List.getElem?_eq_some_iff.mp a
  obtain ⟨h2, e2⟩ := List.getElem?_eq_some_iff.mp b
  exact (List.getElem_inj hN).mp (e1.trans e2.symm)
theorem store_ok2 {M : Model} {A : Around} {E : Value → Shared → Prop} {i : Nat} {x : Str} {v : V} {u : Value} {Q : Unit → Shared → Prop} (I : Inv X pins σ H s) (hN : X.N.Nodup) (hi : X.N[i]? = some x) (hx : Loc X.env.scope x) (r : RelV v u)
    (h : ∀ s', Inv X pins (σ.set i (some v)) H s' → (∃ a, Heap.SameBut a s.heap s'.heap ∧ (a = X.env.locals ∨ X.env.cells.lookup x = some a)) → Q () s') (hf : X.fn x = true ∨ X.env.scope.names.lookup x = some .local := by first | exact .inl rfl | exact .inr rfl | assumption) : wpAny M A (storeName X.env x u) Q E s := by
  obtain ⟨m, hn, hl⟩ := id I.loc
  have hcls : (X.env.scope.kind == .class || (X.env.scope.kind == .module && X.env.locals != X.env.globals)) = false := by rw [I.ok.kind]; rfl
  have hiσ : i < σ.length := by rw [I.len]; exact (List.getElem?_eq_some_iff.mp hi).1
  have cne := I.cne
  have tracked : ∀ {a : Addr} {h' : Heap}, (∃ o, s.heap.get? a = some o ∧ H a = none) → Heap.SameBut a s.heap h' → HOk X.prog X.w H h' := fun {a h'} ha hs b ob e => by
    obtain ⟨_, _, hfree⟩ := ha
    refine (I.hok b ob e).stay (fun c w' hc q => (hs.2 c ?_).trans q) (fun _ q => q) fun _ _ q => q
    rintro rfl
    rcases hc with rfl | hc
    · rw [hfree] at e; cases e
    · rw [hfree] at hc; cases hc
  rcases hx with hk | hk
  · refine wpAny_storeName_local hk hn (fun h' hn' hs => ?_) hcls
    obtain ⟨oL, _, _, hoL, _⟩ := id hn
    refine h _ ⟨I.ok, I.os, I.bare, ⟨fun b o e n hb hx => ?_, fun b o e n hb hx => ?_, I.base.free, fun b o e hx => ?_, I.base.tups, I.base.frzs, I.base.tbls⟩, ⟨_, hn', fun j y v' e1 e2 e3 => ?_⟩, fun y c e => ?_, I.free, I.freeC, fun p hp => ?_, tracked ⟨oL, hoL, I.free⟩ hs, by simpa using I.len⟩ ⟨_, hs, .inl rfl⟩
    · exact (hs.2 b (Nat.ne_of_lt (Nat.lt_of_lt_of_le (Heap.lt_size e) I.ok.above))).trans (I.base.keep b o e n hb hx)
    · obtain ⟨sl, e1⟩ := I.base.slot b o e n hb hx
      exact ⟨sl, (hs.2 b (Nat.ne_of_lt (Nat.lt_of_lt_of_le (Heap.lt_size e) I.ok.above))).trans e1⟩
    · obtain ⟨o', e1⟩ := I.base.there b o e hx
      exact ⟨o', (hs.2 b (Nat.ne_of_lt (Nat.lt_of_lt_of_le (Heap.lt_size e) I.ok.above))).trans e1⟩
    · by_cases hj : j = i
      · subst hj
        rw [hi] at e1; cases e1
        rw [List.getElem?_set_self hiσ] at e2
        cases e2
        exact ⟨u, r, .inl ⟨hk, by simp⟩⟩
      · rw [List.getElem?_set_ne (Ne.symm hj)] at e2
        obtain ⟨u', r', q⟩ := hl j y v' e1 e2 e3
        refine ⟨u', r', ?_⟩
        rcases q with ⟨k, e⟩ | ⟨k, c, e, z⟩
        · refine .inl ⟨k, ?_⟩
          have : y ≠ x := fun e => hj (nodup_ix hN e1 (e ▸ hi))
          simp [this, e]
        · exact .inr ⟨k, c, e, z.sameBut hs (cne y c e)⟩
    · obtain ⟨w', z⟩ := I.cell y c e
      exact ⟨w', z.sameBut hs (cne y c e)⟩
    · obtain ⟨e, n, ne, nf, d⟩ := I.pin p hp
      exact ⟨(hs.2 p.1 ne).trans e, n, ne, nf, d⟩
  · have hfn : X.fn x = true := by
      rcases hf with z | z
      · exact z
      · rw [z] at hk; cases hk
    obtain ⟨c, hc⟩ := I.ok.has x (.inl hk)
    obtain ⟨w', z⟩ := I.cell x c hc
    refine wpAny_storeName_cell I.ok.kind hk hc z (fun h' hc' hs => ?_)
    obtain ⟨oc, hoc, hocd⟩ := id z
    refine h { s with heap := h' } ⟨I.ok, I.os, I.bare, ⟨fun b o e n hb hx => ?_, fun b o e n hb hx => ?_, I.base.free, fun b o e hx => ?_, I.base.tups, I.base.frzs, I.base.tbls⟩, ⟨m, hn.sameBut hs (Ne.symm (cne x c hc)), fun j y v' e1 e2 e3 => ?_⟩, fun y c' e => ?_, I.free, I.freeC, fun p hp => ?_, tracked ⟨oc, hoc, I.freeC x c hc⟩ hs, by simpa using I.len⟩ ⟨c, hs, .inr hc⟩
    · exact (hs.2 b (Nat.ne_of_lt (Nat.lt_of_lt_of_le (Heap.lt_size e) (I.ok.cab x c hfn hc)))).trans (I.base.keep b o e n hb hx)
    · obtain ⟨sl, e1⟩ := I.base.slot b o e n hb hx
      exact ⟨sl, (hs.2 b (Nat.ne_of_lt (Nat.lt_of_lt_of_le (Heap.lt_size e) (I.ok.cab x c hfn hc)))).trans e1⟩
    · obtain ⟨o', e1⟩ := I.base.there b o e hx
      exact ⟨o', (hs.2 b (Nat.ne_of_lt (Nat.lt_of_lt_of_le (Heap.lt_size e) (I.ok.cab x c hfn hc)))).trans e1⟩
    · by_cases hj : j = i
      · subst hj
        rw [hi] at e1; cases e1
        rw [List.getElem?_set_self hiσ] at e2
        cases e2
        exact ⟨u, r, .inr ⟨.inl hk, c, hc, hc'⟩⟩
      · rw [List.getElem?_set_ne (Ne.symm hj)] at e2
        obtain ⟨u', r', q⟩ := hl j y v' e1 e2 e3
        refine ⟨u', r', ?_⟩
        rcases q with q | ⟨k, c', e, z'⟩
        · exact .inl q
        · refine .inr ⟨k, c', e, z'.sameBut hs ?_⟩
          rintro rfl
          exact hj (nodup_ix hN e1 (I.ok.inj _ _ _ e hc ▸ hi))
    · by_cases hcc : c' = c
      · subst hcc; exact ⟨_, hc'⟩
      · obtain ⟨w2, z2⟩ := I.cell y c' e
        exact ⟨w2, z2.sameBut hs hcc⟩
    · obtain ⟨e, n, ne, nf, d⟩ := I.pin p hp
      refine ⟨(hs.2 p.1 ?_).trans e, n, ne, nf, d⟩
      intro q
      rw [q, hoc] at e
      have q' : oc = p.2 := Option.some.inj e
      exact d w' (by rw [← q']; exact hocd)
theorem store_ok {M : Model} {A : Around} {E : Value → Shared → Prop} {i : Nat} {x : Str} {v : V} {u : Value} {Q : Unit → Shared → Prop} (I : Inv X pins σ H s) (hN : X.N.Nodup) (hi : X.N[i]? = some x) (hx : Loc X.env.scope x) (r : RelV v u)
    (h : ∀ s', Inv X pins (σ.set i (some v)) H s' → Q () s') (hf : X.fn x = true ∨ X.env.scope.names.lookup x = some .local := by first | exact .inl rfl | exact .inr rfl | assumption) : wpAny M A (storeName X.env x u) Q E s :=
  store_ok2 I hN hi hx r (fun s' I' _ => h s' I') hf
theorem Inv.call' {s' : Shared} {ch : List Addr} (I : Inv X pins σ H s) (ho : s'.os = s.os) (u : Un (frs X.stack) ch H H' s.heap s'.heap) (hok : HOk X.prog X.w H' s'.heap) (hg : AllBare s'.gens)
    (hch : ∀ b ∈ ch, (b ∈ X.ex ∨ X.s₀.heap.objs.size ≤ b) ∧ b ≠ X.env.locals ∧ (∀ x c, X.env.cells.lookup x = some c → c ≠ b) ∧ ∀ p ∈ X.pn ++ pins, p.1 ≠ b) : Inv X pins σ H' s' := by
  obtain ⟨h', g', d', t', o'⟩ := s'
  have e : o' = s.os := ho
  subst e
  exact I.call (g' := g') (t' := t') (d' := d') u hok hg hch
end
abbrev XK := Value → Option Addr → Hp → Prop
abbrev St := List (Option V)
abbrev VK := V → Hp → Prop
abbrev TE := St → Hp → VK → Prop
abbrev TT := St → Hp → (Bool → Hp → Prop) → Prop
abbrev TA := St → Hp → (List V → Hp → Prop) → Prop
structure Ends where
  nx : St → Hp → Prop
  rt : VK
  bk : St → Hp → Prop := fun _ _ => False
  ct : St → Hp → Prop := fun _ _ => False
abbrev TS := Ends → St → Hp → Prop
def EP (X : Cx) (pins : List (Addr × Obj)) (σ : St) (Q : VK) (u : Value) (s' : Shared) : Prop := ∃ v H', Inv X pins σ H' s' ∧ RelV v u ∧ Q v H'
def TP (X : Cx) (pins : List (Addr × Obj)) (σ : St) (Q : Bool → Hp → Prop) (b : Bool) (s' : Shared) : Prop := ∃ H', Inv X pins σ H' s' ∧ Q b H'
def AP (X : Cx) (pins : List (Addr × Obj)) (σ : St) (Q : List V → Hp → Prop) (us : List Value) (s' : Shared) : Prop := ∃ vs H', Inv X pins σ H' s' ∧ Vals vs us ∧ Q vs H'
def SP (X : Cx) (pins : List (Addr × Obj)) (D : Ends) (f : Flow) (s' : Shared) : Prop :=
  match f with
  | .next => ∃ σ' H', Inv X pins σ' H' s' ∧ D.nx σ' H'
  | .brk => ∃ σ' H', Inv X pins σ' H' s' ∧ D.bk σ' H'
  | .cont => ∃ σ' H', Inv X pins σ' H' s' ∧ D.ct σ' H'
  | .ret u => ∃ v σ' H', Inv X pins σ' H' s' ∧ RelV v u ∧ D.rt v H'
def PE (X : Cx) (e : Expr) (t : TE) : Prop :=
  ∀ (pins : List (Addr × Obj)) (s : Shared) (σ : St) (H : Hp) (Q : VK), Inv X pins σ H s → t σ H Q → wpAny (model X.prog X.w) X.A (eval e X.env) (EP X pins σ Q) X.xe s
def PT (X : Cx) (e : Expr) (t : TT) : Prop :=
  ∀ (pins : List (Addr × Obj)) (s : Shared) (σ : St) (H : Hp) (Q : Bool → Hp → Prop), Inv X pins σ H s → t σ H Q → wpAny (model X.prog X.w) X.A (isTrue e X.env (eval e X.env)) (TP X pins σ Q) X.xe s
def PW (X : Cx) (e : Expr) (t : TT) : Prop :=
  ∀ (whole : Sem Value) (pins : List (Addr × Obj)) (s : Shared) (σ : St) (H : Hp) (Q : Bool → Hp → Prop), Inv X pins σ H s → t σ H Q → wpAny (model X.prog X.w) X.A (isTrue e X.env whole) (TP X pins σ Q) X.xe s
theorem PW.pt {X : Cx} {e : Expr} {t : TT} (h : PW X e t) : PT X e t := h _
def PA (X : Cx) (es : List Expr) (t : TA) : Prop :=
  ∀ (pos : Pos) (pins : List (Addr × Obj)) (s : Shared) (σ : St) (H : Hp) (Q : List V → Hp → Prop), Inv X pins σ H s → t σ H Q → wpAny (model X.prog X.w) X.A (spliced (backTo pos (starEach es X.env))) (AP X pins σ Q) X.xe s
def PS (X : Cx) (st : Stmt) (t : TS) : Prop :=
  ∀ (pins : List (Addr × Obj)) (s : Shared) (σ : St) (H : Hp) (D : Ends), Inv X pins σ H s → t D σ H → wpAny (model X.prog X.w) X.A (exec st X.env) (SP X pins D) X.xe s
def PSs (X : Cx) (st : List Stmt) (t : TS) : Prop :=
  ∀ (pins : List (Addr × Obj)) (s : Shared) (σ : St) (H : Hp) (D : Ends), Inv X pins σ H s → t D σ H → wpAny (model X.prog X.w) X.A (execs st X.env) (SP X pins D) X.xe s
theorem thn {α : Type} {t : Sem α} {Q Q' : α → Shared → Prop} {M : Model} {A : Around} {E : Value → Shared → Prop} {s : Shared} (h : wpAny M A t Q E s) (hQ : ∀ a s, Q a s → Q' a s) : wpAny M A t Q' E s := wpAny_mono h hQ fun _ _ x => x
end L2
namespace L2
open PySem PySem.Spec PyProof.Rows
section
variable {X : Cx}
def tVar (i : Nat) : TE := fun σ H Q => ∃ v, σ[i]? = some (some v) ∧ Q v H
def tC (v : V) : TE := fun _ H Q => Q v H
theorem pe_var {i : Nat} {x : Str} {pos : Pos} (hN : X.N[i]? = some x) (hv : Vis X.env.scope x) (hd : (x == ("__debug__" : Str)) = false := by decide) (hcd : (x == ("__classdict__" : Str)) = false := by decide) : PE X (.Name x pos) (tVar i) := by
  intro pins s σ H Q I h
  obtain ⟨v, e, h⟩ := h
  obtain ⟨m, hn, hl⟩ := I.loc
  obtain ⟨u, r, l⟩ := hl i x v hN e hv
  have fin : EP X pins σ Q u s := ⟨v, H, I, r, h⟩
  rcases l with ⟨hk, hm⟩ | ⟨hk, c, hc, hcell⟩
  · exact wpAny_Name (wpAny_loadName_local I.ok.kind hk hn hm fin) hd
  · rcases hk with hk | hk
    · exact wpAny_Name (wpAny_loadName_cell I.ok.kind hk hc hcell fin) hd
    · exact wpAny_Name (wpAny_loadName_free I.ok.kind hk hc hcell fin hcd) hd
theorem pe_int {i j pos} : PE X (.Constant (.int i) j pos) (tC (.int i)) := fun _ _ _ H _ I h => wpAny_Constant_int ⟨.int i, H, I.tok _, ⟨_, rfl⟩, h⟩
theorem pe_bl {b j pos} : PE X (.Constant (.bool b) j pos) (tC (.bl b)) := fun _ _ _ H _ I h => Constant_bool ⟨.bl b, H, I, rfl, h⟩
theorem pe_non {j pos} : PE X (.Constant .none j pos) (tC .non) := fun _ _ _ H _ I h => Constant_none ⟨.non, H, I, rfl, h⟩
theorem pe_str {x j pos} : PE X (.Constant (.str x) j pos) (tC (.str x)) := fun _ _ _ H _ I h => Calls.Constant_str ⟨.str x, H, I.tok _, ⟨_, rfl⟩, h⟩
def Gl (X : Cx) (x : Str) : Prop := X.env.kindOf x = some .globalImplicit
theorem ld_glob {E : Value → Shared → Prop} {pins : List (Addr × Obj)} {s : Shared} {σ : St} {H : Hp} {x : Str} {u : Value} {pos : Pos} {Q : Value → Shared → Prop} (I : Inv X pins σ H s) (hg : Gl X x) (hm : X.mg x = some u) (h : Q u s)
    (hd : (x == ("__debug__" : Str)) = false := by decide) : wpAny (model X.prog X.w) X.A (eval (.Name x pos) X.env) Q E s :=
  Calls.Name_function_global I.ok.kind hg (Calls.loadGlobal_global (by rw [I.ok.glob]; exact I.mod.glob.keeps I.bk) hm h) hd
theorem ld_blt {E : Value → Shared → Prop} {pins : List (Addr × Obj)} {s : Shared} {σ : St} {H : Hp} {x : Str} {u : Value} {pos : Pos} {Q : Value → Shared → Prop} (I : Inv X pins σ H s) (hg : Gl X x) (hm : X.mg x = none) (hv : bootBuiltins x = some u) (h : Q u s)
    (hn : x ≠ "__name__" := by decide) (hd : (x == ("__debug__" : Str)) = false := by decide) : wpAny (model X.prog X.w) X.A (eval (.Name x pos) X.env) Q E s := by
  obtain ⟨mb, h1, h2⟩ := I.mod.blt
  exact Calls.Name_function_global I.ok.kind hg (Calls.loadGlobal_builtin (by rw [I.ok.glob]; exact I.mod.glob.keeps I.bk) hm (by rw [I.ok.blt]; exact h1.keeps I.bk) ((h2 x hn).trans hv) h) hd
theorem pe_glob {x : Str} {v : V} {u : Value} {pos : Pos} (hg : Gl X x) (hm : X.mg x = some u) (r : RelV v u) (hd : (x == ("__debug__" : Str)) = false := by decide) : PE X (.Name x pos) (tC v) :=
  fun _ _ _ H _ I h => ld_glob I hg hm ⟨v, H, I, r, h⟩ hd
theorem pe_bltn {x : Str} {v : V} {u : Value} {pos : Pos} (hg : Gl X x) (hm : X.mg x = none) (hv : bootBuiltins x = some u) (r : RelV v u) (hn : x ≠ "__name__" := by decide) (hd : (x == ("__debug__" : Str)) = false := by decide) : PE X (.Name x pos) (tC v) :=
  fun _ _ _ H _ I h => ld_blt I hg hm hv ⟨v, H, I, r, h⟩ hn hd
variable {a b : Expr} {ta tb : TE} {pos : Pos}
variable {tA tB' : TT} {rest : List Expr}
def tAnd (t u : TT) : TT := fun σ H Q => t σ H fun c H1 => if c = true then u σ H1 Q else Q false H1
def tOr (t u : TT) : TT := fun σ H Q => t σ H fun c H1 => if c = true then Q true H1 else u σ H1 Q
def tNot (t : TT) : TT := fun σ H Q => t σ H fun c H1 => Q (!c) H1
theorem pw_and1 (ha : PT X a tA) : PW X (.BoolOp .And [a] pos) tA := by
  intro wh pins s σ H Q I h
  refine isTrue_and (thn (ha pins s σ H Q I h) fun c s1 e => ?_)
  cases c with
  | true => exact isTrue_and_nil e
  | false => exact e
theorem pw_or1 (ha : PT X a tA) : PW X (.BoolOp .Or [a] pos) tA := by
  intro wh pins s σ H Q I h
  refine isTrue_or (thn (ha pins s σ H Q I h) fun c s1 e => ?_)
  cases c with
  | false => exact isTrue_or_nil e
  | true => exact e
theorem pw_and (ha : PT X a tA) (hb : PW X (.BoolOp .And (b :: rest) pos) tB') : PW X (.BoolOp .And (a :: b :: rest) pos) (tAnd tA tB') := by
  intro wh pins s σ H Q I h
  refine isTrue_and (thn (ha pins s σ H _ I h) fun c s1 ⟨H1, I1, q1⟩ => ?_)
  cases c with
  | true => exact hb wh pins s1 σ H1 Q I1 q1
  | false => exact ⟨H1, I1, q1⟩
theorem pw_or (ha : PT X a tA) (hb : PW X (.BoolOp .Or (b :: rest) pos) tB') : PW X (.BoolOp .Or (a :: b :: rest) pos) (tOr tA tB') := by
  intro wh pins s σ H Q I h
  refine isTrue_or (thn (ha pins s σ H _ I h) fun c s1 ⟨H1, I1, q1⟩ => ?_)
  cases c with
  | true => exact ⟨H1, I1, q1⟩
  | false => exact hb wh pins s1 σ H1 Q I1 q1
theorem pt_not (ha : PT X a tA) : PT X (.UnaryOp .Not a pos) (tNot tA) := by
  intro pins s σ H Q I h
  exact isTrue_not (ha pins s σ H (fun c H1 => Q (!c) H1) I h)
def tAndV (ta tb : TE) : TE := fun σ H Q => ta σ H fun x H1 => ∃ c, x = .bl c ∧ if c = true then tb σ H1 Q else Q (.bl false) H1
def tNotV (ta : TE) : TE := fun σ H Q => ta σ H fun x H1 => ∃ c, x = .bl c ∧ Q (.bl (!c)) H1
theorem pe_one {op} {t : TE} (h : PE X a t) : PE X (.BoolOp op [a] pos) t := fun pins s σ H Q I hw => BoolOp_one (h pins s σ H Q I hw)
theorem pe_and (ha : PE X a ta) (hb : PE X (.BoolOp .And (b :: rest) pos) tb) : PE X (.BoolOp .And (a :: b :: rest) pos) (tAndV ta tb) := by
  intro pins s σ H Q I h
  refine BoolOp_and (thn (ha pins s σ H _ I h) fun v s1 ⟨x, H1, I1, r1, q1⟩ => ?_)
  obtain ⟨c, rfl, q1⟩ := q1
  cases r1
  refine wpAny_truthy_bool ?_
  cases c with
  | true => exact hb pins s1 σ H1 Q I1 q1
  | false => exact ⟨.bl false, H1, I1, rfl, q1⟩
theorem pe_not (ha : PE X a ta) : PE X (.UnaryOp .Not a pos) (tNotV ta) := by
  intro pins s σ H Q I h
  refine UnaryOp_ (thn (ha pins s σ H _ I h) fun v s1 ⟨x, H1, I1, r1, q1⟩ => ?_)
  obtain ⟨c, rfl, q1⟩ := q1
  cases r1
  exact not_of (wpAny_truthy_bool ⟨.bl (!c), H1, I1, rfl, q1⟩)
end
end L2
namespace L2
open PySem PySem.Spec PyProof.Rows
def SqL (K : PySem.W.Frag) (H : Hp) (a : Addr) (xs : List V) : Prop :=
  Rd H a (.lst xs) ∨
    ∃ (o : Obj) (its : Array Value) (n : Nat), K.lookup a = some o ∧ o.cls = .type "list" ∧ o.dict = none ∧ o.data = .seq its n ∧ its.size ≤ sizeLine ∧ Vals xs its.toList
def SqT (K : PySem.W.Frag) (H : Hp) (a : Addr) (xs : List V) : Prop :=
  Rd H a (.tup xs) ∨
    ∃ (o : Obj) (its : Array Value) (n : Nat), K.lookup a = some o ∧ o.cls = .type "tuple" ∧ o.data = .seq its n ∧ its.size ≤ sizeLine ∧ Vals xs its.toList
def absV : Value → Option V
  | .none => some .non
  | .bool b => some (.bl b)
  | .int i _ => some (.int i)
  | .str x _ => some (.str x)
  | .bytes b _ => some (.byt b)
  | .float b _ => some (.flt b)
  | .ref a => some (.ref a)
  | .type n => some (.ty n)
  | _ => none
theorem RelV.abs {x : V} {u : Value} (r : RelV x u) : absV u = some x := by
  cases x with
  | non => cases r; rfl
  | bl _ => cases r; rfl
  | int _ => obtain ⟨t, rfl⟩ := r; rfl
  | str _ => obtain ⟨t, rfl⟩ := r; rfl
  | byt _ => obtain ⟨t, rfl⟩ := r; rfl
  | flt _ => obtain ⟨t, rfl⟩ := r; rfl
  | ref _ => cases r; rfl
  | ty _ => cases r; rfl
theorem RelV.inj {x y : V} {u : Value} (r : RelV x u) (q : RelV y u) : x = y := Option.some.inj (r.abs.symm.trans q.abs)
theorem Vals.inj : ∀ {xs ys : List V} {us : List Value}, Vals xs us → Vals ys us → xs = ys
  | _, _, _, .nil, .nil => rfl
  | _, _, _, .cons r t, .cons r' t' => by rw [r.inj r', Vals.inj t t']
section
variable {X : Cx} {pins : List (Addr × Obj)} {σ : St} {H : Hp} {s : Shared} {a : Addr} {xs ys : List V}
theorem SqL.of {K : PySem.W.Frag} (h : H a = some (.lst xs)) : SqL K H a xs := .inl (.inl h)
theorem SqT.of {K : PySem.W.Frag} (h : H a = some (.tup xs)) : SqT K H a xs := .inl (.inl h)
theorem Inv.list (I : Inv X pins σ H s) (h : SqL X.K H a xs) : ∃ its : List Value, Vals xs its ∧ PlainL s.heap a its.toArray ∧ xs.length ≤ sizeLine := by
  rcases h with h | ⟨o, its, n, hk, hc, hd, hs, hz, r⟩
  · obtain ⟨z, its, n, r, e⟩ := h.ok I.hok
    exact ⟨its, r, ⟨_, n, e, rfl, rfl, rfl⟩, z⟩
  · refine ⟨its.toList, r, ⟨o, n, I.kIn a o hk, hc, hd, by simpa using hs⟩, ?_⟩
    have e := r.length
    simp only [Array.length_toList] at e
    omega
theorem Inv.tuple (I : Inv X pins σ H s) (h : SqT X.K H a xs) : ∃ its : List Value, Vals xs its ∧ IsTup s.heap a its.toArray ∧ xs.length ≤ sizeLine := by
  rcases h with h | ⟨o, its, n, hk, hc, hs, hz, r⟩
  · obtain ⟨z, its, r, p⟩ := h.ok I.hok
    exact ⟨its, r, p, z⟩
  · refine ⟨its.toList, r, ⟨o, I.kIn a o hk, hc, n, by simpa using hs⟩, ?_⟩
    have e := r.length
    simp only [Array.length_toList] at e
    omega
theorem Inv.list_inj (I : Inv X pins σ H s) (h : SqL X.K H a xs) (h' : SqL X.K H a ys) : xs = ys := by
  obtain ⟨its, r, ⟨o, n, e, _, _, d⟩, _⟩ := I.list h
  obtain ⟨its', r', ⟨o', n', e', _, _, d'⟩, _⟩ := I.list h'
  rw [e] at e'; cases e'
  rw [d] at d'
  injection d' with d1 _
  have : its = its' := by simpa using congrArg Array.toList d1
  subst this
  exact r.inj r'
end
abbrev Cx.wish (X : Cx) (E : Value → Shared → Prop) : Cx := { X with xe := E }
abbrev Cx.nox (X : Cx) : Cx := X.wish fun _ _ => False
theorem Cx.Ok.wish {X : Cx} (ok : X.Ok) (E : Value → Shared → Prop) : (X.wish E).Ok :=
  ⟨ok.mod, ok.kind, ok.glob, ok.blt, ok.above, ok.inj, ok.has, ok.cab, ok.hd, ok.frames, ok.stk, ok.exf, ok.bs, ok.bsz, ok.noex, ok.exfs, ok.funs, ok.frf⟩
theorem Cx.Ok.unwish {X : Cx} {E : Value → Shared → Prop} (ok : (X.wish E).Ok) : X.Ok :=
  ⟨ok.mod, ok.kind, ok.glob, ok.blt, ok.above, ok.inj, ok.has, ok.cab, ok.hd, ok.frames, ok.stk, ok.exf, ok.bs, ok.bsz, ok.noex, ok.exfs, ok.funs, ok.frf⟩
section
variable {X : Cx} {pins : List (Addr × Obj)} {σ : St} {H : Hp} {s : Shared} {E : Value → Shared → Prop}
theorem Inv.wish (I : Inv X pins σ H s) (E : Value → Shared → Prop) : Inv (X.wish E) pins σ H s := ⟨I.ok.wish E, I.os, I.bare, I.base, I.loc, I.cell, I.free, I.freeC, I.pin, I.hok, I.len⟩
theorem Inv.unwish (I : Inv (X.wish E) pins σ H s) : Inv X pins σ H s := ⟨I.ok.unwish, I.os, I.bare, I.base, I.loc, I.cell, I.free, I.freeC, I.pin, I.hok, I.len⟩
theorem SP.unwish {D : Ends} {f : Flow} {s' : Shared} (h : SP (X.wish E) pins D f s') : SP X pins D f s' := by
  cases f with
  | next => obtain ⟨σ', H', I, q⟩ := h; exact ⟨σ', H', I.unwish, q⟩
  | brk => obtain ⟨σ', H', I, q⟩ := h; exact ⟨σ', H', I.unwish, q⟩
  | cont => obtain ⟨σ', H', I, q⟩ := h; exact ⟨σ', H', I.unwish, q⟩
  | ret u => obtain ⟨v, σ', H', I, r, q⟩ := h; exact ⟨v, σ', H', I.unwish, r, q⟩
theorem PE.nox {e : Expr} {t : TE} (h : PE X.nox e t) : PE X e t := fun pins s σ H Q I hw =>
  wpAny_mono (h pins s σ H Q (I.wish _) hw) (fun _ _ ⟨v, H', I', r, q⟩ => ⟨v, H', I'.unwish, r, q⟩) fun _ _ z => False.elim z
theorem PT.nox {e : Expr} {t : TT} (h : PT X.nox e t) : PT X e t := fun pins s σ H Q I hw =>
  wpAny_mono (h pins s σ H Q (I.wish _) hw) (fun _ _ ⟨H', I', q⟩ => ⟨H', I'.unwish, q⟩) fun _ _ z => False.elim z
theorem PSs.nox {st : List Stmt} {t : TS} (h : PSs X.nox st t) : PSs X st t := fun pins s σ H D I hw =>
  wpAny_mono (h pins s σ H D (I.wish _) hw) (fun _ _ q => q.unwish) fun _ _ z => False.elim z
end
section
variable {X : Cx} {st : Stmt} {rest : List Stmt} {t u : TS} {e : Expr} {te : TE} {pos : Pos}
def tNext : TS := fun D σ H => D.nx σ H
def tSeq (t u : TS) : TS := fun D σ H => t { D with nx := u D } σ H
theorem pss_nil : PSs X [] tNext := fun _ _ σ H _ I h => wpAny_execs_nil ⟨σ, H, I, h⟩
theorem pss_cons (h1 : PS X st t) (h2 : PSs X rest u) : PSs X (st :: rest) (tSeq t u) := by
  intro pins s σ H D I h
  refine wpAny_execs_cons (thn (h1 pins s σ H { D with nx := u D } I h) fun f s1 q => ?_)
  cases f with
  | next =>
    obtain ⟨σ', H', I', q⟩ := q
    exact h2 pins s1 σ' H' D I' q
  | ret v => exact q
  | brk => exact q
  | cont => exact q
theorem pss_one (h1 : PS X st t) : PSs X [st] t := by
  intro pins s σ H D I h
  refine wpAny_execs_cons (thn (h1 pins s σ H D I h) fun f s1 q => ?_)
  cases f with
  | next => exact wpAny_execs_nil q
  | ret v => exact q
  | brk => exact q
  | cont => exact q
theorem Inv.quiet {pins : List (Addr × Obj)} {σ : St} {H : Hp} {s : Shared} (I : Inv X pins σ H s) : interactive X.env = false := by simp [interactive, I.ok.kind]
def tDrop (te : TE) : TS := fun D σ H => te σ H fun _ H1 => D.nx σ H1
theorem ps_expr (he : PE X e te) (hs : swapsWith e none pos.line X.env = pure false := by rfl) : PS X (.Expr e pos) (tDrop te) := by
  intro pins s σ H D I h
  exact wpAny_Expr_any (thn (he pins s σ H _ I h) fun v s1 ⟨x, H1, I1, r1, q1⟩ => ⟨σ, H1, I1, q1⟩) I.quiet hs
def tRet (te : TE) : TS := fun D σ H => te σ H D.rt
theorem ps_ret (he : PE X e te) : PS X (.Return (some e) pos) (tRet te) := by
  intro pins s σ H D I h
  exact wpAny_Return_some (thn (he pins s σ H _ I h) fun v s1 ⟨x, H1, I1, r1, q1⟩ => ⟨x, σ, H1, I1, r1, q1⟩)
def tIfS (c : TT) (t u : TS) : TS := fun D σ H => c σ H fun b H1 => if b = true then t D σ H1 else u D σ H1
theorem ps_if {c : Expr} {a b : List Stmt} {tc : TT} (hc : PT X c tc) (ha : PSs X a t) (hb : PSs X b u) : PS X (.If c a b pos) (tIfS tc t u) := by
  intro pins s σ H D I h
  refine wpAny_If (thn (hc pins s σ H _ I h) fun d s1 ⟨H1, I1, q1⟩ => ?_)
  cases d with
  | true => exact ha pins s1 σ H1 D I1 q1
  | false => exact hb pins s1 σ H1 D I1 q1
end
abbrev TG := V → St → Hp → (St → Hp → Prop) → Prop
abbrev TGs := List V → St → Hp → (St → Hp → Prop) → Prop
def PG (X : Cx) (target : Expr) (t : TG) : Prop :=
  ∀ (pins : List (Addr × Obj)) (s : Shared) (σ : St) (H : Hp) (v : V) (u : Value) (Q : St → Hp → Prop), Inv X pins σ H s → RelV v u → t v σ H Q →
    wpAny (model X.prog X.w) X.A (assign target X.env u) (fun _ s' => ∃ σ' H', Inv X pins σ' H' s' ∧ Q σ' H') X.xe s
def PGs (X : Cx) (ts : List Expr) (t : TGs) : Prop :=
  ∀ (pins : List (Addr × Obj)) (s : Shared) (σ : St) (H : Hp) (vs : List V) (us : List Value) (Q : St → Hp → Prop), Inv X pins σ H s → Vals vs us → t vs σ H Q →
    wpAny (model X.prog X.w) X.A (assignInOrder ((assignEach ts X.env).map (·.2)) us) (fun _ s' => ∃ σ' H', Inv X pins σ' H' s' ∧ Q σ' H') X.xe s
section
variable {X : Cx} {pos : Pos}
def gName (i : Nat) : TG := fun v σ H Q => Q (σ.set i (some v)) H
theorem pg_name {i : Nat} {x : Str} (hN : X.N.Nodup) (hi : X.N[i]? = some x) (hx : Loc X.env.scope x) (hf : X.fn x = true ∨ X.env.scope.names.lookup x = some .local := by first | exact .inl rfl | exact .inr rfl | assumption) : PG X (.Name x pos) (gName i) := by
  intro pins s σ H v u Q I r h
  exact wpAny_assign_Name (store_ok I hN hi hx r (fun s' I' => ⟨_, H, I', h⟩) hf)
def gNil : TGs := fun vs σ H Q => vs = [] ∧ Q σ H
def gCons (t : TG) (u : TGs) : TGs := fun vs σ H Q => ∃ v r, vs = v :: r ∧ t v σ H fun σ' H' => u r σ' H' Q
theorem pgs_nil : PGs X [] gNil := by
  intro pins s σ H vs us Q I r h
  obtain ⟨e, h⟩ := h
  subst e
  cases r
  exact assignInOrder_nil ⟨σ, H, I, h⟩
theorem pgs_cons {e : Expr} {es : List Expr} {t : TG} {u : TGs} (h1 : PG X e t) (h2 : PGs X es u)
    (hs : (assignEach (e :: es) X.env).map (·.2) = assign e X.env :: (assignEach es X.env).map (·.2) := by rfl) : PGs X (e :: es) (gCons t u) := by
  intro pins s σ H vs us Q I r h
  obtain ⟨v, vr, e1, h⟩ := h
  subst e1
  cases r with
  | cons r rr =>
    rw [hs]
    refine assignInOrder_cons (thn (h1 pins s σ H _ _ _ I r h) fun _ s1 ⟨σ1, H1, I1, q1⟩ => ?_)
    exact h2 pins s1 σ1 H1 _ _ Q I1 rr q1
def gTup (K : PySem.W.Frag) (n : Nat) (t : TGs) : TG := fun v σ H Q => ∃ a xs, v = .ref a ∧ SqT K H a xs ∧ xs.length = n ∧ t xs σ H Q
theorem pg_tup {es : List Expr} {k : Nat} {t : TGs} {n : Nat} (hc : X.calm = true) (h : PGs X es t)
    (hn : (assignEach es X.env).length = n := by rfl) (hst : (assignEach es X.env).findIdx? (·.1) = none := by rfl) : PG X (.Tuple es k pos) (gTup X.K n t) := by
  intro pins s σ H v u Q I r hw
  obtain ⟨a, xs, e1, hq, hl, hw⟩ := hw
  subst e1
  cases r
  obtain ⟨its, rv, ht, hz⟩ := I.tuple hq
  refine assign_Tuple_tuple (I.ok.hd hc) ht (by simp [hn, ← hl, rv.length]) hst fun h' hx => ?_
  have I1 : Inv X pins σ H { s with heap := h' } := I.kept (t' := s.toks) fun b o e => hx b o (Nat.ne_of_lt (Heap.lt_size e)) e
  exact h pins _ σ H xs _ Q I1 (by simpa using rv) hw
def tAsg (te : TE) (g : TG) : TS := fun D σ H => te σ H fun x H1 => g x σ H1 D.nx
theorem ps_asg {tg e : Expr} {te : TE} {g : TG} (he : PE X e te) (hg : PG X tg g) (hs : swapsWithSole [tg] e pos.line X.env = pure false := by rfl) (hw : swappedStores [tg] e X.env = pure none := by rfl)
    (h1 : (assignEach [tg] X.env).map (·.2) = [assign tg X.env] := by rfl) : PS X (.Assign [tg] e pos) (tAsg te g) := by
  intro pins s σ H D I h
  refine wpAny_Assign_stores (thn (he pins s σ H _ I h) fun v s1 ⟨x, H1, I1, r1, q1⟩ => ?_) hs hw
  rw [h1]
  exact thn (hg pins s1 σ H1 x v _ I1 r1 q1) fun _ s2 q => q
theorem ps_set {i : Nat} {x : Str} {e : Expr} {te : TE} {pos' : Pos} (hN : X.N.Nodup) (hi : X.N[i]? = some x) (hx : Loc X.env.scope x) (he : PE X e te) (hs : swapsWith e (some (.Name x pos')) pos.line X.env = pure false := by rfl) (hf : X.fn x = true ∨ X.env.scope.names.lookup x = some .local := by first | exact .inl rfl | exact .inr rfl | assumption) :
    PS X (.Assign [.Name x pos'] e pos) (tAsg te (gName i)) := by
  intro pins s σ H D I h
  refine wpAny_Assign_Name (thn (he pins s σ H _ I h) fun v s1 ⟨y, H1, I1, r1, q1⟩ => ?_) hs
  exact store_ok I1 hN hi hx r1 (fun s2 I2 => ⟨_, H1, I2, q1⟩) hf
end
section
variable {X : Cx} {pos : Pos}
def tWhile (c : TT) (tb : TS) : TS := fun D σ H => ∃ W : Nat → St → Hp → Prop, (∃ m, W m σ H) ∧ ∀ m σ H, W m σ H →
  c σ H fun b H1 => if b = true then ∃ N : St → Hp → Prop, (∀ σ' H', N σ' H' → ∃ m', m' < m ∧ W m' σ' H') ∧ tb { D with nx := N, ct := N, bk := D.nx } σ H1 else D.nx σ H1
theorem ps_while {c : Expr} {body : List Stmt} {tc : TT} {tb : TS} (hp : PassesOwn (model X.prog X.w) X.A X.env X.xe) (hc : PT X c tc) (hb : PSs X body tb) : PS X (.While c body [] pos) (tWhile tc tb) := by
  intro pins s σ H D I h
  obtain ⟨W, ⟨m0, w0⟩, turn⟩ := h
  refine wpAny_While (codeAny_whileLoop (fun n s' => ∃ σ' H', Inv X pins σ' H' s' ∧ W n σ' H') ?_ m0 ⟨σ, H, I, w0⟩)
  rintro n s1 ⟨σ1, H1, I1, w1⟩
  refine wpAny_passesOwn hp (thn (hc pins s1 σ1 H1 _ I1 (turn n σ1 H1 w1)) fun b s2 ⟨H2, I2, q2⟩ => ?_)
  cases b with
  | true =>
    obtain ⟨N, hN, q2⟩ := q2
    rw [if_pos rfl]
    refine wpAny_passesOwn hp (thn (hb pins s2 σ1 H2 _ I2 q2) fun f s3 q3 => ?_)
    cases f with
    | next =>
      obtain ⟨σ3, H3, I3, n3⟩ := q3
      obtain ⟨m', hm, w3⟩ := hN σ3 H3 n3
      exact ⟨m', hm, σ3, H3, I3, w3⟩
    | cont =>
      obtain ⟨σ3, H3, I3, n3⟩ := q3
      obtain ⟨m', hm, w3⟩ := hN σ3 H3 n3
      exact ⟨m', hm, σ3, H3, I3, w3⟩
    | brk => exact q3
    | ret v => exact q3
  | false =>
    rw [if_neg Bool.false_ne_true]
    exact wpAny_execs_nil ⟨σ1, H2, I2, q2⟩
end
structure It where
  go : Nat → Hp → Prop
  yld : Nat → Hp → V → Hp → Prop
  stop : Nat → Hp → Prop
def FpOk (X : Cx) (pins : List (Addr × Obj)) (H : Hp) (b : Addr) : Prop :=
  H b = none ∧ b ≠ X.env.locals ∧ b ∉ X.fs ∧ (b ∈ X.ex ∨ X.s₀.heap.objs.size ≤ b) ∧ (∀ x c, X.env.cells.lookup x = some c → c ≠ b) ∧ ∀ p ∈ X.pn ++ pins, p.1 ≠ b
theorem Inv.fpOk {X : Cx} {pins : List (Addr × Obj)} {σ : St} {H H' : Hp} {s : Shared} {b : Addr} (I : Inv X pins σ H s) (hb : s.heap.objs.size ≤ b) (hn : H' b = none) : FpOk X pins H' b := by
  refine ⟨hn, Nat.ne_of_gt (Nat.lt_of_lt_of_le I.lt hb), I.nofs hb, .inr (Nat.le_trans I.sz hb), fun x c e z => ?_, fun p hp z => ?_⟩
  · obtain ⟨v, q⟩ := I.cell x c e
    exact absurd (Nat.lt_of_lt_of_le q.lt (by rw [z]; exact hb)) (Nat.lt_irrefl _)
  · exact absurd (Nat.lt_of_lt_of_le (Heap.lt_size (I.pin p hp).1) (by rw [z]; exact hb)) (Nat.lt_irrefl _)
structure Turn (P : Program) (w : World) (K : PySem.W.Frag) (tg : Expr) (J : It) (fp : List Addr) (it : Addr) (tn : Nat → Heap → Prop) : Prop where
  mem : it ∈ fp
  obj : ∀ i h, tn i h → ∀ b ∈ fp, ∃ o, h.get? b = some o ∧ ∀ v, o.data ≠ .cell v
  keep : ∀ i h h', tn i h → (∀ b ∈ fp, ∀ o, h.get? b = some o → h'.get? b = some o) → tn i h'
  item : ∀ (X : Cx), X.prog = P → X.w = w → X.K = K → X.calm = true → ∀ (i : Nat) (pins : List (Addr × Obj)) (s : Shared) (σ : St) (H : Hp) (E : Value → Shared → Prop), Inv X pins σ H s → (∀ b ∈ fp, FpOk X pins H b) → tn i s.heap → J.go i H →
    wpAny (model P w) X.A (pyNext (.ref it)) (fun r s1 => ∃ u, r = some u ∧
      wpAny (model P w) X.A (letOwnedTupleGo tg (.ref it) u) (fun _ s2 => ∃ x H', Inv X pins σ H' s2 ∧ RelV x u ∧ J.yld i H x H' ∧ tn (i + 1) s2.heap ∧ ∀ b ∈ fp, H' b = none) E s1) E s
  done : ∀ (X : Cx), X.prog = P → X.w = w → X.K = K → X.calm = true → ∀ (i : Nat) (pins : List (Addr × Obj)) (s : Shared) (σ : St) (H : Hp) (E : Value → Shared → Prop), Inv X pins σ H s → (∀ b ∈ fp, FpOk X pins H b) → tn i s.heap → J.stop i H →
    wpAny (model P w) X.A (pyNext (.ref it)) (fun r s1 => r = none ∧ Inv X pins σ H s1) E s
  self : ∀ (A : Around) (i : Nat) (s : Shared) (Q : Value → Shared → Prop) (E : Value → Shared → Prop), tn i s.heap → Q (.ref it) s → wpAny (model P w) A (pyIter (.ref it)) Q E s
abbrev TI := St → Hp → (It → Hp → Prop) → Prop
def PIE (X : Cx) (pins : List (Addr × Obj)) (σ : St) (tg : Expr) (R : It → Hp → Prop) (itv : Value) (s2 : Shared) : Prop :=
  ∃ (it : Addr) (fp : List Addr) (tn : Nat → Heap → Prop) (J : It) (H' : Hp), itv = .ref it ∧ Inv X pins σ H' s2 ∧ Turn X.prog X.w X.K tg J fp it tn ∧ tn 0 s2.heap ∧ (∀ b ∈ fp, FpOk X pins H' b) ∧ R J H'
def PI (X : Cx) (tg iter : Expr) (wi : TI) : Prop :=
  ∀ (pins : List (Addr × Obj)) (s : Shared) (σ : St) (H : Hp) (R : It → Hp → Prop), Inv X pins σ H s → wi σ H R →
    wpAny (model X.prog X.w) X.A (eval iter X.env) (fun v s1 => wpAny (model X.prog X.w) X.A (pyIter v) (PIE X pins σ tg R) X.xe s1) X.xe s
theorem go_of {M : Model} {A : Around} {E : Value → Shared → Prop} {s : Shared} {tg : Expr} {it : Addr} {u : Value} {o : Obj} {n : String} {vs : Array Value} {Q : Unit → Shared → Prop} (ho : s.heap.get? it = some o) (hc : o.cls = .type n) (hd : o.data = .fields vs)
    (hn : ["enumerate", "zip", "dict_itemiterator", "dict_reverseitemiterator", "odict_iterator", "itertools.zip_longest", "itertools.pairwise"].contains n = false) (hQ : Q () s) : wpAny M A (letOwnedTupleGo tg (.ref it) u) Q E s := by
  unfold letOwnedTupleGo
  cases tg <;> first
    | exact wpAny_pure hQ
    | (cases u <;> first
        | exact wpAny_pure hQ
        | (refine wpAny_bind (wpAny_load ho ?_)
           rw [hc, hd]
           show wpAny M A (if (["enumerate", "zip", "dict_itemiterator", "dict_reverseitemiterator", "odict_iterator", "itertools.zip_longest", "itertools.pairwise"].contains n && vs[0]? == some (rawInt _)) = true then _ else _) Q E s
           rw [if_neg (by intro h; rw [hn, Bool.false_and] at h; cases h)]
           exact wpAny_pure hQ))
def Itl (K : PySem.W.Frag) (a : Addr) : It :=
  ⟨fun i H => ∃ xs x, SqL K H a xs ∧ xs[i]? = some x, fun i H x H' => H' = H ∧ ∀ xs, SqL K H a xs → xs[i]? = some x, fun i H => ∃ xs, SqL K H a xs ∧ xs.length ≤ i⟩
def Itr (lo : Int) (n : Nat) : It := ⟨fun i _ => i < n, fun i H x H' => H' = H ∧ x = .int (lo + i), fun i _ => n ≤ i⟩
theorem turn_list {P : Program} {w : World} {K : PySem.W.Frag} {tg : Expr} (a it : Addr) : Turn P w K tg (Itl K a) [it] it (fun i h => h.IsListIter it a i) where
  mem := by simp
  obj := fun i h st b hb => by
    have e : b = it := by simpa using hb
    subst e
    obtain ⟨o, e, c, d⟩ := st
    exact ⟨o, e, fun v z => by rw [d] at z; cases z⟩
  keep := fun i h h' st k => st.at fun o e => k it (by simp) o e
  item := by
    intro X hP hw hK hc i pins s σ H E I hf st hg
    subst hP hw hK
    obtain ⟨xs, x, hq, hx⟩ := hg
    obtain ⟨its, rv, p, hz⟩ := I.list hq
    obtain ⟨u, hu, ru⟩ := rv.get hx
    obtain ⟨f0, f1, f2, f3, f4, f5⟩ := hf it (by simp)
    refine wpAny_pyNext_list_item st p.isList (x := u) (by simpa using hu) fun h' st' sb => ?_
    have I1 : Inv X pins σ H { s with heap := h' } := I.turned (t' := s.toks) (fun b o hb e => (sb.2 b hb).trans e) f0 f1 f3 f4 f5
    obtain ⟨o, e, c, d⟩ := id st'
    exact ⟨u, rfl, go_of (s := { s with heap := h' }) e c d (by decide) ⟨x, H, I1, ru, ⟨rfl, fun ys hy => by rw [I.list_inj hy hq]; exact hx⟩, st', fun b hb => (hf b hb).1⟩⟩
  done := by
    intro X hP hw hK hc i pins s σ H E I hf st hg
    subst hP hw hK
    obtain ⟨xs, hq, hx⟩ := hg
    obtain ⟨its, rv, p, hz⟩ := I.list hq
    obtain ⟨f0, f1, f2, f3, f4, f5⟩ := hf it (by simp)
    have hl := rv.length
    exact wpAny_pyNext_list_end (I.ok.hd hc) st p.isList (by simp; omega) fun h' eb => ⟨rfl, I.turned (t' := s.toks) (fun b o hb e => eb b o hb e) f0 f1 f3 f4 f5⟩
  self := fun _ _ _ _ _ st h => wpAny_pyIter_listiter st h
theorem turn_range {P : Program} {w : World} {K : PySem.W.Frag} {tg : Expr} (it : Addr) (lo : Int) (n : Nat) : Turn P w K tg (Itr lo n) [it] it (fun i h => IsRangeIter h it (lo + (i : Nat) * 1) ((n : Int) - (i : Nat)) 1) where
  mem := by simp
  obj := fun i h st b hb => by
    have e : b = it := by simpa using hb
    subst e
    exact ⟨_, st, fun v z => by
      have z' : Data.fields _ = Data.cell v := z
      cases z'⟩
  keep := fun i h h' st k => k it (by simp) _ st
  item := by
    intro X hP hw hK hc i pins s σ H E I hf st hg
    subst hP hw hK
    obtain ⟨f0, f1, f2, f3, f4, f5⟩ := hf it (by simp)
    have W := Walks.range (prog := X.prog) (w := X.w) (I.ok.hd hc) it lo 1 n
    refine W.item i s _ _ hg st fun v h' tk hv st' kk => ?_
    obtain ⟨t, rfl⟩ := hv
    have I1 : Inv X pins σ H { s with heap := h', toks := tk } := I.turned (fun b o hb e => kk b o (by simpa using hb) e) f0 f1 f3 f4 f5
    refine ⟨_, rfl, go_of (s := { s with heap := h', toks := tk }) (n := "range_iterator") st' rfl rfl (by decide) ⟨.int (lo + i), H, I1, ⟨t, ?_⟩, ⟨rfl, rfl⟩, st', fun b hb => (hf b hb).1⟩⟩
    rw [Int.mul_one]
  done := by
    intro X hP hw hK hc i pins s σ H E I hf st hg
    subst hP hw hK
    obtain ⟨f0, f1, f2, f3, f4, f5⟩ := hf it (by simp)
    exact wpAny_pyNext_range_end (I.ok.hd hc) st (by have : n ≤ i := hg; omega) fun h' eb => ⟨rfl, I.turned (t' := s.toks) (fun b o hb e => eb b o hb e) f0 f1 f3 f4 f5⟩
  self := fun _ _ _ _ _ st h => wpAny_pyIter_rangeiter st h
end L2
namespace L2
open PySem PySem.Spec PyProof.Rows
section
variable {X : Cx} {tg : Expr}
def iList (K : PySem.W.Frag) (tl : TE) : TI := fun σ H R => tl σ H fun x H1 => ∃ a, x = .ref a ∧ (∃ xs, SqL K H1 a xs) ∧ R (Itl K a) H1
theorem pi_list {l : Expr} {tl : TE} (hl : PE X l tl) : PI X tg l (iList X.K tl) := by
  intro pins s σ H R I h
  refine thn (hl pins s σ H _ I h) fun v s1 ⟨x, H1, I1, r1, q1⟩ => ?_
  obtain ⟨a, e, ⟨xs, hq⟩, q⟩ := q1
  subst e
  cases r1
  obtain ⟨its, rv, p, hz⟩ := I1.list hq
  refine wpAny_pyIter_list p.isList ?_
  refine ⟨s1.heap.objs.size, [s1.heap.objs.size], _, _, H1, rfl, I1.kept (t' := s1.toks) fun b o e => Heap.get?_push_of_some _ e, turn_list a _, ⟨_, Heap.get?_push_size _ rfl, rfl, rfl⟩, fun b hb => ?_, q⟩
  have e : b = s1.heap.objs.size := by simpa using hb
  subst e
  exact I1.fpOk (Nat.le_refl _) (I1.hok.fresh (Nat.le_refl _))
theorem range_it {pins : List (Addr × Obj)} {σ : St} {H : Hp} {s : Shared} {R : It → Hp → Prop} {E : Value → Shared → Prop} {lo hi : Int} {t u v : Tok} {tk : Nat} (I : Inv X pins σ H s) (h1 : -(2 ^ 62) ≤ lo) (h2 : lo < 2 ^ 62) (h3 : -(2 ^ 62) ≤ hi) (h4 : hi < 2 ^ 62)
    (q : R (Itr lo (hi - lo).toNat) H) : wpAny (model X.prog X.w) X.A (pyIter (.ref s.heap.objs.size)) (PIE X pins σ tg R) E { s with heap := s.heap.push { cls := .type "range", data := .fields #[.int lo t, .int hi u, .int 1 v] }, toks := tk } := by
  refine wpAny_pyIter_range (IsRange.new ..) (small_one h1 h2 h3 h4) ?_
  have I1 : Inv X pins σ H { s with heap := s.heap.push { cls := .type "range", data := .fields #[.int lo t, .int hi u, .int 1 v] }, toks := tk } := I.kept fun b o e => Heap.get?_push_of_some _ e
  refine ⟨(s.heap.push { cls := .type "range", data := .fields #[.int lo t, .int hi u, .int 1 v] }).objs.size, [(s.heap.push { cls := .type "range", data := .fields #[.int lo t, .int hi u, .int 1 v] }).objs.size], _, _, H, rfl,
    I1.kept (t' := tk) fun b o e => Heap.get?_push_of_some _ e, turn_range _ lo (hi - lo).toNat, ?_, fun b hb => ?_, q⟩
  · have e1 : lo + ((0 : Nat) : Int) * 1 = lo := by simp
    have e2 : (((hi - lo).toNat : Nat) : Int) - ((0 : Nat) : Int) = Builtin.Range.rangeSize lo hi 1 := by rw [rangeSize_one]; split <;> omega
    show IsRangeIter _ _ (lo + ((0 : Nat) : Int) * 1) ((((hi - lo).toNat : Nat) : Int) - ((0 : Nat) : Int)) 1
    rw [e1, e2]
    exact Heap.get?_push_size _ rfl
  · have e : b = (s.heap.push { cls := .type "range", data := .fields #[.int lo t, .int hi u, .int 1 v] }).objs.size := by simpa using hb
    subst e
    exact I1.fpOk (Nat.le_refl _) (I1.hok.fresh (Nat.le_refl _))
def iRng1 (ta : TA) : TI := fun σ H R => ta σ H fun vs H1 => ∃ j : Int, vs = [.int j] ∧ -(2 ^ 62) ≤ j ∧ j < 2 ^ 62 ∧ R (Itr 0 j.toNat) H1
theorem pi_range1 {a : Expr} {ta : TA} {p pos : Pos} (hg : Gl X "range") (hm : X.mg "range" = none) (ha : PA X [a] ta) (hs : starEach [a] X.env = [(false, eval a X.env)] := by rfl) : PI X tg (.Call (.Name "range" p) [a] [] pos) (iRng1 ta) := by
  intro pins s σ H R I h
  refine Call_ (ld_blt I hg hm boot_range (PyProof.Rows.callWith_type1 (thn (ha pos pins s σ H _ I h) fun us s1 ⟨vs, H1, I1, r1, q1⟩ => ?_) hs rfl))
  obtain ⟨j, e, q1, q2, q⟩ := q1
  subst e
  cases r1 with
  | cons r rr =>
    cases rr
    obtain ⟨t, rfl⟩ := r
    exact call_range_1 (range_it I1 (by omega) (by omega) q1 q2 (by simpa using q))
def tFor (wi : TI) (g : TG) (tb : TS) : TS := fun D σ H => wi σ H fun J H1 => ∃ W : Nat → Nat → St → Hp → Prop, (∃ m, W 0 m σ H1) ∧ ∀ i m σ H, W i m σ H →
  (J.stop i H ∧ D.nx σ H) ∨ (J.go i H ∧ ∃ N : St → Hp → Prop, (∀ σ' H', N σ' H' → ∃ m', m' < m ∧ W (i + 1) m' σ' H') ∧ ∀ x H', J.yld i H x H' → g x σ H' fun σ2 H2 => tb { D with nx := N, ct := N, bk := D.nx } σ2 H2)
def pinsAt (fp : List Addr) (h : Heap) : List (Addr × Obj) := fp.filterMap fun b => (h.get? b).map fun o => (b, o)
theorem mem_pinsAt {fp : List Addr} {h : Heap} {b : Addr} {o : Obj} (hb : b ∈ fp) (e : h.get? b = some o) : (b, o) ∈ pinsAt fp h := List.mem_filterMap.mpr ⟨b, hb, by rw [e]; rfl⟩
theorem of_pinsAt {fp : List Addr} {h : Heap} {p : Addr × Obj} (hp : p ∈ pinsAt fp h) : p.1 ∈ fp ∧ h.get? p.1 = some p.2 := by
  obtain ⟨b, hb, e⟩ := List.mem_filterMap.mp hp
  cases q : h.get? b with
  | none => rw [q] at e; cases e
  | some o =>
    rw [q] at e
    have e' : (b, o) = p := Option.some.inj e
    subst e'
    exact ⟨hb, q⟩
theorem Inv.pinned {pins : List (Addr × Obj)} {σ : St} {H : Hp} {s : Shared} {fp : List Addr} (I : Inv X pins σ H s) (hf : ∀ b ∈ fp, FpOk X pins H b) (ho : ∀ b ∈ fp, ∃ o, s.heap.get? b = some o ∧ ∀ v, o.data ≠ .cell v) : Inv X (pins ++ pinsAt fp s.heap) σ H s :=
  I.pins_of fun p hp => (List.mem_append.mp hp).elim (fun z => I.pin p (List.mem_append_right _ z)) fun z => by
    obtain ⟨hb, e⟩ := of_pinsAt z
    obtain ⟨f0, f1, f2, _⟩ := hf p.1 hb
    obtain ⟨o, e', d⟩ := ho p.1 hb
    rw [e] at e'; cases e'
    exact ⟨e, f0, f1, f2, d⟩
theorem Inv.unpinned {pins pl : List (Addr × Obj)} {σ : St} {H : Hp} {s : Shared} (I : Inv X (pins ++ pl) σ H s) : Inv X pins σ H s := I.pins_of fun p hp => I.pin p (List.mem_append_right _ (List.mem_append_left _ hp))
theorem ps_for {iter : Expr} {body : List Stmt} {wi : TI} {g : TG} {tb : TS} {pos : Pos} (hp : PassesOwn (model X.prog X.w) X.A X.env X.xe) (hc : X.calm = true) (hi : PI X tg iter wi) (hg : PG X tg g) (hb : PSs X body tb)
    (hs : ∀ x, foldedSetIterable iter X.env x = pure x := by intro _; rfl) : PS X (.For tg iter body [] pos) (tFor wi g tb) := by
  intro pins s σ H D I h
  refine wpAny_For (thn (hi pins s σ H _ I h) fun v s1 h1 => thn h1 fun itv s2 h2 => ?_) hs
  obtain ⟨it, fp, tn, J, H2, e, I2, T, st2, f2, W, ⟨m0, w0⟩, turn⟩ := h2
  subst e
  have stat : ∀ {H' : Hp}, (∀ b ∈ fp, H' b = none) → ∀ b ∈ fp, FpOk X pins H' b := fun hn b hb => ⟨hn b hb, (f2 b hb).2⟩
  refine codeAny_forLoop_any (fun n s' => ∃ i σ' H', Inv X pins σ' H' s' ∧ tn i s'.heap ∧ (∀ b ∈ fp, H' b = none) ∧ W i n σ' H') ?_ m0 ⟨0, σ, H2, I2, st2, fun b hb => (f2 b hb).1, w0⟩
  rintro n s3 ⟨i, σ3, H3, I3, st3, fr3, w3⟩
  rcases turn i n σ3 H3 w3 with ⟨stop, qn⟩ | ⟨go, N, hN, step⟩
  · refine wpAny_passesOwn hp (thn (T.done X rfl rfl rfl hc i pins s3 σ3 H3 X.xe I3 (stat fr3) st3 stop) fun r s4 ⟨hr, I4⟩ => ?_)
    subst hr
    exact wpAny_execs_nil ⟨σ3, H3, I4, qn⟩
  · refine wpAny_passesOwn hp (thn (T.item X rfl rfl rfl hc i pins s3 σ3 H3 X.xe I3 (stat fr3) st3 go) fun r s4 ⟨u, hr, h4⟩ => ?_)
    subst hr
    refine wpAny_passesOwn hp (thn h4 fun _ s5 ⟨x, H5, I5, r5, y5, st5, fr5⟩ => ?_)
    have I5' := I5.pinned (stat fr5) (T.obj _ _ st5)
    refine wpAny_passesOwn hp (thn (hg _ s5 σ3 H5 x u _ I5' r5 (step x H5 y5)) fun _ s6 ⟨σ6, H6, I6, q6⟩ => ?_)
    refine wpAny_passesOwn hp (thn (hb _ s6 σ6 H6 _ I6 q6) fun f s7 q7 => ?_)
    have again : ∀ {σ7 : St} {H7 : Hp}, Inv X (pins ++ pinsAt fp s5.heap) σ7 H7 s7 → N σ7 H7 → ∃ m, m < n ∧ ∃ i σ' H', Inv X pins σ' H' s7 ∧ tn i s7.heap ∧ (∀ b ∈ fp, H' b = none) ∧ W i m σ' H' := fun {σ7 H7} I7 n7 => by
      obtain ⟨m', hm, w7⟩ := hN σ7 H7 n7
      refine ⟨m', hm, i + 1, σ7, H7, I7.unpinned, T.keep _ _ _ st5 fun b hb o e => (I7.pin (b, o) (List.mem_append_right _ (List.mem_append_right _ (mem_pinsAt hb e)))).1, fun b hb => ?_, w7⟩
      obtain ⟨o, e, d⟩ := T.obj _ _ st5 b hb
      exact (I7.pin (b, o) (List.mem_append_right _ (List.mem_append_right _ (mem_pinsAt hb e)))).2.1
    cases f with
    | next => obtain ⟨σ7, H7, I7, n7⟩ := q7; exact again I7 n7
    | cont => obtain ⟨σ7, H7, I7, n7⟩ := q7; exact again I7 n7
    | brk => obtain ⟨σ7, H7, I7, q7⟩ := q7; exact ⟨σ7, H7, I7.unpinned, q7⟩
    | ret v => obtain ⟨x7, σ7, H7, I7, r7, q7⟩ := q7; exact ⟨x7, σ7, H7, I7.unpinned, r7, q7⟩
end
end L2
namespace L2
open PySem PySem.Spec PyProof.Rows
abbrev R2 := V → V → Hp → VK → Prop
def OpR (X : Cx) (f : Value → Value → Sem Value) (r : R2) : Prop :=
  ∀ (pins : List (Addr × Obj)) (s : Shared) (σ : St) (H : Hp) (x y : V) (v u : Value) (Q : VK), Inv X pins σ H s → RelV x v → RelV y u → r x y H Q →
    wpAny (model X.prog X.w) X.A (f v u) (EP X pins σ Q) X.xe s
def UnR (X : Cx) (f : Value → Sem Value) (r : V → Hp → VK → Prop) : Prop :=
  ∀ (pins : List (Addr × Obj)) (s : Shared) (σ : St) (H : Hp) (x : V) (v : Value) (Q : VK), Inv X pins σ H s → RelV x v → r x H Q →
    wpAny (model X.prog X.w) X.A (f v) (EP X pins σ Q) X.xe s
def CallR (X : Cx) (f : Value) (r : List V → Hp → VK → Prop) : Prop :=
  ∀ (pins : List (Addr × Obj)) (s : Shared) (σ : St) (H : Hp) (xs : List V) (us : List Value) (Q : VK), Inv X pins σ H s → Vals xs us → r xs H Q →
    wpAny (model X.prog X.w) X.A (call f us) (EP X pins σ Q) X.xe s
def TruR (X : Cx) (r : V → Hp → (Bool → Hp → Prop) → Prop) : Prop :=
  ∀ (pins : List (Addr × Obj)) (s : Shared) (σ : St) (H : Hp) (x : V) (v : Value) (Q : Bool → Hp → Prop), Inv X pins σ H s → RelV x v → r x H Q →
    wpAny (model X.prog X.w) X.A (truthy v) (TP X pins σ Q) X.xe s
def tOp (r : R2) (ta tb : TE) : TE := fun σ H Q => ta σ H fun x H1 => tb σ H1 fun y H2 => r x y H2 Q
def tUn (r : V → Hp → VK → Prop) (ta : TE) : TE := fun σ H Q => ta σ H fun x H1 => r x H1 Q
def rI (C : Int → Int → Prop) (g : Int → Int → V) : R2 := fun x y H Q => ∃ i j, x = .int i ∧ y = .int j ∧ C i j ∧ Q (g i j) H
def rI0 (g : Int → Int → V) : R2 := fun x y H Q => ∃ i j, x = .int i ∧ y = .int j ∧ Q (g i j) H
def rU (g : Int → V) : V → Hp → VK → Prop := fun x H Q => ∃ i, x = .int i ∧ Q (g i) H
section
variable {X : Cx} {a b c : Expr} {ta tb tc : TE} {pos : Pos}
theorem binT (ha : PE X a ta) (hb : PE X b tb) {pins : List (Addr × Obj)} {s : Shared} {σ : St} {H : Hp} {R : V → V → Hp → Prop} (I : Inv X pins σ H s)
    (h : ta σ H fun x H1 => tb σ H1 fun y H2 => R x y H2) {Q : Value → Shared → Prop} {f : Value → Value → Sem Value}
    (hf : ∀ v u s2 x y H2, Inv X pins σ H2 s2 → RelV x v → RelV y u → R x y H2 → wpAny (model X.prog X.w) X.A (f v u) Q X.xe s2) :
    wpAny (model X.prog X.w) X.A (eval a X.env) (fun v s₁ => wpAny (model X.prog X.w) X.A (eval b X.env) (fun u s₂ => wpAny (model X.prog X.w) X.A (f v u) Q X.xe s₂) X.xe s₁) X.xe s := by
  refine thn (ha pins s σ H _ I h) fun v s1 ⟨x, H1, I1, r1, q1⟩ => ?_
  refine thn (hb pins s1 σ H1 _ I1 q1) fun u s2 ⟨y, H2, I2, r2, q2⟩ => ?_
  exact hf v u s2 x y H2 I2 r1 r2 q2
theorem pe_op {op : Operator} {r : R2} (ho : OpR X (binaryOp op) r) (ha : PE X a ta) (hb : PE X b tb) : PE X (.BinOp a op b pos) (tOp r ta tb) := by
  intro pins s σ H Q I h
  exact wpAny_BinOp (binT ha hb I h fun v u s2 x y H2 I2 rx ry q => ho pins s2 σ H2 x y v u Q I2 rx ry q)
theorem pe_un {op : UnaryOp} {r : V → Hp → VK → Prop} (ho : UnR X (unaryOp op) r) (ha : PE X a ta) : PE X (.UnaryOp op a pos) (tUn r ta) := by
  intro pins s σ H Q I h
  exact UnaryOp_ (thn (ha pins s σ H _ I h) fun v s1 ⟨x, H1, I1, r1, q1⟩ => ho pins s1 σ H1 x v Q I1 r1 q1)
theorem opI {f : Value → Value → Sem Value} {C : Int → Int → Prop} {g : Int → Int → Int}
    (rule : ∀ (i j : Int) (t u : Tok) (s : Shared) (Q : Value → Shared → Prop) (E : Value → Shared → Prop), C i j → Q (.int (g i j) s.toks) { s with toks := s.toks + 1 } → wpAny (model X.prog X.w) X.A (f (.int i t) (.int j u)) Q E s) :
    OpR X f (rI C fun i j => .int (g i j)) := by
  intro pins s σ H x y v u Q I rx ry h
  obtain ⟨i, j, rfl, rfl, hc, q⟩ := h
  obtain ⟨t, rfl⟩ := rx
  obtain ⟨t', rfl⟩ := ry
  exact rule i j t t' s _ _ hc ⟨.int (g i j), H, I.tok _, ⟨_, rfl⟩, q⟩
theorem opI0 {f : Value → Value → Sem Value} {g : Int → Int → Int}
    (rule : ∀ (i j : Int) (t u : Tok) (s : Shared) (Q : Value → Shared → Prop) (E : Value → Shared → Prop), Q (.int (g i j) s.toks) { s with toks := s.toks + 1 } → wpAny (model X.prog X.w) X.A (f (.int i t) (.int j u)) Q E s) :
    OpR X f (rI0 fun i j => .int (g i j)) := by
  intro pins s σ H x y v u Q I rx ry h
  obtain ⟨i, j, rfl, rfl, q⟩ := h
  obtain ⟨t, rfl⟩ := rx
  obtain ⟨t', rfl⟩ := ry
  exact rule i j t t' s _ _ ⟨.int (g i j), H, I.tok _, ⟨_, rfl⟩, q⟩
theorem opB0 {f : Value → Value → Sem Value} {g : Int → Int → Bool}
    (rule : ∀ (i j : Int) (t u : Tok) (s : Shared) (Q : Value → Shared → Prop) (E : Value → Shared → Prop), Q (.bool (g i j)) s → wpAny (model X.prog X.w) X.A (f (.int i t) (.int j u)) Q E s) :
    OpR X f (rI0 fun i j => .bl (g i j)) := by
  intro pins s σ H x y v u Q I rx ry h
  obtain ⟨i, j, rfl, rfl, q⟩ := h
  obtain ⟨t, rfl⟩ := rx
  obtain ⟨t', rfl⟩ := ry
  exact rule i j t t' s _ _ ⟨.bl (g i j), H, I, rfl, q⟩
def CPow (i j : Int) : Prop := 0 ≤ j ∧ j ≤ 1000000 ∧ i.natAbs < 2 ^ 64
def CMul (i j : Int) : Prop := (-(2 ^ 64) < i ∧ i < 2 ^ 64) ∨ (-(2 ^ 64) < j ∧ j < 2 ^ 64)
theorem CMul.ok {i j : Int} (h : CMul i j) : IntMulOk i j := by
  rcases h with ⟨h1, h2⟩ | ⟨h1, h2⟩
  · exact .of_left (intBits_le_64 h1 h2)
  · exact .of_right (intBits_le_64 h1 h2)
theorem two_pow_nn (k : Nat) : (0 : Int) ≤ 2 ^ k := by
  rw [two_pow_cast]
  exact Int.natCast_nonneg _
theorem op_add : OpR X (binaryOp .Add) (rI0 fun i j => .int (i + j)) := opI0 fun _ _ _ _ _ _ _ q => add_int q
theorem op_mul : OpR X (binaryOp .Mult) (rI CMul fun i j => .int (i * j)) := opI fun _ _ _ _ _ _ _ hc q => mul_int q hc.ok
theorem op_mod : OpR X (binaryOp .Mod) (rI (fun _ j => 0 < j) fun i j => .int (i % j)) := opI fun i j _ _ _ _ _ hc q => by
  have h1 : (0 : Int) < j := hc
  exact mod_int' (by omega) (by rw [Int.fmod_eq_emod_of_nonneg i (by omega)]; exact q)
theorem op_pow : OpR X (binaryOp .Pow) (rI CPow fun i j => .int (i ^ j.toNat)) := opI fun _ _ _ _ _ _ _ hc q => pow_int_small hc.1 hc.2.1 hc.2.2 q
theorem op_shr : OpR X (binaryOp .RShift) (rI (fun _ j => 0 ≤ j) fun i j => .int (i / 2 ^ j.toNat)) := opI fun i j _ _ _ _ _ hc q =>
  rshift_int hc (by rw [Int.fdiv_eq_ediv_of_nonneg i (two_pow_nn _)]; exact q)
theorem iop_add : OpR X (inplaceOp .Add) (rI0 fun i j => .int (i + j)) := opI0 fun _ _ _ _ _ _ _ q => iadd_int q
theorem unI {f : Value → Sem Value} {g : Int → Int}
    (rule : ∀ (i : Int) (t : Tok) (s : Shared) (Q : Value → Shared → Prop) (E : Value → Shared → Prop), Q (.int (g i) s.toks) { s with toks := s.toks + 1 } → wpAny (model X.prog X.w) X.A (f (.int i t)) Q E s) :
    UnR X f (rU fun i => .int (g i)) := by
  intro pins s σ H x v Q I rx h
  obtain ⟨i, rfl, q⟩ := h
  obtain ⟨t, rfl⟩ := rx
  exact rule i t s _ _ ⟨.int (g i), H, I.tok _, ⟨_, rfl⟩, q⟩
theorem un_neg : UnR X (unaryOp .USub) (rU fun i => .int (-i)) := unI fun _ _ _ _ _ q => neg_int q
end
section
variable {X : Cx} {a b c : Expr} {ta tb tc : TE} {pos : Pos}
theorem fin_bl {pins : List (Addr × Obj)} {σ : St} {H : Hp} {s : Shared} {Q : VK} {k k' : Bool} (I : Inv X pins σ H s) (q : Q (.bl k) H) (e : k = k') : EP X pins σ Q (.bool k') s := by
  subst e
  exact ⟨.bl k, H, I, rfl, q⟩
theorem op_lt : OpR X (compareOp .Lt) (rI0 fun i j => .bl (decide (i < j))) := opB0 fun _ _ _ _ _ _ _ q => lt_int q
theorem op_gt : OpR X (compareOp .Gt) (rI0 fun i j => .bl (decide (j < i))) := opB0 fun _ _ _ _ _ _ _ q => gt_int q
theorem op_ge : OpR X (compareOp .GtE) (rI0 fun i j => .bl (decide (j ≤ i))) := opB0 fun _ _ _ _ _ _ _ q => ge_int q
theorem op_isN : OpR X (compareOp .Is) (fun x y H Q => y = .non ∧ Q (.bl (decide (x = .non))) H) := by
  intro pins s σ H x y v u Q I rx ry h
  obtain ⟨rfl, q⟩ := h
  cases ry
  refine is_none_gen (fin_bl I q ?_)
  cases x <;> first
    | (cases rx; rfl)
    | (obtain ⟨t, rfl⟩ := rx; rfl)
theorem op_notN : OpR X (compareOp .IsNot) (fun x y H Q => y = .non ∧ Q (.bl (!decide (x = .non))) H) := by
  intro pins s σ H x y v u Q I rx ry h
  obtain ⟨rfl, q⟩ := h
  cases ry
  refine isnot_none_gen (fin_bl I q ?_)
  cases x <;> first
    | (cases rx; rfl)
    | (obtain ⟨t, rfl⟩ := rx; rfl)
theorem OpR.or {f : Value → Value → Sem Value} {r r' : R2} (h : OpR X f r) (h' : OpR X f r') : OpR X f (fun x y H Q => r x y H Q ∨ r' x y H Q) := by
  intro pins s σ H x y v u Q I rx ry q
  rcases q with q | q
  · exact h pins s σ H x y v u Q I rx ry q
  · exact h' pins s σ H x y v u Q I rx ry q
theorem nomark (b : Expr) {op : CmpOp} (h : op ≠ .In := by decide) (h2 : op ≠ .NotIn := by decide) : behindInMarks op b = false := by
  have e1 : (op == CmpOp.In) = false := by cases op <;> first | rfl | exact absurd rfl h
  have e2 : (op == CmpOp.NotIn) = false := by cases op <;> first | rfl | exact absurd rfl h2
  cases b <;> simp [behindInMarks, e1, e2]
theorem pe_cmpR {op : CmpOp} {r : R2} (ho : OpR X (compareOp op) r) (ha : PE X a ta) (hb : PE X b tb) (hm : behindInMarks op b = false) : PE X (.Compare a [op] [b] pos) (tOp r ta tb) := by
  intro pins s σ H Q I h
  exact wpAny_Compare1 (binT ha hb I h fun v u s2 x y H2 I2 rx ry q => ho pins s2 σ H2 x y v u Q I2 rx ry q) hm
def tTest (t : TE) : TT := fun σ H Q => t σ H fun x H' => ∃ k, x = .bl k ∧ Q k H'
theorem pt_cmpR {op : CmpOp} {r : R2} (ho : OpR X (compareOp op) r) (ha : PE X a ta) (hb : PE X b tb) (hm : behindInMarks op b = false) : PT X (.Compare a [op] [b] pos) (tTest (tOp r ta tb)) := by
  intro pins s σ H Q I h
  refine wpAny_isTrue_Compare1 (thn (ha pins s σ H _ I h) fun v s1 ⟨x, H1, I1, r1, q1⟩ => thn (hb pins s1 σ H1 _ I1 q1) fun u s2 ⟨y, H2, I2, r2, q2⟩ =>
    thn (ho pins s2 σ H2 x y v u _ I2 r1 r2 q2) fun c s3 ⟨z, H3, I3, r3, k, e, q3⟩ => ?_) hm
  subst e
  cases r3
  exact wpAny_truthy_bool ⟨H3, I3, q3⟩
def TruV (K : PySem.W.Frag) (x : V) (H : Hp) (k : Bool) : Prop :=
  match x with
  | .non => k = false
  | .bl b => k = b
  | .int i => k = (i != 0)
  | .str y => y.length ≤ sizeLine ∧ k = ((y.length : Int) != 0)
  | .byt y => y.size ≤ sizeLine ∧ k = ((y.size : Int) != 0)
  | .ref p => (∃ xs, SqL K H p xs ∧ k = !xs.isEmpty) ∨ (∃ xs, SqT K H p xs ∧ k = !xs.isEmpty) ∨ ∃ kvs, H p = some (.dK kvs) ∧ k = !kvs.isEmpty
  | _ => False
theorem isEmpty_kv {κ : Type} {kvs : List (κ × V)} {vs : List (κ × Value)} (r : KV kvs vs) : (!vs.isEmpty) = !kvs.isEmpty := by
  cases r <;> rfl
theorem isEmpty_of {xs : List V} {its : List Value} (r : Vals xs its) : (!its.toArray.isEmpty) = !xs.isEmpty := by
  cases r <;> simp
theorem line63 : (sizeLine : Nat) < 2 ^ 63 := by rw [sizeLine_eq]; decide
theorem tru_ok : TruR X (fun x H Q => ∃ k, TruV X.K x H k ∧ Q k H) := by
  intro pins s σ H x v Q I rx h
  obtain ⟨k, e, q⟩ := h
  have hl := line63
  have hs : sizeLine = 16777216 := sizeLine_eq
  cases x with
  | non =>
    cases rx
    have e' : k = false := e
    subst e'
    exact truthy_none ⟨H, I, q⟩
  | bl b =>
    cases rx
    have e' : k = b := e
    subst e'
    exact wpAny_truthy_bool ⟨H, I, q⟩
  | int i =>
    obtain ⟨t, rfl⟩ := rx
    have e' : k = (i != 0) := e
    subst e'
    exact PySem.P.truthy_int ⟨H, I, q⟩
  | str y =>
    obtain ⟨t, rfl⟩ := rx
    obtain ⟨hy, e'⟩ : y.length ≤ sizeLine ∧ k = ((y.length : Int) != 0) := e
    subst e'
    exact PySem.P.truthy_str (by omega) ⟨H, I.tok _, q⟩
  | byt y =>
    obtain ⟨t, rfl⟩ := rx
    obtain ⟨hy, e'⟩ : y.size ≤ sizeLine ∧ k = ((y.size : Int) != 0) := e
    subst e'
    exact PySem.W.truthy_bytes (by omega) ⟨H, I.tok _, q⟩
  | ref p =>
    cases rx
    have e' : (∃ xs, SqL X.K H p xs ∧ k = !xs.isEmpty) ∨ (∃ xs, SqT X.K H p xs ∧ k = !xs.isEmpty) ∨ ∃ kvs, H p = some (.dK kvs) ∧ k = !kvs.isEmpty := e
    rcases e' with ⟨xs, hx, e'⟩ | ⟨xs, hx, e'⟩ | ⟨kvs, hx, e'⟩
    · subst e'
      obtain ⟨its, r, pl, hz⟩ := I.list hx
      have hlen := r.length
      exact wpAny_truthy_list pl.isList (by simp only [List.size_toArray]; omega) ⟨H, I.tok _, by rw [isEmpty_of r]; exact q⟩
    · subst e'
      obtain ⟨its, r, pl, hz⟩ := I.tuple hx
      have hlen := r.length
      exact truthy_tuple pl (by simp only [List.size_toArray]; omega) ⟨H, I.tok _, by rw [isEmpty_of r]; exact q⟩
    · subst e'
      obtain ⟨hz, hS, vs, r, m⟩ : kvs.length ≤ sizeLine ∧ (p == sysModules) = false ∧ ∃ vs, KV kvs vs ∧ s.heap.DictOf (mixKind X.prog X.w) p vs := I.hok p _ hx
      have hlen : kvs.length = vs.length := Paired.length r
      exact wpAny_truthy_dict hS m (by omega) ⟨H, I.tok _, by rw [isEmpty_kv r]; exact q⟩
  | _ => exact (show False from e).elim
theorem pt_truth (ha : PE X a ta) (he : ∀ whole, isTrue a X.env whole = (do let v ← whole; standAt a.pos; holding [v] (truthy v))) :
    PT X a (fun σ H Q => ta σ H fun x H' => ∃ k, TruV X.K x H' k ∧ Q k H') := by
  intro pins s σ H Q I h
  exact isTrue_plain (thn (ha pins s σ H _ I h) fun v s1 ⟨x, H1, I1, r1, q1⟩ => tru_ok pins s1 σ H1 x v Q I1 r1 q1) (he _)
theorem vals1 {x : V} {us : List Value} (r : Vals [x] us) : ∃ u, us = [u] ∧ RelV x u := by
  cases r with
  | cons r1 r2 => cases r2; exact ⟨_, rfl, r1⟩
theorem vals2 {x y : V} {us : List Value} (r : Vals [x, y] us) : ∃ u w', us = [u, w'] ∧ RelV x u ∧ RelV y w' := by
  cases r with
  | cons r1 r2 =>
    cases r2 with
    | cons r3 r4 => cases r4; exact ⟨_, _, rfl, r1, r3⟩
end
end L2
namespace L2
open PySem PySem.Spec PyProof.Rows
structure ObjM (h : Heap) (x dx C : Addr) (mA : Str → Option Value) : Prop where
  obj : h.get? x = some (PySem.W.instObj C dx)
  ns : h.Ns1 dx mA
  ne : dx ≠ x
theorem lookIn_ns {h : Heap} {dx : Addr} {mA : Str → Option Value} (n : h.Ns1 dx mA) : ∃ od, h.get? dx = some od ∧ ∀ name, PySem.W.lookIn name od = some (mA name) := by
  obtain ⟨o, es, ep, ho, hd, hk, _, hm⟩ := n
  refine ⟨o, ho, fun name => ?_⟩
  have e := hm name
  unfold nsFind findBy at e
  rw [← Array.find?_toList] at e
  unfold PySem.W.lookIn
  rw [hd]
  dsimp only
  split
  · rename_i y q
    rw [q] at e
    exact congrArg some e
  · rename_i q
    rw [q] at e
    have a : es.toList.any (·.refKey) = false := by
      rw [List.any_eq_false]
      intro y hy
      obtain ⟨z, t, hkey⟩ := hk y (Array.mem_toList_iff.mp hy)
      simp [DictEntry.refKey, hkey]
    have a' : ¬ es.toList.any (·.refKey) = true := by rw [a]; exact Bool.false_ne_true
    rw [if_neg a']
    exact congrArg some e
theorem ObjM.look {h : Heap} {x dx C : Addr} {mA : Str → Option Value} (I : ObjM h x dx C mA) : ∃ od, PySem.W.InstAt h x (PySem.W.instObj C dx) C (some od) ∧ ∀ name, PySem.W.lookIn name od = some (mA name) :=
  let ⟨od, ho, hl⟩ := lookIn_ns I.ns
  ⟨od, ⟨I.obj, rfl, rfl, ho⟩, hl⟩
section
variable {prog : Program} {w : World} {A : Around} {E : Value → Shared → Prop} {s : Shared} {K : PySem.W.Frag} {x dx C f : Addr} {mA : Str → Option Value} {name : Str} {v : Value}
theorem get_map {expr : Bool} {Q : Value → Shared → Prop} (X : K.In s.heap) (I : ObjM s.heap x dx C mA) (hg : PySem.W.plainGet K C name = true) (hh : PySem.W.hasDictIn K C = true)
    (ha : PySem.W.findIn K (.ref C) name = some none) (hv : mA name = some v) (hv' : PySem.W.handedIn v = true) (h : Q v { s with toks := s.toks + 1 }) :
    wpAny (model prog w) A (getAttr (.ref x) name expr) Q E s := by
  obtain ⟨od, J, hl⟩ := I.look
  exact PySem.W.get_value X J (PySem.W.plainGet_of hg).1 (PySem.W.findObj_own hh ha rfl (by rw [hl, hv])) hv' h
theorem get_meth {pl : Sem Bool} {Q : Value × List Value → Shared → Prop} (X : K.In s.heap) (I : ObjM s.heap x dx C mA) (hg : PySem.W.plainGet K C name = true)
    (hf : PySem.W.findIn K (.ref C) name = some (some (.ref f))) (ht : PySem.W.isFn K (.ref f) = true) (hv : mA name = none) (h : Q (.ref f, [.ref x]) s) :
    wpAny (model prog w) A (getMethod (.ref x) name pl) Q E s := by
  obtain ⟨od, J, hl⟩ := I.look
  exact PySem.W.method_fn X J (PySem.W.plainGet_of hg).1 (PySem.W.plainGet_of hg).2 hf (beq_iff_eq.mp ht) (by show (PySem.W.lookIn name od).map (·.isSome) = some false; rw [hl, hv]; rfl) h
theorem set_map {ns : List Str} {Q : Unit → Shared → Prop} (X : K.In s.heap) (I : ObjM s.heap x dx C mA)
    (hs : PySem.W.findIn K (.ref C) "__setattr__" = some (some (.builtin "object.__setattr__"))) (hp : PySem.W.plainOver K C = true) (ht : PySem.W.takerIn K C name = some none) (hh : PySem.W.hasDictIn K C = true)
    (hw : PySem.Within mA ns) (hsz : ns.length ≤ sizeLine)
    (h : ∀ h', ObjM h' x dx C (fun y => if y = name then some v else mA y) → Heap.SameBut dx s.heap h' → Q () { s with heap := h', toks := s.toks + 2 }) :
    wpAny (model prog w) A (setAttr (.ref x) name v) Q E s := by
  obtain ⟨od, J, hl⟩ := I.look
  refine PySem.W.set_plain X J hs (PySem.W.osa_open (s := { s with toks := s.toks + 1 }) (r := none) X J hp ht fun b => ?_)
  obtain ⟨cd, hc, hd'⟩ := PySem.W.any_some hh
  have hx : s.heap.get? x = some ⟨.ref C, some dx, .plain, #[]⟩ := I.obj
  refine wpAny_bind (wpAny_pure (wpAny_bind (wpAny_bind (wpAny_loadPart hx (wpAny_bind (PySem.W.Looks.here (s := { s with toks := s.toks + 1 }) (PySem.W.looks_clsIn X hc) ?_))))))
  rw [hd']
  refine wpAny_pure (a := some dx) (wpAny_bind (wpAny_pure (wpAny_bind ?_)))
  refine wpAny_nsSet1 (s := { s with toks := s.toks + 1 }) I.ns fun h' hn2 hs2 => ?_
  obtain ⟨oD, esD, epD, hoD, hdD, hcD⟩ := hn2.count (PySem.Within.cons name v hw)
  refine wpAny_bind (wpAny_lookBehind hoD (by rw [hdD]; exact pastItsLine_dict (Nat.le_trans hcD (by rw [List.length_cons]; omega))) ?_)
  exact wpAny_pure (h _ ⟨(hs2.2 _ (Ne.symm I.ne)).trans I.obj, hn2, I.ne⟩ hs2)
theorem make_map {R : Result → Shared → Prop} {vs : List Value} {kw : List (Str × Value)} (X : K.In s.heap) (hm : PySem.W.makesIn K C = true)
    (hi : PySem.W.findIn K (.ref C) "__init__" = some (some (.ref f))) (hf : PySem.W.typeIn K (.ref f) = some (.type "function"))
    (h : codeAny (model prog w) (A.under (.builtin "type.__call__" ⟨.ref C :: vs, kw⟩)) (.call (.ref f) ⟨.ref (s.heap.objs.size + 1) :: vs, kw⟩) (PySem.W.InitBack (s.heap.objs.size + 1) R)
      { s with heap := (s.heap.push PySem.W.emptyDict).push (PySem.W.instObj C s.heap.objs.size) }) :
    codeAny (model prog w) A (.call (.ref C) ⟨vs, kw⟩) R s := by
  obtain ⟨hh, g, d, t, os⟩ := s
  exact PySem.W.make_core (PySem.W.makes_of X hm) (PySem.W.looks_findIn X hi) (fun self => PySem.W.bind_fn X self hf) (.inl rfl) h
end
def putF (f : Str) (v : V) : List (Str × V) → List (Str × V)
  | [] => [(f, v)]
  | (g, x) :: r => if g = f then (g, v) :: r else (g, x) :: putF f v r
theorem lookup_putF (f g : Str) (v : V) : ∀ fs : List (Str × V), (putF f v fs).lookup g = if g = f then some v else fs.lookup g
  | [] => by
    show List.lookup g [(f, v)] = _
    by_cases h : g = f
    · have hb : (g == f) = true := beq_iff_eq.mpr h
      simp only [List.lookup, hb, if_pos h]
    · have hb : (g == f) = false := beq_eq_false_iff_ne.mpr h
      simp only [List.lookup, hb, if_neg h]
  | (k, x) :: r => by
    have ih := lookup_putF f g v r
    rw [show putF f v ((k, x) :: r) = (if k = f then (k, v) :: r else (k, x) :: putF f v r) from rfl]
    by_cases hk : k = f
    · rw [if_pos hk]
      by_cases h : g = k
      · have hb : (g == k) = true := beq_iff_eq.mpr h
        simp only [List.lookup, hb, if_pos (h.trans hk)]
      · have hb : (g == k) = false := beq_eq_false_iff_ne.mpr h
        simp only [List.lookup, hb, if_neg (fun e : g = f => h (e.trans hk.symm))]
    · rw [if_neg hk]
      by_cases h : g = k
      · have hb : (g == k) = true := beq_iff_eq.mpr h
        simp only [List.lookup, hb, if_neg (fun e : g = f => hk (h.symm.trans e))]
      · have hb : (g == k) = false := beq_eq_false_iff_ne.mpr h
        simp only [List.lookup, hb]
        exact ih
theorem keys_putF (f : Str) (v : V) : ∀ fs : List (Str × V), f ∈ (putF f v fs).map (·.1) ∧ ∀ g, g ∈ fs.map (·.1) → g ∈ (putF f v fs).map (·.1)
  | [] => ⟨by simp [putF], fun g h => by simp at h⟩
  | (k, x) :: r => by
    obtain ⟨i1, i2⟩ := keys_putF f v r
    rw [show putF f v ((k, x) :: r) = (if k = f then (k, v) :: r else (k, x) :: putF f v r) from rfl]
    by_cases hk : k = f
    · rw [if_pos hk]
      subst hk
      exact ⟨by simp, fun g h => by simpa using h⟩
    · rw [if_neg hk]
      refine ⟨?_, fun g h => ?_⟩
      · rw [List.map_cons]
        exact List.mem_cons_of_mem _ i1
      · rw [List.map_cons] at h ⊢
        rcases List.mem_cons.mp h with e | e
        · exact List.mem_cons.mpr (.inl e)
        · exact List.mem_cons_of_mem _ (i2 g e)
theorem length_putF (f : Str) (v : V) : ∀ fs : List (Str × V), (putF f v fs).length ≤ fs.length + 1
  | [] => by simp [putF]
  | (k, x) :: r => by
    have ih := length_putF f v r
    rw [show putF f v ((k, x) :: r) = (if k = f then (k, v) :: r else (k, x) :: putF f v r) from rfl]
    by_cases hk : k = f
    · rw [if_pos hk, List.length_cons, List.length_cons]; omega
    · rw [if_neg hk, List.length_cons, List.length_cons]; omega
theorem RelO.some_of {v : V} {o : Option Value} (r : RelO (some v) o) : ∃ u, o = some u ∧ RelV v u := by
  cases o with
  | none => exact (show False from r).elim
  | some u => exact ⟨u, rfl, r⟩
theorem RelO.none_of {o : Option Value} (r : RelO none o) : o = none := by
  cases o with
  | none => rfl
  | some u => exact (show False from r).elim
theorem handed_of {v : V} {u : Value} (r : RelV v u) : PySem.W.handedIn u = true := by
  cases v with
  | non => cases (show u = Value.none from r); rfl
  | bl b => cases (show u = Value.bool b from r); rfl
  | int i => obtain ⟨t, e⟩ := (show ∃ t, u = Value.int i t from r); cases e; rfl
  | str x => obtain ⟨t, e⟩ := (show ∃ t, u = Value.str x t from r); cases e; rfl
  | byt b => obtain ⟨t, e⟩ := (show ∃ t, u = Value.bytes b t from r); cases e; rfl
  | flt b => obtain ⟨t, e⟩ := (show ∃ t, u = Value.float b t from r); cases e; rfl
  | ref a => cases (show u = Value.ref a from r); rfl
  | ty n => cases (show u = Value.type n from r); rfl
section
variable {P : Program} {w : World} {H H' : Hp} {h h' : Heap} {a C dx : Addr} {fs fs' : List (Str × V)}
theorem ins_get (hok : HOk P w H h) (e : H a = some (.ins C dx fs)) : ∃ mA, ObjM h a dx C mA ∧ (∀ f, RelO (fs.lookup f) (mA f)) ∧ PySem.Within mA (fs.map (·.1)) ∧ fs.length ≤ 1000 ∧ H dx = some (.own a) := by
  obtain ⟨d, z, ne, ob, mA, n, r, q⟩ := (show ObjOk P w H h a (.ins C dx fs) from hok a _ e)
  exact ⟨mA, ⟨ob, n, ne⟩, r, q, z, d⟩
end
structure Cls (K : PySem.W.Frag) (C : Addr) : Prop where
  pg : PySem.W.plainGet K C Str.empty = true
  hd : PySem.W.hasDictIn K C = true
  po : PySem.W.plainOver K C = true
  sa : PySem.W.findIn K (.ref C) "__setattr__" = some (some (.builtin "object.__setattr__"))
theorem Cls.get {K : PySem.W.Frag} {C : Addr} (c : Cls K C) (f : Str) : PySem.W.plainGet K C f = true := c.pg
def NoAttr (K : PySem.W.Frag) (C : Addr) (f : Str) : Prop := PySem.W.findIn K (.ref C) f = some none
theorem NoAttr.taker {K : PySem.W.Frag} {C : Addr} {f : Str} (n : NoAttr K C f) : PySem.W.takerIn K C f = some none := by
  unfold PySem.W.takerIn
  rw [show PySem.W.findIn K (.ref C) f = some none from n]
  rfl
structure Meth (K : PySem.W.Frag) (C : Addr) (m : Str) (f : Addr) : Prop where
  at_ : PySem.W.findIn K (.ref C) m = some (some (.ref f))
  fn : PySem.W.isFn K (.ref f) = true
  kp : PySem.W.keepIn K (.ref f) = true
section
variable {X : Cx} {pins : List (Addr × Obj)} {σ : St} {H : Hp} {s : Shared} {a C dx : Addr} {fs : List (Str × V)} {f : Str} {v : V} {A : Around} {E : Value → Shared → Prop}
theorem getattr_ok {b : Bool} {Q : Value → Shared → Prop} (I : Inv X pins σ H s) (e : H a = some (.ins C dx fs)) (c : Cls X.K C) (n : NoAttr X.K C f) (l : fs.lookup f = some v)
    (h : ∀ u s', Inv X pins σ H s' → RelV v u → Q u s') : wpAny (model X.prog X.w) A (getAttr (.ref a) f b) Q E s := by
  obtain ⟨mA, O, r, _, _, _⟩ := ins_get I.hok e
  obtain ⟨u, hu, ru⟩ := RelO.some_of (v := v) (o := mA f) (by rw [← l]; exact r f)
  exact get_map I.kIn O (c.get f) c.hd n hu (handed_of ru) (h u _ (I.tok _) ru)
theorem getmeth_ok {m : Str} {g : Addr} {pl : Sem Bool} {Q : Value × List Value → Shared → Prop} (I : Inv X pins σ H s) (e : H a = some (.ins C dx fs)) (c : Cls X.K C) (k : Meth X.K C m g) (l : fs.lookup m = none)
    (h : Q (.ref g, [.ref a]) s) : wpAny (model X.prog X.w) A (getMethod (.ref a) m pl) Q E s := by
  obtain ⟨mA, O, r, _, _, _⟩ := ins_get I.hok e
  have hn : mA m = none := RelO.none_of (by rw [← l]; exact r m)
  exact get_meth I.kIn O (c.get m) k.at_ k.fn hn h
theorem setattr_ok {y : V} {u : Value} {Q : Unit → Shared → Prop} (I : Inv X pins σ H s) (e : H a = some (.ins C dx fs)) (c : Cls X.K C) (n : NoAttr X.K C f) (hl : fs.length < 1000) (ry : RelV y u)
    (h : ∀ s', Inv X pins σ (upd H a (.ins C dx (putF f y fs))) s' → Q () s') : wpAny (model X.prog X.w) A (setAttr (.ref a) f u) Q E s := by
  obtain ⟨mA, O, r, wi, _, ho⟩ := ins_get I.hok e
  have hz : (fs.map (·.1)).length ≤ sizeLine := by rw [List.length_map, sizeLine_eq]; omega
  refine set_map I.kIn O c.sa c.po n.taker c.hd wi hz fun h' O' sb => h _ ?_
  have hd : ∃ o, h'.get? dx = some o := let ⟨o, _, _, e', _⟩ := O'.ns; ⟨o, e'⟩
  refine I.write (x := a) (e := dx) (by rw [e]; exact True.intro) (.inr ho) (fun b q hb z => (sb.2 b hb).trans z) hd ?_
  refine ⟨by rw [upd_ne O.ne]; exact ho, ?_, O.ne, O'.obj, _, O'.ns, fun g => ?_, fun g hg => ?_⟩
  · have := length_putF f y fs; omega
  · show RelO ((putF f y fs).lookup g) (if g = f then some u else mA g)
    rw [lookup_putF]
    by_cases q : g = f
    · rw [if_pos q, if_pos q]; exact ry
    · rw [if_neg q, if_neg q]; exact r g
  · by_cases q : g = f
    · rw [q]; exact (keys_putF f y fs).1
    · refine (keys_putF f y fs).2 g (wi g fun z => hg ?_)
      show (if g = f then some u else mA g) = none
      rw [if_neg q]; exact z
theorem Inv.made (I : Inv X pins σ H s) : Inv X pins σ (upd (upd H s.heap.objs.size (.own (s.heap.objs.size + 1))) (s.heap.objs.size + 1) (.ins C s.heap.objs.size []))
    { s with heap := (s.heap.push PySem.W.emptyDict).push (PySem.W.instObj C s.heap.objs.size) } := by
  have e1 : (s.heap.push PySem.W.emptyDict).get? s.heap.objs.size = some PySem.W.emptyDict := Heap.get?_push_size s.heap rfl
  have e2 : ((s.heap.push PySem.W.emptyDict).push (PySem.W.instObj C s.heap.objs.size)).get? (s.heap.objs.size + 1) = some (PySem.W.instObj C s.heap.objs.size) := by
    have := Heap.get?_push_size (s.heap.push PySem.W.emptyDict) (o := PySem.W.instObj C s.heap.objs.size) rfl
    rwa [Heap.size_push] at this
  have e3 : (s.heap.push PySem.W.emptyDict).Ns s.heap.objs.size (fun _ => none) := ⟨PySem.W.emptyDict, #[], _, e1, rfl, (fun e he => absurd he (by simp)), fun _ => rfl⟩
  have I1 := I.laid (a := s.heap.objs.size) (o := .own (s.heap.objs.size + 1)) (h' := s.heap.push PySem.W.emptyDict) (t' := s.toks) (fun b u q => Heap.get?_push_of_some _ q) (Nat.le_refl _) ⟨_, e1⟩
  refine I1.laid (a := s.heap.objs.size + 1) (o := .ins C s.heap.objs.size []) (t' := s.toks) (fun b u q => Heap.get?_push_of_some _ q) (Nat.le_of_eq (Heap.size_push _ _)) ?_
  have ne : s.heap.objs.size ≠ s.heap.objs.size + 1 := Nat.ne_of_lt (Nat.lt_succ_self _)
  refine ⟨by rw [upd_ne ne, upd_same], Nat.zero_le _, ne, e2, fun _ => none, (Heap.Ns1.of_empty e3).at fun o q => Heap.get?_push_of_some _ q, fun _ => True.intro, fun y hy => absurd rfl hy⟩
theorem attr_of {prog : Program} {w : World} {env : Env} {e : Expr} {f : Str} {pos : Pos} {s : Shared} {Q : Value → Shared → Prop} (hb : attributeBase e f env (eval e env) = eval e env)
    (h : wpAny (model prog w) A (eval e env) (fun o s₁ => wpAny (model prog w) A (getAttr o f true) Q E s₁) E s) : wpAny (model prog w) A (eval (.Attribute e f pos) env) Q E s :=
  Attribute_any_ h (by rw [arm_eval_Attribute, hb])
end
def tFld (K : PySem.W.Frag) (ta : TE) (f : Str) : TE := fun σ H Q => ta σ H fun x H1 => ∃ a C dx fs v, x = .ref a ∧ H1 a = some (.ins C dx fs) ∧ Cls K C ∧ NoAttr K C f ∧ fs.lookup f = some v ∧ Q v H1
def sFld (K : PySem.W.Frag) (ta tv : TE) (f : Str) : TS := fun D σ H => tv σ H fun y H1 => ta σ H1 fun x H2 => ∃ a C dx fs, x = .ref a ∧ H2 a = some (.ins C dx fs) ∧ Cls K C ∧ NoAttr K C f ∧ fs.length < 1000 ∧
  D.nx σ (upd H2 a (.ins C dx (putF f y fs)))
def InOp (X : Cx) (op : Operator) (rd : V → V → Hp → VK → Prop) : Prop :=
  ∀ (pins : List (Addr × Obj)) (s : Shared) (σ : St) (H : Hp) (x y : V) (u v : Value) (Q : VK), Inv X pins σ H s → RelV x u → RelV y v → rd x y H Q → wpAny (model X.prog X.w) X.A (inplaceOp op u v) (EP X pins σ Q) X.xe s
def sFldAug (K : PySem.W.Frag) (ta tv : TE) (rd : V → V → Hp → VK → Prop) (f : Str) : TS := fun D σ H => ta σ H fun x H1 => ∃ a C dx fs v, x = .ref a ∧ H1 a = some (.ins C dx fs) ∧ Cls K C ∧ NoAttr K C f ∧ fs.lookup f = some v ∧
  tv σ H1 fun y H2 => rd v y H2 fun z H3 => ∃ dx' fs', H3 a = some (.ins C dx' fs') ∧ fs'.length < 1000 ∧ D.nx σ (upd H3 a (.ins C dx' (putF f z fs')))
section
variable {X : Cx} {o e value : Expr} {f : Str} {pos pos' tpos : Pos} {ta tv : TE}
theorem pe_fld (he : PE X e ta) (hb : attributeBase e f X.env (eval e X.env) = eval e X.env) : PE X (.Attribute e f pos) (tFld X.K ta f) := by
  intro pins s σ H Q I h
  refine attr_of hb (thn (he pins s σ H _ I h) fun u s1 ⟨x, H1, I1, rx, a, C, dx, fs, v, ex, ea, c, n, l, q⟩ => ?_)
  subst ex
  obtain rfl : u = Value.ref a := rx
  exact getattr_ok I1 ea c n l fun u' s2 I2 ru => ⟨v, H1, I2, ru, q⟩
theorem ps_fld (ha : PE X o ta) (hv : PE X value tv) (hs : swapsWith value (some (.Attribute o f pos')) pos.line X.env = pure false) : PS X (.Assign [.Attribute o f pos'] value pos) (sFld X.K ta tv f) := by
  intro pins s σ H D I h
  refine plainObj_wpAny_Assign_Attribute (thn (hv pins s σ H _ I h) fun u s1 ⟨y, H1, I1, ry, q⟩ => thn (ha pins s1 σ H1 _ I1 q) fun ov s2 ⟨x, H2, I2, rx, a, C, dx, fs, ex, ea, c, n, l, q2⟩ => ?_) hs
  subst ex
  obtain rfl : ov = Value.ref a := rx
  exact setattr_ok I2 ea c n l ry fun s3 I3 => ⟨σ, _, I3, q2⟩
theorem ps_fldaug {op : Operator} {rd : V → V → Hp → VK → Prop} (ha : PE X o ta) (hv : PE X value tv) (hop : InOp X op rd) : PS X (.AugAssign (.Attribute o f tpos) op value pos) (sFldAug X.K ta tv rd f) := by
  intro pins s σ H D I h
  refine wpAny_AugAssign_AttributeAny (thn (ha pins s σ H _ I h) fun ov s1 ⟨x, H1, I1, rx, a, C, dx, fs, v, ex, ea, c, n, l, q⟩ => ?_)
  subst ex
  obtain rfl : ov = Value.ref a := rx
  refine getattr_ok I1 ea c n l fun u s2 I2 ru => thn (hv pins s2 σ H1 _ I2 q) fun w3 s3 ⟨y, H2, I3, ry, q3⟩ => thn (hop pins s3 σ H2 v y u w3 _ I3 ru ry q3) fun w4 s4 ⟨z, H3, I4, rz, dx', fs', ea', l', q4⟩ => ?_
  exact setattr_ok I4 ea' c n l' rz fun s5 I5 => ⟨σ, _, I5, q4⟩
end
section
variable {X : Cx} {pins : List (Addr × Obj)} {σ : St} {H : Hp} {s : Shared} {A : Around} {E : Value → Shared → Prop} {Q : Value → Shared → Prop} {c : Value} {b : Bool}
end
end L2
namespace L2
open PySem PySem.Spec PyProof.Rows
structure Room (k : Nat) (A : Around) : Prop where
  hd : A.handled = none
  dp : A.depth + 3 * k + 5 < recursionLimit
  un : A.units + 16 * k + 200 < cLine
theorem Room.mono {j k : Nat} {A : Around} (r : Room k A) (h : j ≤ k) : Room j A := ⟨r.hd, by have := r.dp; omega, by have := r.un; omega⟩
theorem Room.deeper {k : Nat} {A : Around} (r : Room (k + 1) A) (env : Env) : Room k (A.deeper env) :=
  ⟨r.hd, by have := r.dp; show A.depth + 1 + 3 * k + 5 < _; omega, by have := r.un; show A.units + 3 + 16 * k + 200 < _; omega⟩
theorem Room.in1 {k : Nat} {A : Around} (r : Room (k + 1) A) : Room k A.in1 :=
  ⟨r.hd, by have := r.dp; show A.depth + 3 * k + 5 < _; omega, by have := r.un; show A.units + 1 + 16 * k + 200 < _; omega⟩
theorem make_depth {A : Around} {C : Addr} {us : List Value} {kw : List (Str × Value)} : (A.under (.builtin "type.__call__" ⟨.ref C :: us, kw⟩)).depth = A.depth + 1 := by
  first | rfl | simp [Around.under, Code.weight, Code.isCreation, Code.isGuard, Code.isCaller, Code.frames, Code.isFrame, guardIds]
theorem make_units {A : Around} {C : Addr} {us : List Value} {kw : List (Str × Value)} : (A.under (.builtin "type.__call__" ⟨.ref C :: us, kw⟩)).units = A.units + 1 := by
  first | rfl | simp [Around.under, Code.cUnits, Code.frames, Code.isFrame]
theorem Room.make {k : Nat} {A : Around} (r : Room (k + 1) A) (C : Addr) (us : List Value) (kw : List (Str × Value)) : Room k (A.under (.builtin "type.__call__" ⟨.ref C :: us, kw⟩)) :=
  ⟨r.hd, by have := r.dp; rw [make_depth]; omega, by have := r.un; rw [make_units]; omega⟩
theorem Room.depth {k : Nat} {A : Around} (r : Room k A) : A.depth < recursionLimit := by have := r.dp; omega
theorem Room.units {k : Nat} {A : Around} (r : Room k A) : A.units + 64 < cLine := by have := r.un; omega
def tNil : TA := fun _ H Q => Q [] H
def tCons (ta : TE) (tr : TA) : TA := fun σ H Q => ta σ H fun x H1 => tr σ H1 fun xs H2 => Q (x :: xs) H2
section
variable {X : Cx} {e : Expr} {es : List Expr} {te : TE} {t : TA} {pos : Pos}
theorem pa_nil : PA X [] tNil := fun _ _ _ _ H Q I h => Calls.spliced_nil ⟨[], H, I, .nil, h⟩
theorem pa_cons (ha : PE X e te) (hr : PA X es t) (hs : starEach (e :: es) X.env = (false, eval e X.env) :: starEach es X.env := by rfl) : PA X (e :: es) (tCons te t) := by
  intro pos pins s σ H Q I h
  rw [hs]
  show wpAny _ _ (spliced ((false, eval e X.env) :: backTo pos (starEach es X.env))) _ _ s
  refine Calls.spliced_cons (thn (ha pins s σ H _ I h) fun u s1 ⟨x, H1, I1, r1, q1⟩ => ?_)
  exact thn (hr pos pins s1 σ H1 _ I1 q1) fun us s2 ⟨xs, H2, I2, r2, q2⟩ => ⟨x :: xs, H2, I2, .cons r1 r2, q2⟩
def tTup (t : TA) : TE := fun σ H Q => t σ H fun xs H1 => xs.length ≤ sizeLine ∧ ∀ p, H1 p = none → Q (.ref p) (upd H1 p (.tup xs))
def tLst (t : TA) : TE := fun σ H Q => t σ H fun xs H1 => xs.length ≤ sizeLine ∧ ∀ p, H1 p = none → Q (.ref p) (upd H1 p (.lst xs))
theorem pe_tup {x1} (h : PA X es t) : PE X (.Tuple es x1 pos) (tTup t) := by
  intro pins s σ H Q I hq
  refine wpAny_Tuple_spliced (thn (h pos pins s σ H _ I hq) fun us s1 ⟨xs, H1, I1, r, z, q⟩ => ⟨by rw [← r.length]; exact z, ?_⟩)
  have hf : H1 s1.heap.objs.size = none := I1.hok.fresh (Nat.le_refl _)
  refine ⟨.ref s1.heap.objs.size, upd H1 s1.heap.objs.size (.tup xs), I1.laid (t' := s1.toks) (fun b u e => Heap.get?_push_of_some _ e) (Nat.le_refl _) ?_, rfl, q _ hf⟩
  exact ⟨z, us, r, ⟨_, Heap.get?_push_size _ rfl, rfl, _, rfl⟩⟩
theorem pe_lst (h : PA X es t) : PE X (.List es pos) (tLst t) := by
  intro pins s σ H Q I hq
  refine wpAny_List_spliced (thn (h pos pins s σ H _ I hq) fun us s1 ⟨xs, H1, I1, r, z, q⟩ => ⟨by rw [← r.length]; exact z, ?_⟩)
  have hf : H1 s1.heap.objs.size = none := I1.hok.fresh (Nat.le_refl _)
  refine ⟨.ref s1.heap.objs.size, upd H1 s1.heap.objs.size (.lst xs), I1.laid (t' := s1.toks) (fun b u e => Heap.get?_push_of_some _ e) (Nat.le_refl _) ?_, rfl, q _ hf⟩
  exact ⟨z, us, 0, r, Heap.get?_push_size _ rfl⟩
end
abbrev Sp := List V → Hp → VK → XK → Prop
abbrev CXT := List Env → Hp → Shared → XK → Value → Shared → Prop
structure Env0 (P : Program) (w : World) (K : PySem.W.Frag) (mg : Str → Option Value) (base : Heap) (A : Around) (outer : List Env) (s : Shared) (H : Hp) : Prop where
  frames : A.frames = some outer
  mod : Mod K mg base
  bs : ∀ b o, base.get? b = some o → s.heap.get? b = some o ∧ H b = none
  bsz : base.objs.size ≤ s.heap.objs.size
  funs : s.heap.FunFrames base outer
  frf : ∀ b ∈ frs outer, H b = none
  hok : HOk P w H s.heap
  bare : AllBare s.gens
def CE (outer : List Env) (P : Program) (w : World) (H : Hp) (s : Shared) (Q : VK) (u : Value) (s' : Shared) : Prop :=
  ∃ v H', s'.os = s.os ∧ AllBare s'.gens ∧ Un (frs outer) [] H H' s.heap s'.heap ∧ HOk P w H' s'.heap ∧ RelV v u ∧ Q v H'
def CR (CX : CXT) (outer : List Env) (P : Program) (w : World) (H : Hp) (s : Shared) (Q : VK) (E : XK) (r : Result) (s' : Shared) : Prop :=
  match r with
  | .ok (.ret u) => CE outer P w H s Q u s'
  | .ok _ => False
  | .error e => CX outer H s E e s'
structure FnOk (P : Program) (w : World) (K : PySem.W.Frag) (mg : Str → Option Value) (base : Heap) (CX : CXT) (k : Nat) (f : Addr) (fd : FuncData) (ps : List Str) (sp : Sp) : Prop where
  len : ∀ vs H Q E, sp vs H Q E → vs.length = ps.length
  run : ∀ (A : Around) (outer : List Env) (s : Shared) (H : Hp) (args : Args) (us : List Value) (vs : List V) (Q : VK) (E : XK), Room k A → Env0 P w K mg base A outer s H → BindsTo s fd args (ps.zip us) → Vals vs us → sp vs H Q E →
    codeAny (model P w) A (.call (.ref f) args) (CR CX outer P w H s Q E) s
theorem FnOk.mono {P : Program} {w : World} {K : PySem.W.Frag} {mg : Str → Option Value} {base : Heap} {CX : CXT} {j k : Nat} {f : Addr} {fd : FuncData} {ps : List Str} {sp : Sp} (F : FnOk P w K mg base CX j f fd ps sp) (h : j ≤ k) :
    FnOk P w K mg base CX k f fd ps sp := ⟨F.len, fun A outer s H args us vs Q E hr => F.run A outer s H args us vs Q E (hr.mono h)⟩
theorem FnOk.imp {P : Program} {w : World} {K : PySem.W.Frag} {mg : Str → Option Value} {base : Heap} {CX : CXT} {k : Nat} {f : Addr} {fd : FuncData} {ps : List Str} {sp sp' : Sp} (F : FnOk P w K mg base CX k f fd ps sp)
    (h : ∀ vs H Q E, sp' vs H Q E → sp vs H Q E) : FnOk P w K mg base CX k f fd ps sp' :=
  ⟨fun vs H Q E q => F.len vs H Q E (h _ _ _ _ q), fun A outer s H args us vs Q E hr he hb hv hs => F.run A outer s H args us vs Q E hr he hb hv (h _ _ _ _ hs)⟩
theorem Env0.make {P : Program} {w : World} {K : PySem.W.Frag} {mg : Str → Option Value} {base : Heap} {A : Around} {outer : List Env} {s : Shared} {H : Hp} (e : Env0 P w K mg base A outer s H) (C : Addr) (us : List Value) (kw : List (Str × Value)) :
    Env0 P w K mg base (A.under (.builtin "type.__call__" ⟨.ref C :: us, kw⟩)) outer s H := ⟨by first | exact e.frames | (simpa [Around.under, Code.envs, Code.isFrame, pushEnvs] using e.frames), e.mod, e.bs, e.bsz, e.funs, e.frf, e.hok, e.bare⟩
theorem Env0.in1 {P : Program} {w : World} {K : PySem.W.Frag} {mg : Str → Option Value} {base : Heap} {A : Around} {outer : List Env} {s : Shared} {H : Hp} (e : Env0 P w K mg base A outer s H) :
    Env0 P w K mg base A.in1 outer s H := ⟨e.frames, e.mod, e.bs, e.bsz, e.funs, e.frf, e.hok, e.bare⟩
section
variable {X : Cx} {pins : List (Addr × Obj)} {σ : St} {H : Hp} {s s' : Shared}
theorem Inv.env0 (I : Inv X pins σ H s) : Env0 X.prog X.w X.K X.mg X.base X.A X.stack s H :=
  ⟨I.ok.frames, I.ok.mod, I.bs, Nat.le_trans I.ok.bsz I.sz, I.stack, I.stkFree, I.hok, I.bare⟩
theorem Inv.after {Q : VK} {u : Value} (I : Inv X pins σ H s) (h : CE X.stack X.prog X.w H s Q u s') : EP X pins σ Q u s' := by
  obtain ⟨v, H', os, bare, un, hok, r, q⟩ := h
  obtain ⟨hh, g, d, t, os'⟩ := s'
  obtain rfl : os' = s.os := os
  exact ⟨v, H', I.call (h' := hh) (g' := g) (d' := d) (t' := t) (ch := []) un hok bare (fun b z => absurd z (by simp)), r, q⟩
end
def tCall (sp : Sp) (dvs : List V) (E : XK) (t : TA) : TE := fun σ H Q => t σ H fun vs H1 => sp (vs ++ dvs) H1 Q E
def tMeth (C : Addr) (m : Str) (sp : Sp) (dvs : List V) (E : XK) (ta : TE) (t : TA) : TE := fun σ H Q => ta σ H fun x H1 => ∃ a dx fs, x = .ref a ∧ H1 a = some (.ins C dx fs) ∧ fs.lookup m = none ∧
  t σ H1 fun vs H2 => sp (x :: (vs ++ dvs)) H2 Q E
def tMake (C : Addr) (sp : Sp) (dvs : List V) (E : XK) (t : TA) : TE := fun σ H Q => t σ H fun vs H1 => ∀ x dx, H1 x = none → H1 dx = none → dx ≠ x →
  sp (.ref x :: (vs ++ dvs)) (upd (upd H1 dx (.own x)) x (.ins C dx [])) (fun v H2 => v = .non ∧ Q (.ref x) H2) E
def Binds (K : PySem.W.Frag) (fd : FuncData) (ps : List Str) (ds : List Value) : Prop :=
  ∀ (s : Shared) (us : List Value), K.In s.heap → (us ++ ds).length = ps.length → BindsTo s fd ⟨us, []⟩ (ps.zip (us ++ ds))
theorem Binds.all {K : PySem.W.Frag} {fd : FuncData} {ps : List Str} (h : ∀ us : List Value, us.length = ps.length → bindArgs fd ⟨us, []⟩ = pure (ps.zip us)) : Binds K fd ps [] := fun s us _ hl => by
  rw [List.append_nil] at hl ⊢
  exact .of_eq (h us hl)
def Passes (CX : CXT) (X : Cx) (E : XK) : Prop := ∀ (pins : List (Addr × Obj)) (σ : St) (H : Hp) (s : Shared) (e : Value) (s' : Shared), Inv X pins σ H s → CX X.stack H s E e s' → X.xe e s'
section
variable {X : Cx} {CX : CXT} {k : Nat} {f C : Addr} {fd : FuncData} {ps : List Str} {sp : Sp} {dvs : List V} {ds : List Value} {E : XK} {x m : Str} {p pos apos : Pos} {e o : Expr} {es : List Expr} {ta : TE} {t : TA}
theorem run_fn {pins : List (Addr × Obj)} {σ : St} {H : Hp} {s : Shared} {Q : VK} {us : List Value} {vs : List V} (F : FnOk X.prog X.w X.K X.mg X.base CX k f fd ps sp) (hr : Room k X.A) (hb : Binds X.K fd ps ds) (hd : Vals dvs ds) (hx : Passes CX X E)
    (I : Inv X pins σ H s) (r : Vals vs us) (h : sp (vs ++ dvs) H Q E) : wpAny (model X.prog X.w) X.A (call (.ref f) us) (EP X pins σ Q) X.xe s := by
  have r2 : Vals (vs ++ dvs) (us ++ ds) := r.append hd
  have hl : (us ++ ds).length = ps.length := by rw [← r2.length]; exact F.len _ _ _ _ h
  refine wpAny_call (codeAny_mono (F.run X.A X.stack s H ⟨us, []⟩ (us ++ ds) (vs ++ dvs) Q E hr I.env0 (hb s us I.kIn hl) r2 h) fun r s' hq => ?_)
  cases r with
  | error e => exact hx pins σ H s e s' I hq
  | ok fl =>
    cases fl with
    | ret u => exact I.after hq
    | next => exact False.elim hq
    | brk => exact False.elim hq
    | cont => exact False.elim hq
theorem pe_call (F : FnOk X.prog X.w X.K X.mg X.base CX k f fd ps sp) (hr : Room k X.A) (hg : Gl X x) (hm : X.mg x = some (.ref f)) (hk : PySem.W.keepIn X.K (.ref f) = true) (hb : Binds X.K fd ps ds) (hd : Vals dvs ds) (hx : Passes CX X E)
    (ha : PA X (e :: es) t) (hdb : (x == ("__debug__" : Str)) = false := by decide) (he : starEach (e :: es) X.env = (false, eval e X.env) :: starEach es X.env := by rfl) (hpl : (backTo pos (starEach es X.env)).any (·.1) = false := by rfl) :
    PE X (.Call (.Name x p) (e :: es) [] pos) (tCall sp dvs E t) := by
  intro pins s σ H Q I h
  refine wpAny_Call_Name_kw (ld_glob I hg hm ?_ hdb)
  refine PySem.W.callWith_K (h₀ := X.base) I.ok.mod.kin hk (thn (ha pos pins s σ H _ I h) fun us s1 ⟨vs, H1, I1, r, q⟩ => ⟨I1.kIn, ?_⟩) he hpl
  exact run_fn F hr hb hd hx I1 r q
theorem pe_meth {pl : Sem Bool} (he : PE X o ta) (c : Cls X.K C) (hm : Meth X.K C m f) (F : FnOk X.prog X.w X.K X.mg X.base CX k f fd ps sp) (hr : Room k X.A) (hb : Binds X.K fd ps ds) (hd : Vals dvs ds) (hx : Passes CX X E) (ha : PA X (e :: es) t)
    (hst : starEach (e :: es) X.env = (false, eval e X.env) :: starEach es X.env := by rfl) (hpl : (backTo pos (starEach es X.env)).any (·.1) = false := by rfl)
    (ht : eval (.Call (.Attribute o m apos) (e :: es) [] pos) X.env = (do
      let ov ← eval o X.env
      standAt apos.atName
      let (f, first) ← holding [ov] (getMethod ov m pl)
      callWith pos f first (backTo pos (starEach (e :: es) X.env)) (backToKw pos (keywordEach [] X.env))) := by rfl) :
    PE X (.Call (.Attribute o m apos) (e :: es) [] pos) (tMeth C m sp dvs E ta t) := by
  intro pins s σ H Q I h
  refine PySem.W.methodCall_KW (pl := pl) (thn (he pins s σ H _ I h) fun u s1 ⟨x, H1, I1, rx, a, dx, fs, ex, ea, l, q⟩ => ?_) ht
  subst ex
  obtain rfl : u = Value.ref a := rx
  refine getmeth_ok I1 ea c hm l ?_
  refine PySem.W.callWith_K (first := [.ref a]) (h₀ := X.base) I.ok.mod.kin hm.kp (thn (ha pos pins s1 σ H1 _ I1 q) fun us s2 ⟨vs, H2, I2, r, q2⟩ => ⟨I2.kIn, ?_⟩) hst hpl
  exact run_fn (us := .ref a :: us) (vs := .ref a :: vs) F hr hb hd hx I2 (.cons rfl r) q2
theorem pe_meth0 {pl : Sem Bool} (he : PE X o ta) (c : Cls X.K C) (hm : Meth X.K C m f) (F : FnOk X.prog X.w X.K X.mg X.base CX k f fd ps sp) (hr : Room k X.A) (hb : Binds X.K fd ps ds) (hd : Vals dvs ds) (hx : Passes CX X E)
    (ht : eval (.Call (.Attribute o m apos) [] [] pos) X.env = (do
      let ov ← eval o X.env
      standAt apos.atName
      let (f, first) ← holding [ov] (getMethod ov m pl)
      callWith pos f first (backTo pos (starEach [] X.env)) (backToKw pos (keywordEach [] X.env))) := by rfl) :
    PE X (.Call (.Attribute o m apos) [] [] pos) (tMeth C m sp dvs E ta tNil) := by
  intro pins s σ H Q I h
  refine PySem.W.methodCall_KW (pl := pl) (thn (he pins s σ H _ I h) fun u s1 ⟨x, H1, I1, rx, a, dx, fs, ex, ea, l, q⟩ => ?_) ht
  subst ex
  obtain rfl : u = Value.ref a := rx
  refine getmeth_ok I1 ea c hm l ?_
  exact PySem.W.callWith_K0 (first := [.ref a]) I1.kIn hm.kp (run_fn (us := [.ref a]) (vs := [.ref a]) F hr hb hd hx I1 (.cons rfl .nil) q)
structure Mk (K : PySem.W.Frag) (C f : Addr) : Prop where
  makes : PySem.W.makesIn K C = true
  init : PySem.W.findIn K (.ref C) "__init__" = some (some (.ref f))
  fn : PySem.W.isFn K (.ref f) = true
  kp : PySem.W.keepIn K (.ref C) = true
theorem run_make {pins : List (Addr × Obj)} {σ : St} {H : Hp} {s : Shared} {Q : VK} {us : List Value} {vs : List V} (M : Mk X.K C f) (F : FnOk X.prog X.w X.K X.mg X.base CX k f fd ps sp) (hr : Room (k + 1) X.A) (hb : Binds X.K fd ps ds) (hd : Vals dvs ds)
    (hx : Passes CX X E) (I : Inv X pins σ H s) (r : Vals vs us)
    (h : ∀ x dx, H x = none → H dx = none → dx ≠ x → sp (.ref x :: (vs ++ dvs)) (upd (upd H dx (.own x)) x (.ins C dx [])) (fun v H2 => v = .non ∧ Q (.ref x) H2) E) :
    wpAny (model X.prog X.w) X.A (call (.ref C) us) (EP X pins σ Q) X.xe s := by
  have hq := h (s.heap.objs.size + 1) s.heap.objs.size (I.hok.fresh (Nat.le_succ _)) (I.hok.fresh (Nat.le_refl _)) (Nat.ne_of_lt (Nat.lt_succ_self _))
  have I2 := Inv.made (C := C) I
  have r2 : Vals (V.ref (s.heap.objs.size + 1) :: (vs ++ dvs)) (Value.ref (s.heap.objs.size + 1) :: (us ++ ds)) := .cons rfl (r.append hd)
  have hl : (Value.ref (s.heap.objs.size + 1) :: us ++ ds).length = ps.length := by
    have e := r2.length
    rw [F.len _ _ _ _ hq] at e
    exact e.symm
  refine wpAny_call (make_map (f := f) I.kIn M.makes M.init (beq_iff_eq.mp M.fn) (codeAny_mono (F.run _ X.stack _ _ ⟨Value.ref (s.heap.objs.size + 1) :: us, []⟩ (Value.ref (s.heap.objs.size + 1) :: (us ++ ds)) _ _ E (hr.make C us [])
    (I2.env0.make C us []) (hb _ (Value.ref (s.heap.objs.size + 1) :: us) I2.kIn hl) r2 hq) fun r s' hq' => ?_))
  cases r with
  | error e => exact hx pins σ _ _ e s' I2 hq'
  | ok fl =>
    cases fl with
    | ret u =>
      obtain ⟨v, H', I3, rv, ev, q3⟩ := I2.after hq'
      subst ev
      exact ⟨rv, ⟨V.ref (s.heap.objs.size + 1), H', I3, rfl, q3⟩⟩
    | next => exact False.elim hq'
    | brk => exact False.elim hq'
    | cont => exact False.elim hq'
theorem pe_make0 (M : Mk X.K C f) (F : FnOk X.prog X.w X.K X.mg X.base CX k f fd ps sp) (hr : Room (k + 1) X.A) (hg : Gl X x) (hm : X.mg x = some (.ref C)) (hb : Binds X.K fd ps ds) (hd : Vals dvs ds) (hx : Passes CX X E)
    (hdb : (x == ("__debug__" : Str)) = false := by decide) : PE X (.Call (.Name x p) [] [] pos) (tMake C sp dvs E tNil) := by
  intro pins s σ H Q I h
  refine wpAny_Call_Name_kw (ld_glob I hg hm ?_ hdb)
  exact PySem.W.callWith_K0 I.kIn M.kp (run_make (us := []) M F hr hb hd hx I .nil h)
end
section
variable {X : Cx} {CX : CXT} {k : Nat} {f C : Addr} {fd : FuncData} {ps ks : List Str} {sp : Sp} {E : XK} {x m : Str} {p pos apos kpos : Pos} {e o : Expr} {es : List Expr} {kws : List Keyword} {te ta : TE} {t tk : TA} {nm : Option Str}
variable {g : List Value → List Value → List Value} {gV : List V → List V → List V}
end
structure FnScope (N P : List Str) (sc : Scope) : Prop where
  kind : sc.kind = .function
  co : sc.isCoroutine = false
  gen : sc.isGenerator = false
  nd : N.Nodup
  pre : N.take P.length = P
  par : ∀ x ∈ P, sc.names.lookup x = some .local ∨ sc.names.lookup x = some .cell
  nofree : ∀ y ∈ sc.names, y.2 ≠ .free
theorem bindL_out {kindOf : Str → Option NameKind} {x : Str} : ∀ {binds : List (Str × Value)} {m : Str → Option Value}, (∀ v, (x, v) ∉ binds) → bindL kindOf binds m x = m x
  | [], _, _ => rfl
  | (n, v) :: r, m, h => by
    unfold bindL
    rw [bindL_out fun w hw => h w (List.mem_cons_of_mem _ hw)]
    split
    · have : x ≠ n := by rintro rfl; exact h v List.mem_cons_self
      simp [this]
    · rfl
theorem bindC_out {kindOf : Str → Option NameKind} {x : Str} : ∀ {binds : List (Str × Value)} {m : Str → Option Value}, (∀ v, (x, v) ∉ binds) → bindC kindOf binds m x = m x
  | [], _, _ => rfl
  | (n, v) :: r, m, h => by
    unfold bindC
    rw [bindC_out fun w hw => h w (List.mem_cons_of_mem _ hw)]
    split
    · rfl
    · have : x ≠ n := by rintro rfl; exact h v List.mem_cons_self
      simp [this]
theorem bindL_get {kindOf : Str → Option NameKind} {x : Str} {v : Value} : ∀ {P : List Str} {vs : List Value} {i : Nat} {m : Str → Option Value}, P.Nodup → P[i]? = some x → vs[i]? = some v → kindOf x = some .local →
    bindL kindOf (P.zip vs) m x = some v
  | [], _, _, _, _, h, _, _ => by simp at h
  | _ :: _, [], _, _, _, _, h, _ => by simp at h
  | p :: P, w :: vs, 0, m, nd, h1, h2, hk => by
    simp at h1 h2; subst h1; subst h2
    show bindL kindOf ((p, w) :: P.zip vs) m p = _
    unfold bindL
    rw [bindL_out fun v hv => (List.nodup_cons.mp nd).1 (List.of_mem_zip hv).1, if_pos hk]
    simp
  | p :: P, w :: vs, i + 1, m, nd, h1, h2, hk => by
    show bindL kindOf ((p, w) :: P.zip vs) m x = _
    unfold bindL
    exact bindL_get (i := i) (List.nodup_cons.mp nd).2 (by simpa using h1) (by simpa using h2) hk
theorem bindC_get {kindOf : Str → Option NameKind} {x : Str} {v : Value} : ∀ {P : List Str} {vs : List Value} {i : Nat} {m : Str → Option Value}, P.Nodup → P[i]? = some x → vs[i]? = some v → kindOf x ≠ some .local →
    bindC kindOf (P.zip vs) m x = some v
  | [], _, _, _, _, h, _, _ => by simp at h
  | _ :: _, [], _, _, _, _, h, _ => by simp at h
  | p :: P, w :: vs, 0, m, nd, h1, h2, hk => by
    simp at h1 h2; subst h1; subst h2
    show bindC kindOf ((p, w) :: P.zip vs) m p = _
    unfold bindC
    rw [bindC_out fun v hv => (List.nodup_cons.mp nd).1 (List.of_mem_zip hv).1, if_neg hk]
    simp
  | p :: P, w :: vs, i + 1, m, nd, h1, h2, hk => by
    show bindC kindOf ((p, w) :: P.zip vs) m x = _
    unfold bindC
    exact bindC_get (i := i) (List.nodup_cons.mp nd).2 (by simpa using h1) (by simpa using h2) hk
def start (N : List Str) (vs : List V) : St := vs.map some ++ List.replicate (N.length - vs.length) none
def cxOf (CX : CXT) (P : Program) (w : World) (K : PySem.W.Frag) (mg : Str → Option Value) (base : Heap) (N : List Str) (qual : Str) (scope : Scope) (f : Addr) (cd : Value) (A : Around) (outer : List Env) (s : Shared) (H : Hp) (E : XK) : Cx where
  prog := P
  w := w
  K := K
  mg := mg
  base := base
  A := A.deeper (envOfC qual scope s.heap.objs.size f cd)
  N := N
  s₀ := s
  H₀ := H
  env := envOfC qual scope s.heap.objs.size f cd
  outer := outer
  stack := envOfC qual scope s.heap.objs.size f cd :: outer
  ex := []
  calm := true
  fn := fun _ => true
  pn := []
  xe := fun e s' => wpAny (model P w) (A.deeper (envOfC qual scope s.heap.objs.size f cd)) (leaving (envOfC qual scope s.heap.objs.size f cd) e) (fun _ s'' => CX outer H s E e s'') (fun e' s'' => CX outer H s E e' s'') s'
theorem cell_has {sc : Scope} {n : Nat} {x : Str} (h : sc.names.lookup x = some .cell) : ∃ c, (cellsFrom n sc.names []).lookup x = some c := by
  have q := PySem.W.cellsFrom_some sc.names n [] (.inl h)
  exact Option.isSome_iff_exists.mp q
theorem inv_start {CX : CXT} {P : Program} {w : World} {K : PySem.W.Frag} {mg : Str → Option Value} {base : Heap} {N ps : List Str} {qual : Str} {scope : Scope} {f : Addr} {cd : Value} {A : Around} {outer : List Env} {s s1 : Shared} {H : Hp} {E : XK} {us : List Value} {vs : List V}
    (S : FnScope N ps scope) (hd : A.handled = none) (e0 : Env0 P w K mg base A outer s H) (hl : vs.length = ps.length) (r : Vals vs us)
    (x : InCallC s s.heap.objs.size (bindL (envOfC qual scope s.heap.objs.size f cd).kindOf (ps.zip us) fun _ => none) (cellsFrom (s.heap.objs.size + 1) scope.names []) (bindC (envOfC qual scope s.heap.objs.size f cd).kindOf (ps.zip us) fun _ => none) s1) :
    Inv (cxOf CX P w K mg base N qual scope f cd A outer s H E) [] (start N vs) H s1 := by
  have hpl : ps.length ≤ N.length := by have := congrArg List.length S.pre; rw [List.length_take] at this; omega
  obtain ⟨h1, tk, rfl, hk⟩ := x.done
  have noA : ∀ b : Addr, b ∉ (cxOf CX P w K mg base N qual scope f cd A outer s H E).ex := fun b z => absurd (show b ∈ ([] : List Addr) from z) (by simp)
  refine ⟨⟨e0.mod, S.kind, rfl, rfl, Nat.le_refl _, fun y z c h1 h2 => ?_, fun y hy => ?_, fun y c _ h => ?_, fun _ => hd, Around.frames_deeper e0.frames, .inr ⟨rfl, rfl⟩, fun b z => absurd z (noA b), e0.bs, e0.bsz, fun b _ _ => noA b, fun b z => absurd z (noA b), e0.funs, e0.frf⟩,
    rfl, e0.bare, Un.kept hk, ⟨_, x.toInCall.ns, fun i y v h1 h2 h3 => ?_⟩, fun y c h => ⟨_, x.cell y c h⟩, e0.hok.fresh (Nat.le_refl _), fun y c h => ?_, fun p hp => absurd (show p ∈ ([] : List (Addr × Obj)) from hp) (by simp), e0.hok.kept hk, ?_⟩
  · exact name_of_addr x.apart (PySem.mem_of_lookup h1) (PySem.mem_of_lookup h2)
  · have hy : scope.names.lookup y = some .cell ∨ scope.names.lookup y = some .free := hy
    rcases hy with hy | hy
    · exact cell_has hy
    · exact absurd rfl (S.nofree _ (PySem.mem_of_lookup hy))
  · exact Nat.le_of_lt (x.above y c (PySem.mem_of_lookup h))
  · have hi : i < vs.length := by
      unfold start at h2
      by_cases hi : i < vs.length
      · exact hi
      · rw [List.getElem?_append_right (by simpa using hi)] at h2
        rw [List.getElem?_replicate] at h2
        split at h2 <;> cases h2
    have ha : vs[i]? = some v := by
      unfold start at h2
      rw [List.getElem?_append_left (by simpa using hi), List.getElem?_map] at h2
      cases e : vs[i]? with
      | none => rw [e] at h2; cases h2
      | some a => rw [e] at h2; cases h2; rfl
    obtain ⟨u, hu, rv⟩ := r.get ha
    have hp : ps[i]? = some y := by
      rw [← S.pre, List.getElem?_take_of_lt (by omega)]; exact h1
    have ndP : ps.Nodup := by rw [← S.pre]; exact S.nd.sublist (List.take_sublist _ _)
    refine ⟨u, rv, ?_⟩
    rcases S.par y (List.mem_of_getElem? hp) with k | k
    · exact .inl ⟨k, bindL_get ndP hp hu k⟩
    · obtain ⟨c, e⟩ := cell_has (n := s.heap.objs.size + 1) k
      refine .inr ⟨.inl k, c, e, ?_⟩
      have q := x.cell y c e
      rw [bindC_get ndP hp hu (by show scope.names.lookup y ≠ _; rw [k]; decide)] at q
      exact q
  · exact e0.hok.fresh (Nat.le_of_lt (x.above y c (PySem.mem_of_lookup h)))
  · unfold start
    show _ = N.length
    rw [List.length_append, List.length_map, List.length_replicate]
    omega
theorem fn_of {CX : CXT} {P : Program} {w : World} {K : PySem.W.Frag} {mg : Str → Option Value} {base : Heap} {k : Nat} {f : Addr} {name qual : Str} {params : Arguments} {body : List Stmt} {scope : Scope} {dV kV doc pm cdv ct oc : Value} {an od : Option Addr}
    {osl : Array (Option Value)} {N ps : List Str} {sp : Sp} (lk : K.lookup f = some ⟨oc, od, .func (PySem.W.fnOf name qual params body scope dV kV doc pm an cdv ct), osl⟩) (hcd : PySem.W.codeIn K cdv qual = true) (S : FnScope N ps scope)
    (len : ∀ vs H Q E, sp vs H Q E → vs.length = ps.length)
    (hbody : ∀ (A : Around) (outer : List Env) (s : Shared) (H : Hp) (vs : List V) (Q : VK) (E : XK), Room k (A.deeper (envOfC qual scope s.heap.objs.size f cdv)) → sp vs H Q E →
      ∃ t, PSs (cxOf CX P w K mg base N qual scope f cdv A outer s H E) body t ∧ t { nx := fun _ H' => Q .non H', rt := Q } (start N vs) H) :
    FnOk P w K mg base CX (k + 1) f (PySem.W.fnOf name qual params body scope dV kV doc pm an cdv ct) ps sp := by
  refine ⟨len, fun A outer s H args us vs Q E hr e0 hb r hsp => ?_⟩
  have hl := len _ _ _ _ hsp
  have KX : K.In s.heap := e0.mod.kin.keeps fun b o e => (e0.bs b o e).1
  have lim : s.heap.NoLimit := e0.mod.nolimit.keeps fun b o e => (e0.bs b o e).1
  have hkind : ∀ y ∈ ps.zip us, scope.names.lookup y.1 = some .local ∨ (scope.names.lookup y.1 = some .cell ∧ ((cellsFrom (s.heap.objs.size + 1) scope.names []).lookup y.1).isSome = true) := fun ⟨n, v⟩ hy => by
    rcases S.par n (List.of_mem_zip hy).1 with q | q
    · exact .inl q
    · exact .inr ⟨q, PySem.W.cellsFrom_some _ _ _ (.inl q)⟩
  refine codeAny_call_function hr.depth (KX _ _ lk) rfl S.co S.gen rfl (PySem.W.codeRec_of KX hcd) (hb _ _ _ _ ?_)
  refine wpAny_newFunctionEnv_cells S.kind hkind fun env he s1 x => ?_
  subst he
  refine ⟨lim.keeps x.toInCall.keep, codeAny_func ?_⟩
  obtain ⟨t, ht, hq⟩ := hbody A outer s H vs Q E (hr.deeper _) hsp
  have I : Inv (cxOf CX P w K mg base N qual scope f cdv A outer s H E) [] (start N vs) H s1 := inv_start S hr.hd e0 hl r x
  refine wpAny_mono (ht [] s1 (start N vs) H _ I hq) (fun fl s' hs => ?_) fun e s' hs => hs
  have fin : ∀ {σ' : St} {H' : Hp} {v : V} {u : Value}, Inv (cxOf CX P w K mg base N qual scope f cdv A outer s H E) [] σ' H' s' → RelV v u → Q v H' → CE outer P w H s Q u s' :=
    fun {σ' H' v u} J rv q => ⟨v, H', J.os, J.bare, J.base, J.hok, rv, q⟩
  cases fl with
  | ret u =>
    obtain ⟨v, σ', H', J, rv, q⟩ := hs
    exact fin J rv q
  | next =>
    obtain ⟨σ', H', J, q⟩ := hs
    exact fin (v := V.non) (u := Value.none) J rfl q
  | brk =>
    obtain ⟨_, _, _, q⟩ := hs
    exact False.elim q
  | cont =>
    obtain ⟨_, _, _, q⟩ := hs
    exact False.elim q
end L2
namespace L2
open PySem PySem.Spec PyProof.Rows
section
variable {X : Cx} {x : Str} {p pos : Pos} {e : Expr} {es : List Expr} {t : TA} {id T : String} {r : List V → Hp → VK → Prop}
def tCB (r : List V → Hp → VK → Prop) (t : TA) : TE := fun σ H Q => t σ H fun vs H1 => r vs H1 Q
theorem pe_callB (hc : CallR X (.builtin id) r) (hg : Gl X x) (hm : X.mg x = none) (hv : bootBuiltins x = some (.builtin id)) (ha : PA X (e :: es) t) (hn : x ≠ "__name__" := by decide) (hdb : (x == ("__debug__" : Str)) = false := by decide)
    (he : starEach (e :: es) X.env = (false, eval e X.env) :: starEach es X.env := by rfl) (hpl : (backTo pos (starEach es X.env)).any (·.1) = false := by rfl) : PE X (.Call (.Name x p) (e :: es) [] pos) (tCB r t) := by
  intro pins s σ H Q I h
  refine wpAny_Call_Name_kw (ld_blt I hg hm hv ?_ hn hdb)
  exact PyProof.Rows.callWith_builtin1 (thn (ha pos pins s σ H _ I h) fun us s1 ⟨vs, H1, I1, r1, q1⟩ => hc pins s1 σ H1 vs us Q I1 r1 q1) he hpl
theorem pe_callTy (hc : CallR X (.type T) r) (hg : Gl X x) (hm : X.mg x = none) (hv : bootBuiltins x = some (.type T)) (ha : PA X (e :: es) t) (hn : x ≠ "__name__" := by decide) (hdb : (x == ("__debug__" : Str)) = false := by decide)
    (he : starEach (e :: es) X.env = (false, eval e X.env) :: starEach es X.env := by rfl) (hpl : (backTo pos (starEach es X.env)).any (·.1) = false := by rfl) : PE X (.Call (.Name x p) (e :: es) [] pos) (tCB r t) := by
  intro pins s σ H Q I h
  refine wpAny_Call_Name_kw (ld_blt I hg hm hv ?_ hn hdb)
  exact PyProof.Rows.callWith_type1 (thn (ha pos pins s σ H _ I h) fun us s1 ⟨vs, H1, I1, r1, q1⟩ => hc pins s1 σ H1 vs us Q I1 r1 q1) he hpl
end
end L2
namespace HT
open PySem PyProof.Rows
section
open PySem.SeqAt
open PySem.AutoSeq1 (wpAny_loadPart')
open PySem.MeetsSeq PySem.MeetsSeq2 PySem.MeetsSeq3
end
section
variable {prog : Program} {w : World} {A : Around} {E : Value → Shared → Prop} {s : Shared}
theorem cat_tup {t b : Addr} {vs ws : List Value} {Q : Value → Shared → Prop} (ht : IsTup s.heap t vs.toArray) (hb : IsTup s.heap b ws.toArray) (hv : vs ≠ [])
    (h1 : ws = [] → Q (.ref t) s) (h2 : ws ≠ [] → Q (.ref s.heap.objs.size) { s with heap := s.heap.push { cls := .type "tuple", data := .seq (vs ++ ws).toArray } })
    (hsz : vs.length + ws.length ≤ sizeLine) : wpAny (model prog w) A (binaryOp .Add (.ref t) (.ref b)) Q E s := by
  obtain ⟨⟨cls, dd, data, sl⟩, ho, hc, n, hd⟩ := id ht
  obtain ⟨⟨cls2, dd2, data2, sl2⟩, ho2, hc2, n2, hd2⟩ := id hb
  simp only at hc hd hc2 hd2
  subst hc hd hc2 hd2
  have e : vs.toArray ++ ws.toArray = (vs ++ ws).toArray := by simp
  by_cases hw : ws = []
  · exact concat_meets ⟨_, ho, rfl⟩ ⟨_, ho2, rfl⟩ noFill_tuple_add seq_tuple_add PySem.F.slot_tuple_add PySem.F.entry_tuple_add (PySem.F.args_tuple_add_2 _ _)
      (tuple_addW1 t b vs.toArray ws.toArray n n2 dd dd2 sl sl2 (by simpa using hv) (by simp [hw])) ⟨ho, ho2, h1 hw⟩
  · refine concat_meets ⟨_, ho, rfl⟩ ⟨_, ho2, rfl⟩ noFill_tuple_add seq_tuple_add PySem.F.slot_tuple_add PySem.F.entry_tuple_add (PySem.F.args_tuple_add_2 _ _)
      (tuple_addW2 t b vs.toArray ws.toArray n n2 dd dd2 sl sl2 (by simpa using hv) (by simpa using hw) (by rw [List.size_toArray, List.size_toArray]; exact hsz)) ⟨ho, ho2, ?_⟩
    rw [e]
    exact h2 hw
def sIx (n d : Nat) : Option Int → Nat
  | none => d
  | some v => if v < 0 then (v + (n : Int)).toNat else min v.toNat n
end
end HT
namespace L2
open PySem PySem.Spec PyProof.Rows
abbrev TO := St → Hp → (Option Int → Hp → Prop) → Prop
theorem intsAre_of {ns : List Int} : ∀ {us : List Value}, Vals (ns.map V.int) us → IntsAre us ns := by
  induction ns with
  | nil => intro us r; rw [List.map_nil] at r; cases r; exact .nil
  | cons n ns ih =>
    intro us r
    rw [List.map_cons] at r
    cases r with
    | cons r1 r2 =>
      obtain ⟨t, e⟩ := r1
      subst e
      exact .cons n t (ih r2)
section
variable {X : Cx} {e : Expr} {te : TE} {lo hi : Option Expr} {tl th : TO} {pos p2 : Pos}
def SlR (X : Cx) (r : V → Option Int → Option Int → Hp → VK → Prop) : Prop :=
  ∀ (pins : List (Addr × Obj)) (s : Shared) (σ : St) (H : Hp) (x : V) (v vl vu : Value) (lo hi : Option Int) (sl : Addr) (Q : VK), Inv X pins σ H s → RelV x v → s.heap.IsSliceOf sl vl vu .none → IsPart vl lo → IsPart vu hi → r x lo hi H Q →
    ∃ T id, typeLookup (.type T) "__getitem__" = pure (some (.builtin id)) ∧ s.TypeIs v T ∧ wpAny (model X.prog X.w) X.A (getItem v (.ref sl)) (EP X pins σ Q) X.xe s
theorem SlR.or {r r' : V → Option Int → Option Int → Hp → VK → Prop} (h : SlR X r) (h' : SlR X r') : SlR X (fun x lo hi H Q => r x lo hi H Q ∨ r' x lo hi H Q) := by
  intro pins s σ H x v vl vu lo hi sl Q I rx hs pl pu q
  rcases q with q | q
  · exact h pins s σ H x v vl vu lo hi sl Q I rx hs pl pu q
  · exact h' pins s σ H x v vl vu lo hi sl Q I rx hs pl pu q
def rCatT (K : PySem.W.Frag) : R2 := fun x y H Q => ∃ a b xs ys, x = .ref a ∧ y = .ref b ∧ SqT K H a xs ∧ SqT K H b ys ∧ xs ≠ [] ∧ xs.length + ys.length ≤ sizeLine ∧
  (ys = [] → Q (.ref a) H) ∧ (ys ≠ [] → ∀ p, H p = none → Q (.ref p) (upd H p (.tup (xs ++ ys))))
theorem Vals.nil_iff {xs : List V} {us : List Value} (r : Vals xs us) : us = [] ↔ xs = [] := by
  cases r with
  | nil => simp
  | cons _ _ => simp
theorem op_catT : OpR X (binaryOp .Add) (rCatT X.K) := by
  intro pins s σ H x y v u Q I rx ry h
  obtain ⟨a, b, xs, ys, rfl, rfl, ha, hb, hx, hz, q1, q2⟩ := h
  cases rx
  cases ry
  obtain ⟨its, r1, p1, _⟩ := I.tuple ha
  obtain ⟨its2, r2, p2, _⟩ := I.tuple hb
  refine HT.cat_tup p1 p2 (fun z => hx (r1.nil_iff.mp z)) (fun z => ⟨.ref a, H, I, rfl, q1 (r2.nil_iff.mp z)⟩) (fun z => ?_) (by rw [← r1.length, ← r2.length]; exact hz)
  refine ⟨.ref s.heap.objs.size, _, I.laid (t' := s.toks) (o := .tup (xs ++ ys)) (fun b ob q => Heap.get?_push_of_some _ q) (Nat.le_refl _) ?_, rfl, q2 (fun w => z (r2.nil_iff.mpr w)) _ (I.hok.fresh (Nat.le_refl _))⟩
  exact ⟨by rw [List.length_append]; exact hz, _, r1.append r2, IsTup.new _ _⟩
end
end L2
namespace L2
open PySem PySem.Spec PyProof.Rows
def ixN (n : Nat) (i : Int) : Option Nat := if 0 ≤ i then (if i < n then some i.toNat else none) else if -(n : Int) ≤ i then some (i + n).toNat else none
def atI {α : Type} (xs : List α) (i : Int) : Option α := (ixN xs.length i).bind fun j => xs[j]?
theorem ixN_seq {n : Nat} {i : Int} {j : Nat} (h : ixN n i = some j) : seqIndex? i n = some j ∧ j < n ∧ -(n : Int) ≤ i ∧ i < n := by
  unfold ixN at h
  by_cases h0 : 0 ≤ i
  · rw [if_pos h0] at h
    by_cases h1 : i < n
    · rw [if_pos h1] at h
      have e : i.toNat = j := Option.some.inj h
      exact ⟨by rw [seqIndex_of h0 h1, e], by omega, by omega, h1⟩
    · rw [if_neg h1] at h; cases h
  · rw [if_neg h0] at h
    by_cases h1 : -(n : Int) ≤ i
    · rw [if_pos h1] at h
      have e : (i + n).toNat = j := Option.some.inj h
      exact ⟨by rw [seqIndex_neg (by omega) h1, e], by omega, h1, by omega⟩
    · rw [if_neg h1] at h; cases h
theorem atI_get {α : Type} {xs : List α} {i : Int} {v : α} (h : atI xs i = some v) : ∃ j, seqIndex? i xs.length = some j ∧ xs[j]? = some v ∧ j < xs.length ∧ -(xs.length : Int) ≤ i ∧ i < xs.length := by
  unfold atI at h
  cases e : ixN xs.length i with
  | none => rw [e] at h; cases h
  | some j =>
    rw [e] at h
    obtain ⟨h1, h2, h3, h4⟩ := ixN_seq e
    exact ⟨j, h1, h, h2, h3, h4⟩
theorem atI_nat {α : Type} {xs : List α} {j : Nat} {v : α} (h : xs[j]? = some v) : atI xs (j : Int) = some v := by
  have hj : j < xs.length := (List.getElem?_eq_some_iff.mp h).1
  have e : ixN xs.length (j : Int) = some j := by
    unfold ixN
    rw [if_pos (by omega), if_pos (by omega)]; simp
  unfold atI; rw [e]; exact h
def PlainIx (b : Expr) : Prop := ∀ o i, subscripted b false o i = operate [o, i] (getItem o i)
def IxR (X : Cx) (r : R2) : Prop :=
  ∀ (value slice : Expr) (pins : List (Addr × Obj)) (s : Shared) (σ : St) (H : Hp) (x y : V) (v u : Value) (Q : VK), Inv X pins σ H s → RelV x v → RelV y u → r x y H Q →
    subscripted slice false v u = operate [v, u] (getItem v u) → wpAny (model X.prog X.w) X.A (subscriptTail value slice v u) (EP X pins σ Q) X.xe s
def MtR (X : Cx) (id : String) (r : V → List V → Hp → VK → Prop) : Prop :=
  ∀ (pins : List (Addr × Obj)) (s : Shared) (σ : St) (H : Hp) (x : V) (xs : List V) (v : Value) (us : List Value) (Q : VK), Inv X pins σ H s → RelV x v → Vals xs us → r x xs H Q →
    wpAny (model X.prog X.w) X.A (call (.builtin id) (v :: us)) (EP X pins σ Q) X.xe s
section
variable {X : Cx} {a b : Expr} {ta tb : TE} {pos : Pos}
theorem IxR.or {r r' : R2} (h : IxR X r) (h' : IxR X r') : IxR X (fun x y H Q => r x y H Q ∨ r' x y H Q) := by
  intro value slice pins s σ H x y v u Q I rx ry q hs
  rcases q with q | q
  · exact h value slice pins s σ H x y v u Q I rx ry q hs
  · exact h' value slice pins s σ H x y v u Q I rx ry q hs
theorem MtR.or {id : String} {r r' : V → List V → Hp → VK → Prop} (h : MtR X id r) (h' : MtR X id r') : MtR X id (fun x xs H Q => r x xs H Q ∨ r' x xs H Q) := by
  intro pins s σ H x xs v us Q I rx rs q
  rcases q with q | q
  · exact h pins s σ H x xs v us Q I rx rs q
  · exact h' pins s σ H x xs v us Q I rx rs q
theorem pe_ix {r : R2} (hr : IxR X r) (ha : PE X a ta) (hb : PE X b tb) (hs : PlainIx b) : PE X (.Subscript a b pos) (tOp r ta tb) := by
  intro pins s σ H Q I h
  exact Subscript_ (binT ha hb I h fun v u s2 x y H2 I2 rx ry q => hr a b pins s2 σ H2 x y v u Q I2 rx ry q (hs _ _))
def rIxL (K : PySem.W.Frag) : R2 := fun x y H Q => ∃ p xs i v, x = .ref p ∧ y = .int i ∧ SqL K H p xs ∧ atI xs i = some v ∧ Q v H
def rIxT (K : PySem.W.Frag) : R2 := fun x y H Q => ∃ p xs i v, x = .ref p ∧ y = .int i ∧ SqT K H p xs ∧ atI xs i = some v ∧ Q v H
def rIxS : R2 := fun x y H Q => ∃ z i c, x = .str z ∧ y = .int i ∧ z.length ≤ sizeLine ∧ atI z.cps.toList i = some c ∧ Q (.str ⟨#[c]⟩) H
theorem ix_list : IxR X (rIxL X.K) := by
  intro value slice pins s σ H x y v u Q I rx ry h hs
  obtain ⟨p, xs, i, z, rfl, rfl, hq, he, q⟩ := h
  cases rx
  obtain ⟨t, rfl⟩ := ry
  obtain ⟨its, r, pl, hz⟩ := I.list hq
  obtain ⟨j, h1, h2, h3, h4, h5⟩ := atI_get he
  obtain ⟨w, ew, rw'⟩ := r.get h2
  have hl := r.length
  have hn := line63
  have fin : EP X pins σ Q w s := ⟨z, H, I, rw', q⟩
  by_cases h0 : 0 ≤ i
  · have hj : i.toNat = j := by
      rw [seqIndex_of h0 h5] at h1
      exact Option.some.inj h1
    exact item_listR pl.isList h0 (by omega) (by rw [hj]; simpa using ew) fin hs
  · have hj : (i + (its.toArray.size : Int)).toNat = j := by
      rw [seqIndex_neg (by omega) h4] at h1
      rw [List.size_toArray, ← hl]
      exact Option.some.inj h1
    exact subscriptTail_builtinR (x := w) pl.isList.typeIs slot_list_getitem.lookup
      (wpAny_getItem_list_neg (Q := fun r s' => r = w ∧ EP X pins σ Q r s') pl.isList (by omega) (by rw [List.size_toArray] <;> omega) (by omega) (by rw [hj]; simpa using ew) ⟨rfl, fin⟩) hs
theorem ix_tup : IxR X (rIxT X.K) := by
  intro value slice pins s σ H x y v u Q I rx ry h hs
  obtain ⟨p, xs, i, z, rfl, rfl, hq, he, q⟩ := h
  cases rx
  obtain ⟨t, rfl⟩ := ry
  obtain ⟨its, r, pl, hz⟩ := I.tuple hq
  obtain ⟨j, h1, h2, h3, h4, h5⟩ := atI_get he
  obtain ⟨w, ew, rw'⟩ := r.get h2
  have hl := r.length
  have hn := line63
  have fin : EP X pins σ Q w s := ⟨z, H, I, rw', q⟩
  exact subscriptTail_builtinR (x := w) pl.typeIs slot_tuple_getitem.lookup
    (getItem_tuple (j := j) (Q := fun r s' => r = w ∧ EP X pins σ Q r s') pl (by omega) (by omega) (by rw [List.size_toArray, ← hl]; exact h1) (by simpa using ew) ⟨rfl, fin⟩) hs
theorem ix_str : IxR X rIxS := by
  intro value slice pins s σ H x y v u Q I rx ry h hs
  obtain ⟨z, i, c, rfl, rfl, hz, he, q⟩ := h
  obtain ⟨t, rfl⟩ := rx
  obtain ⟨t', rfl⟩ := ry
  obtain ⟨j, h1, h2, h3, h4, h5⟩ := atI_get he
  have hl : z.cps.toList.length = z.length := by simp [Str.length]
  rw [hl] at h1 h4 h5
  have hn := line63
  exact tail_any (typeIs_str s z t) slot_str_getitem.lookup (getItem_str (c := c) (by
    have e1 : decide (i < -(2 ^ 63 : Int)) = false := decide_eq_false (by omega)
    have e2 : decide (i ≥ 2 ^ 63) = false := decide_eq_false (by omega)
    rw [e1, e2, Bool.or_false]) (by rw [h1]; simpa using h2) ⟨.str ⟨#[c]⟩, H, I.tok _, ⟨_, rfl⟩, q⟩) hs
def rIx (K : PySem.W.Frag) : R2 := fun x y H Q => rIxL K x y H Q ∨ rIxT K x y H Q ∨ rIxS x y H Q
theorem ix_seq : IxR X (rIx X.K) := ix_list.or (ix_tup.or ix_str)
theorem Inv.lst {pins : List (Addr × Obj)} {σ : St} {H : Hp} {s : Shared} {p : Addr} {xs : List V} (I : Inv X pins σ H s) (h : H p = some (.lst xs)) :
    ∃ (its : List Value) (n : Nat), Vals xs its ∧ s.heap.get? p = some { cls := .type "list", data := .seq its.toArray n } ∧ xs.length ≤ sizeLine := by
  obtain ⟨z, its, n, r, e⟩ := I.hok p _ h
  exact ⟨its, n, r, e, z⟩
def flatV : V → Bool
  | .non => true
  | .bl _ => true
  | .int _ => true
  | .str _ => true
  | _ => false
def eqV : V → V → Bool
  | .non, .non => true
  | .bl a, .bl b => a == b
  | .bl a, .int b => (if a then 1 else 0) == b
  | .int a, .bl b => a == (if b then 1 else 0)
  | .int a, .int b => a == b
  | .str a, .str b => a == b
  | _, _ => false
theorem eqAt_V {A : Around} {s : Shared} {y x : V} {u v : Value} (ry : RelV y u) (rx : RelV x v) (fy : flatV y = true) (fx : flatV x = true) : SeqAt.EqAt A s u v (eqV y x) := by
  cases y with
  | non =>
    cases ry
    cases x with
    | non => cases rx; exact SeqAt.EqAt.same _
    | bl b => cases rx; exact SeqAt.EqAt.none_bool b
    | int b => obtain ⟨t, rfl⟩ := rx; exact SeqAt.EqAt.none_int b t
    | str b => obtain ⟨t, rfl⟩ := rx; exact SeqAt.EqAt.none_str b t
    | _ => exact absurd (show false = true from fx) Bool.false_ne_true
  | bl a =>
    cases ry
    cases x with
    | non => cases rx; exact SeqAt.EqAt.bool_none a
    | bl b => cases rx; exact SeqAt.EqAt.bool_bool a b
    | int b => obtain ⟨t, rfl⟩ := rx; exact SeqAt.EqAt.bool_int a b t
    | str b => obtain ⟨t, rfl⟩ := rx; exact SeqAt.EqAt.bool_str a b t
    | _ => exact absurd (show false = true from fx) Bool.false_ne_true
  | int a =>
    obtain ⟨t', rfl⟩ := ry
    cases x with
    | non => cases rx; exact SeqAt.EqAt.int_none a t'
    | bl b => cases rx; exact SeqAt.EqAt.int_bool a t' b
    | int b => obtain ⟨t, rfl⟩ := rx; exact SeqAt.EqAt.int_int a t' b t
    | str b => obtain ⟨t, rfl⟩ := rx; exact SeqAt.EqAt.int_str a t' b t
    | _ => exact absurd (show false = true from fx) Bool.false_ne_true
  | str a =>
    obtain ⟨t', rfl⟩ := ry
    cases x with
    | non => cases rx; exact SeqAt.EqAt.str_none a t'
    | bl b => cases rx; exact SeqAt.EqAt.str_bool a t' b
    | int b => obtain ⟨t, rfl⟩ := rx; exact SeqAt.EqAt.str_int a t' b t
    | str b => obtain ⟨t, rfl⟩ := rx; exact SeqAt.EqAt.str_str a t' b t
    | _ => exact absurd (show false = true from fx) Bool.false_ne_true
  | _ => exact absurd (show false = true from fy) Bool.false_ne_true
def eqU (x : V) (u : Value) : Bool := match u with
  | .none => eqV .non x
  | .bool b => eqV (.bl b) x
  | .int i _ => eqV (.int i) x
  | .str z _ => eqV (.str z) x
  | _ => false
theorem eqU_of {x y : V} {u : Value} (r : RelV y u) (f : flatV y = true) : eqU x u = eqV y x := by
  cases y with
  | non => cases r; rfl
  | bl b => cases r; rfl
  | int i => obtain ⟨t, rfl⟩ := r; rfl
  | str z => obtain ⟨t, rfl⟩ := r; rfl
  | _ => exact absurd (show false = true from f) Bool.false_ne_true
theorem any_eqU {x : V} : ∀ {xs : List V} {us : List Value}, Vals xs us → xs.all flatV = true → us.any (eqU x) = xs.any fun y => eqV y x
  | _, _, .nil, _ => rfl
  | y :: xs, u :: us, .cons r t, f => by
    rw [List.all_cons, Bool.and_eq_true] at f
    rw [List.any_cons, List.any_cons, eqU_of r f.1, any_eqU t f.2]
theorem mem_eqAt {A : Around} {s : Shared} {x : V} {v : Value} (rx : RelV x v) (fx : flatV x = true) : ∀ {xs : List V} {us : List Value}, Vals xs us → xs.all flatV = true → ∀ u ∈ us, SeqAt.EqAt A s u v (eqU x u)
  | _, _, .nil, _ => fun u hu => by cases hu
  | y :: xs, u :: us, .cons r t, f => fun u' hu => by
    rw [List.all_cons, Bool.and_eq_true] at f
    rcases List.mem_cons.mp hu with rfl | hu
    · rw [eqU_of r f.1]; exact eqAt_V r rx f.1 fx
    · exact mem_eqAt rx fx t f.2 u' hu
def inV (x : V) (xs : List V) : Bool := xs.any fun y => eqV y x
def rIn (K : PySem.W.Frag) (neg : Bool) : R2 := fun x y H Q => ∃ p xs, y = .ref p ∧ (SqL K H p xs ∨ SqT K H p xs) ∧ flatV x = true ∧ xs.all flatV = true ∧ Q (.bl (if neg then !inV x xs else inV x xs)) H
theorem op_in_seq : OpR X (compareOp .In) (rIn X.K false) := by
  intro pins s σ H x y v u Q I rx ry h
  obtain ⟨p, xs, rfl, hq, fx, fs, q⟩ := h
  cases ry
  rcases hq with hq | hq
  · obtain ⟨its, r, pl, hz⟩ := I.list hq
    refine SeqAt.in_listAt (eqU x) pl.isList (fun w hw => mem_eqAt rx fx r fs w (by simpa using hw)) ⟨.bl _, H, I, rfl, ?_⟩
    rw [show its.toArray.any (eqU x) = its.any (eqU x) by simp, any_eqU r fs]
    exact q
  · obtain ⟨its, r, pl, hz⟩ := I.tuple hq
    refine SeqAt.in_tupleAt (eqU x) pl (fun w hw => mem_eqAt rx fx r fs w (by simpa using hw)) ⟨.bl _, H, I, rfl, ?_⟩
    rw [show its.toArray.any (eqU x) = its.any (eqU x) by simp, any_eqU r fs]
    exact q
theorem call_len_seq : CallR X (.builtin "len") (fun xs H Q => ∃ p ys, xs = [.ref p] ∧ (SqL X.K H p ys ∨ SqT X.K H p ys) ∧ Q (.int ys.length) H) := by
  intro pins s σ H xs us Q I r h
  obtain ⟨p, ys, rfl, hq, q⟩ := h
  obtain ⟨u, rfl, rx⟩ := vals1 r
  cases rx
  have hn := line63
  rcases hq with hq | hq
  · obtain ⟨its, r', pl, hz⟩ := I.list hq
    have hlen := r'.length
    exact Calls.call_len_list pl.isList (by simp only [List.size_toArray] <;> omega) ⟨.int ys.length, H, I.tok _, ⟨s.toks + 1, by rw [List.size_toArray, hlen]⟩, q⟩
  · obtain ⟨its, r', pl, hz⟩ := I.tuple hq
    have hlen := r'.length
    exact len_tuple pl (by simp only [List.size_toArray] <;> omega) ⟨.int ys.length, H, I.tok _, ⟨s.toks + 1, by rw [List.size_toArray, hlen]⟩, q⟩
theorem CallR.or {f : Value} {r r' : List V → Hp → VK → Prop} (h : CallR X f r) (h' : CallR X f r') : CallR X f (fun xs H Q => r xs H Q ∨ r' xs H Q) := by
  intro pins s σ H xs us Q I rs q
  rcases q with q | q
  · exact h pins s σ H xs us Q I rs q
  · exact h' pins s σ H xs us Q I rs q
theorem call_list_of : CallR X (.type "list") (fun xs H Q => ∃ p ys, xs = [.ref p] ∧ (SqL X.K H p ys ∨ SqT X.K H p ys) ∧ ∀ l, H l = none → Q (.ref l) (upd H l (.lst ys))) := by
  intro pins s σ H xs us Q I r h
  obtain ⟨p, ys, rfl, hq, q⟩ := h
  obtain ⟨u, rfl, rx⟩ := vals1 r
  cases rx
  have fin : ∀ (its : List Value), Vals ys its → ys.length ≤ sizeLine → ∀ (h' : Heap) (c' : Nat), (∀ b o', s.heap.get? b = some o' → h'.get? b = some o') →
      h'.get? s.heap.objs.size = some { cls := .type "list", dict := none, data := .seq its.toArray c', slots := #[] } → EP X pins σ Q (.ref s.heap.objs.size) { s with heap := h' } := fun its r' hz h' c' kp e =>
    ⟨.ref s.heap.objs.size, _, I.laid (t' := s.toks) kp (Nat.le_refl _) (show ObjOk X.prog X.w _ h' _ (.lst ys) from ⟨hz, its, c', r', e⟩), rfl, q _ (I.hok.fresh (Nat.le_refl _))⟩
  rcases hq with hq | hq
  · obtain ⟨its, r', pl, hz⟩ := I.list hq
    have hlen := r'.length
    obtain ⟨o, ho, hc, n, hd⟩ := pl.isList
    exact call_list_seq p (.inl rfl) ho hc hd (fun h' c' kp e => fin its r' hz h' c' kp e) (by simp only [List.size_toArray] <;> omega)
  · obtain ⟨its, r', pl, hz⟩ := I.tuple hq
    have hlen := r'.length
    obtain ⟨o, ho, hc, n, hd⟩ := pl
    exact call_list_seq p (.inr rfl) ho hc hd (fun h' c' kp e => fin its r' hz h' c' kp e) (by simp only [List.size_toArray] <;> omega)
def tyV (K : PySem.W.Frag) (T : String) (x : V) (H : Hp) : Prop := match x with
  | .str _ => T = "str"
  | .int _ => T = "int"
  | .ref p => (T = "list" ∧ ∃ xs, SqL K H p xs) ∨ (T = "tuple" ∧ ∃ o, K.lookup p = some o ∧ o.cls = .type "tuple" ∧ o.dict = none) ∨
      (T = "dict" ∧ ((∃ kvs, H p = some (.dK kvs)) ∨ ∃ kvs, H p = some (.dT kvs))) ∨ (T = "set" ∧ ∃ S n, H p = some (.set S n))
  | _ => False
theorem tyV_is {pins : List (Addr × Obj)} {σ : St} {H : Hp} {s : Shared} {T : String} {x : V} {v : Value} (I : Inv X pins σ H s) (r : RelV x v) (ty : tyV X.K T x H) :
    s.TypeIs v T ∧ ∀ a, v = .ref a → ∃ ob, s.heap.get? a = some ob ∧ ob.dict = none := by
  cases x with
  | str z =>
    obtain ⟨t, rfl⟩ := r
    cases (show T = "str" from ty)
    exact ⟨typeIs_str s z t, fun _ e => nomatch e⟩
  | int i =>
    obtain ⟨t, rfl⟩ := r
    cases (show T = "int" from ty)
    exact ⟨typeIs_int s i t, fun _ e => nomatch e⟩
  | ref p =>
    cases r
    rcases ty with ⟨rfl, xs, hq⟩ | ⟨rfl, o, hk, hc, hd⟩ | ⟨rfl, hk⟩ | ⟨rfl, S, n, hk⟩
    · obtain ⟨its, _, pl, _⟩ := I.list hq
      refine ⟨pl.isList.typeIs, fun a e => ?_⟩
      cases e
      obtain ⟨o, n, e, c, hd, _⟩ := pl
      exact ⟨o, e, hd⟩
    · refine ⟨⟨o, I.kIn p o hk, hc⟩, fun a e => ?_⟩
      cases e
      exact ⟨o, I.kIn _ o hk, hd⟩
    · have z : ∃ o, s.heap.get? p = some o ∧ o.ExactDict := by
        rcases hk with ⟨kvs, hk⟩ | ⟨kvs, hk⟩
        · obtain ⟨_, _, _, _, o, _, _, e, ex, _⟩ := I.hok p _ hk
          exact ⟨o, e, ex⟩
        · obtain ⟨_, _, _, _, o, _, _, e, ex, _⟩ := I.hok p _ hk
          exact ⟨o, e, ex⟩
      obtain ⟨o, e, ex⟩ := z
      refine ⟨⟨o, e, ex.1⟩, fun a e2 => ?_⟩
      cases e2
      exact ⟨o, e, ex.2.1⟩
    · obtain ⟨o, _, _, _, e, ex, _⟩ := I.hok p _ hk
      refine ⟨⟨o, e, ex.1⟩, fun a e2 => ?_⟩
      cases e2
      exact ⟨o, e, ex.2.1⟩
  | _ => exact False.elim ty
def tBM (K : PySem.W.Frag) (T : String) (r : V → List V → Hp → VK → Prop) (to : TE) (t : TA) : TE := fun σ H Q => to σ H fun x H1 => tyV K T x H1 ∧ t σ H1 fun xs H2 => r x xs H2 Q
variable {o e : Expr} {es : List Expr} {to : TE} {t : TA} {name : Str} {apos cpos : Pos} {T id : String} {r : V → List V → Hp → VK → Prop}
theorem pe_bm (pa : PlainAttrs T) (slot : Slot T name id) (hty : typeOf (.builtin id) = pure (.type "method_descriptor")) (hm : MtR X id r) (ho : PE X o to) (ha : PA X (e :: es) t)
    (hbase : attributeBase o name X.env (eval o X.env) = eval o X.env := by rfl)
    (hfew : ((backTo cpos (starEach (e :: es) X.env)).all (fun x => !x.1) && (backToKw cpos (keywordEach [] X.env)).all (fun x => x.1.isSome)
      && decide ((e :: es).length + ([] : List Keyword).length + (if ([] : List Keyword).isEmpty then 0 else 1) < 30)) = true := by rfl)
    (hline : (apos.endLine == cpos.line) = true := by rfl) (hs : starEach (e :: es) X.env = (false, eval e X.env) :: starEach es X.env := by rfl) (hplain : (backTo cpos (starEach es X.env)).any (·.1) = false := by rfl) :
    PE X (.Call (.Attribute o name apos) (e :: es) [] cpos) (tBM X.K T r to t) := by
  intro pins s σ H Q I h
  refine wpAny_Call_method_late hbase hfew hline rfl (thn (ho pins s σ H _ I h) fun v s1 ⟨x, H1, I1, r1, ty, q1⟩ => ?_)
  obtain ⟨h1, h2⟩ := tyV_is I1 r1 ty
  refine ⟨T, id, pa, slot, hty, h1, h2, ?_⟩
  have hA := ha cpos pins s1 σ H1 _ I1 q1
  rw [hs] at hA ⊢
  refine Calls.callWith_builtin (by show (false || (backTo cpos (starEach es X.env)).any (·.1)) = false; rw [hplain] <;> rfl) (Calls.evalArgs_plain ?_)
  exact thn hA fun us s2 ⟨vs, H2, I2, r2, q2⟩ => hm pins s2 σ H2 x vs v us Q I2 r1 r2 q2
end
end L2
namespace L2
open PySem PySem.Spec PyProof.Rows
def MtM (X : Cx) (id : String) (r : V → List V → Hp → VK → Prop) : Prop :=
  ∀ (pins : List (Addr × Obj)) (s : Shared) (σ : St) (H : Hp) (x : V) (xs : List V) (v : Value) (us : List Value) (Q : VK), Inv X pins σ H s → RelV x v → Vals xs us → r x xs H Q →
    wpAny (model X.prog X.w) X.A (call (.builtin id) (v :: us)) (EP X pins σ Q) X.xe s
theorem Vals.one : ∀ {x : V} {us : List Value}, Vals [x] us → ∃ u, us = [u] ∧ RelV x u
  | _, _, .cons r .nil => ⟨_, rfl, r⟩
theorem Vals.zero : ∀ {us : List Value}, Vals [] us → us = []
  | _, .nil => rfl
theorem Vals.eraseIdx : ∀ {xs : List V} {us : List Value} (i : Nat), Vals xs us → Vals (xs.eraseIdx i) (us.eraseIdx i)
  | _, _, _, .nil => .nil
  | _, _, 0, .cons _ t => t
  | _, _, i + 1, .cons r t => .cons r (Vals.eraseIdx i t)
theorem Vals.reverse {xs : List V} {us : List Value} (h : Vals xs us) : Vals xs.reverse us.reverse := by
  induction h with
  | nil => exact .nil
  | cons r t ih => rw [List.reverse_cons, List.reverse_cons]; exact Vals.append ih (.cons r .nil)
theorem Vals.rep {xs : List V} {us : List Value} (h : Vals xs us) : ∀ k : Nat, Vals (List.replicate k xs).flatten (List.replicate k us).flatten
  | 0 => .nil
  | k + 1 => by
    rw [List.replicate_succ, List.replicate_succ, List.flatten_cons, List.flatten_cons]
    exact Vals.append h (Vals.rep h k)
theorem len_erase {α : Type} : ∀ (l : List α) (i : Nat), (l.eraseIdx i).length ≤ l.length
  | [], _ => Nat.le_refl _
  | _ :: _, 0 => Nat.le_succ _
  | _ :: r, i + 1 => Nat.succ_le_succ (len_erase r i)
theorem foldl_rep (its : List Value) : ∀ (k : Nat) (acc : List Value),
    List.foldl (fun x1 x2 => x1 ++ x2) acc.toArray (List.replicate k its.toArray) = (acc ++ (List.replicate k its).flatten).toArray
  | 0, acc => by simp
  | k + 1, acc => by
    have e : acc.toArray ++ its.toArray = (acc ++ its).toArray := by simp
    have e2 : (acc ++ its) ++ (List.replicate k its).flatten = acc ++ (List.replicate (k + 1) its).flatten := by
      rw [List.replicate_succ, List.flatten_cons, List.append_assoc]
    rw [← e2, ← foldl_rep its k (acc ++ its), ← e, List.replicate_succ, List.foldl_cons]
section
variable {X : Cx} {pins : List (Addr × Obj)} {σ : St} {H : Hp} {s : Shared} {l b : Addr} {xs ys zs : List V}
theorem Inv.lset {its its' : List Value} {n : Nat} {f : Array Value → Array Value} {t' : Nat} (I : Inv X pins σ H s) (hH : H l = some (.lst xs))
    (e : s.heap.get? l = some { cls := .type "list", data := .seq its.toArray n }) (hf : f its.toArray = its'.toArray) (hv : Vals ys its') (hz : ys.length ≤ sizeLine) :
    Inv X pins σ (upd H l (.lst ys)) { s with heap := s.heap.update l (Obj.mapSeq f), toks := t' } := by
  have q := PySem.IsL.update e f
  rw [hf] at q
  refine I.write (x := l) (e := l) (by rw [hH]; exact trivial) (.inl rfl) (fun b' u hb hu => (Heap.get?_update_other s.heap (Obj.mapSeq f) (Ne.symm hb)).trans hu) ⟨_, q⟩ ?_
  exact ⟨hz, its', _, hv, q⟩
theorem Inv.lnew {its : List Value} {t' : Nat} (I : Inv X pins σ H s) (hv : Vals ys its) (hz : ys.length ≤ sizeLine) :
    Inv X pins σ (upd H s.heap.objs.size (.lst ys)) { s with heap := s.heap.push { cls := .type "list", data := .seq its.toArray }, toks := t' } :=
  I.laid (fun _ _ q => Heap.get?_push_of_some _ q) (Nat.le_refl _) ⟨hz, its, 0, hv, Heap.get?_push_size _ rfl⟩
theorem Inv.fresh (I : Inv X pins σ H s) : H s.heap.objs.size = none := I.hok.fresh (Nat.le_refl _)
theorem Inv.lstM (I : Inv X pins σ H s) (hH : H l = some (.lst xs)) : xs.length ≤ sizeLine ∧ ∃ (its : List Value) (n : Nat), Vals xs its ∧ xs.length = its.length ∧ s.heap.get? l = some { cls := .type "list", data := .seq its.toArray n } := by
  obtain ⟨z, its, n, r, e⟩ := I.hok l _ hH
  exact ⟨z, its, n, r, r.length, e⟩
theorem notLongL {n : Nat} (h : n ≤ sizeLine) : Builtin.List.listTooLong n = false := by
  unfold Builtin.List.listTooLong
  exact decide_eq_false (by omega)
end
section
variable {X : Cx}
def rAppend : V → List V → Hp → VK → Prop := fun x vs H Q => ∃ l xs y, x = .ref l ∧ vs = [y] ∧ H l = some (.lst xs) ∧ xs.length < sizeLine ∧ Q .non (upd H l (.lst (xs ++ [y])))
theorem mt_append : MtM X "list.append" rAppend := by
  intro pins s σ H x vs v us Q I rx rv h
  obtain ⟨l, xs, y, rfl, rfl, hH, hz, q⟩ := h
  cases rx
  obtain ⟨u, rfl, ru⟩ := rv.one
  obtain ⟨z, its, n, r, hl, e⟩ := I.lstM hH
  refine call_meets F.slot_list_append ⟨_, e, rfl⟩ F.entry_list_append (F.args_list_append_2 _ _) (PySem.list_append l its.toArray n u (by rw [List.size_toArray]; omega)) ⟨e, ?_⟩
  refine ⟨.non, _, I.lset (its' := its ++ [u]) hH e (by simp) (r.append (.cons ru .nil)) ?_, rfl, q⟩
  rw [List.length_append, List.length_singleton]
  omega
def rCat : R2 := fun x y H Q => ∃ l b xs zs, x = .ref l ∧ y = .ref b ∧ H l = some (.lst xs) ∧ H b = some (.lst zs) ∧ xs.length + zs.length ≤ sizeLine ∧ ∀ p, H p = none → Q (.ref p) (upd H p (.lst (xs ++ zs)))
theorem op_cat : OpR X (binaryOp .Add) rCat := by
  intro pins s σ H x y v u Q I rx ry h
  obtain ⟨l, b, xs, zs, rfl, rfl, hH, hB, hz, q⟩ := h
  cases rx
  cases ry
  obtain ⟨z, its, n, r, hl, e⟩ := I.lstM hH
  obtain ⟨z2, its2, n2, r2, hl2, e2⟩ := I.lstM hB
  refine PySem.P.add_list e e2 ?_ (by rw [List.size_toArray, List.size_toArray]; omega)
  have ea : its.toArray ++ its2.toArray = (its ++ its2).toArray := by simp
  rw [ea]
  exact ⟨.ref _, _, I.lnew (t' := s.toks) (r.append r2) (by rw [List.length_append]; omega), rfl, q _ I.fresh⟩
def rRep : R2 := fun x y H Q => ∃ l k xs, x = .ref l ∧ y = .int k ∧ H l = some (.lst xs) ∧ -(2 ^ 63) ≤ k ∧ k < 2 ^ 63 ∧ xs.length * k.toNat ≤ sizeLine ∧
  ∀ p, H p = none → Q (.ref p) (upd H p (.lst (List.replicate k.toNat xs).flatten))
theorem len_rep {α : Type} (xs : List α) (k : Nat) : (List.replicate k xs).flatten.length = k * xs.length := by
  induction k with
  | zero => simp
  | succ k ih => rw [List.replicate_succ, List.flatten_cons, List.length_append, ih, Nat.succ_mul, Nat.add_comm]
theorem op_rep : OpR X (binaryOp .Mult) rRep := by
  intro pins s σ H x y v u Q I rx ry h
  obtain ⟨l, k, xs, rfl, rfl, hH, h1, h2, hz, q⟩ := h
  cases rx
  obtain ⟨t, rfl⟩ := ry
  obtain ⟨z, its, n, r, hl, e⟩ := I.lstM hH
  have hlen : its.toArray.size * k.toNat ≤ sizeLine := by rw [List.size_toArray, ← hl]; exact hz
  have hcap : ¬ its.toArray.size * k.toNat > (2 ^ 63 - 1) / 8 := by
    have : (sizeLine : Nat) ≤ (2 ^ 63 - 1) / 8 := by decide
    omega
  have hfit : ¬ (!Builtin.List.listFitsIndex k) = true := by
    rw [fitsIndex_both h1 h2]
    exact Bool.false_ne_true
  have hlong : ¬ Builtin.List.listTooLong (its.toArray.size * k.toNat) = true := by
    rw [notLongL hlen]
    exact Bool.false_ne_true
  have hnew : List.foldl (fun x1 x2 => x1 ++ x2) #[] (List.replicate (if its.toArray.isEmpty = true then 0 else k.toNat) its.toArray) = (List.replicate k.toNat its).flatten.toArray := by
    have f0 : ∀ m : Nat, List.foldl (fun x1 x2 => x1 ++ x2) #[] (List.replicate m its.toArray) = (List.replicate m its).flatten.toArray := fun m => by
      have := foldl_rep its m []
      rw [List.nil_append] at this
      exact this
    rw [f0]
    cases its with
    | nil => simp
    | cons a r' => rw [if_neg (by simp)]
  refine wpAny_binaryOp_repeat_ref (T := "list") (U := "int") (by decide) ⟨_, e, rfl⟩ (fun s' => typeIs_int s' k t) noFill_list_mul F.fills_int_mul F.slot_int_rmul repeat_list F.slot_int_index.lookup
    (call_meets F.slot_int_rmul (typeIs_int s k t) F.entry_int_rmul (F.args_int_rmul_2 _ _) (int___rmul___int_list k t l its.toArray n)
      ⟨e, rfl, ⟨_, e, rfl⟩, call_meets F.slot_list_mul ⟨_, e, rfl⟩ F.entry_list_mul (F.args_list_mul_2 _ _) (AutoListH.list___mul___list_int_3 l its.toArray n k t hfit hcap hlong) ⟨e, ?_⟩⟩)
  rw [hnew]
  exact ⟨.ref _, _, I.lnew (t' := s.toks) (r.rep k.toNat) (by rw [len_rep, Nat.mul_comm]; exact hz), rfl, q _ I.fresh⟩
end
section
variable {prog : Program} {w : World} {A : Around} {E : Value → Shared → Prop} {s : Shared}
end
section
variable {X : Cx}
end
end L2
namespace L2
open PySem PySem.Spec PyProof.Rows
section
variable {κ : Type} [DecidableEq κ]
def valV (kvs : List (κ × V)) (k : κ) : Option V := (kvs.find? fun kv => decide (kv.1 = k)).map (·.2)
def putK (kvs : List (κ × V)) (k : κ) (v : V) : List (κ × V) :=
  if (kvs.any fun kv => decide (kv.1 = k)) = true then kvs.map (fun kv => if kv.1 = k then (kv.1, v) else kv) else kvs ++ [(k, v)]
def dropK (kvs : List (κ × V)) (k : κ) : List (κ × V) := kvs.filter fun kv => decide (kv.1 ≠ k)
theorem valV_pos {p : κ × V} {r : List (κ × V)} {k : κ} (e : p.1 = k) : valV (p :: r) k = some p.2 := by simp [valV, List.find?_cons, e]
theorem valV_neg {p : κ × V} {r : List (κ × V)} {k : κ} (e : ¬ p.1 = k) : valV (p :: r) k = valV r k := by simp [valV, List.find?_cons, e]
theorem valV_any (k : κ) : ∀ kvs : List (κ × V), (kvs.any fun kv => decide (kv.1 = k)) = (valV kvs k).isSome
  | [] => rfl
  | p :: r => by
    rw [List.any_cons]
    by_cases e : p.1 = k
    · simp only [valV_pos e, decide_eq_true e, Bool.true_or, Option.isSome_some]
    · rw [valV_neg e, decide_eq_false e, Bool.false_or]; exact valV_any k r
theorem RelO.isSome_eq {o : Option V} {u : Option Value} (r : RelO o u) : o.isSome = u.isSome := by
  cases o with
  | none => cases u with
    | none => rfl
    | some _ => exact (show False from r).elim
  | some _ => cases u with
    | none => exact (show False from r).elim
    | some _ => rfl
theorem RelO.getD {o : Option V} {u : Option Value} {d : V} {d' : Value} (r : RelO o u) (rd : RelV d d') : RelV (o.getD d) (u.getD d') := by
  cases o with
  | none => cases u with
    | none => exact rd
    | some _ => exact (show False from r).elim
  | some _ => cases u with
    | none => exact (show False from r).elim
    | some _ => exact r
theorem KV.val {kvs : List (κ × V)} {vs : List (κ × Value)} (r : KV kvs vs) (k : κ) : RelO (valV kvs k) (valueAt vs k) := by
  unfold KV at r
  induction r with
  | nil => exact True.intro
  | @cons p q ps qs h t ih =>
    obtain ⟨h1, h2⟩ := h
    by_cases e : p.1 = k
    · have e' : q.1 = k := h1.symm.trans e
      have b : valueAt (q :: qs) k = some q.2 := by simp [valueAt, List.find?_cons, e']
      rw [valV_pos e, b]; exact h2
    · have e' : ¬ q.1 = k := fun z => e (h1.trans z)
      have b : valueAt (q :: qs) k = valueAt qs k := by simp [valueAt, List.find?_cons, e']
      rw [valV_neg e, b]; exact ih
theorem KV.any {kvs : List (κ × V)} {vs : List (κ × Value)} (r : KV kvs vs) (k : κ) : (kvs.any fun kv => decide (kv.1 = k)) = vs.any fun kv => decide (kv.1 = k) := by
  unfold KV at r
  induction r with
  | nil => rfl
  | cons h t ih => rw [List.any_cons, List.any_cons, ih, h.1]
theorem KV.repl {kvs : List (κ × V)} {vs : List (κ × Value)} (r : KV kvs vs) (k : κ) {y : V} {u : Value} (ry : RelV y u) :
    KV (kvs.map fun kv => if kv.1 = k then (kv.1, y) else kv) (vs.map fun kv => if kv.1 = k then (kv.1, u) else kv) := by
  unfold KV at r ⊢
  induction r with
  | nil => exact .nil
  | @cons p q ps qs h t ih =>
    rw [List.map_cons, List.map_cons]
    refine .cons ?_ ih
    obtain ⟨h1, h2⟩ := h
    by_cases e : p.1 = k
    · rw [if_pos e, if_pos (h1.symm.trans e)]; exact ⟨h1, ry⟩
    · rw [if_neg e, if_neg (fun z => e (h1.trans z))]; exact ⟨h1, h2⟩
theorem KV.put {kvs : List (κ × V)} {vs : List (κ × Value)} (r : KV kvs vs) (k : κ) {y : V} {u : Value} (ry : RelV y u) : KV (putK kvs k y) (stored vs k u) := by
  unfold putK stored
  rw [r.any k]
  by_cases e : (vs.any fun kv => decide (kv.1 = k)) = true
  · rw [if_pos e, if_pos e]; exact r.repl k ry
  · rw [if_neg e, if_neg e]; exact Paired.snoc r ⟨rfl, ry⟩
theorem KV.drop {kvs : List (κ × V)} {vs : List (κ × Value)} (r : KV kvs vs) (k : κ) : KV (dropK kvs k) (without vs k) := by
  unfold KV at r ⊢
  unfold dropK without
  induction r with
  | nil => exact .nil
  | @cons p q ps qs h t ih =>
    obtain ⟨h1, h2⟩ := h
    rw [List.filter_cons, List.filter_cons]
    by_cases e : p.1 = k
    · have a : ¬ decide (p.1 ≠ k) = true := by simp [e]
      have b : ¬ decide (q.1 ≠ k) = true := by simp [h1.symm.trans e]
      rw [if_neg a, if_neg b]; exact ih
    · have e' : ¬ q.1 = k := fun z => e (h1.trans z)
      have a : decide (p.1 ≠ k) = true := by simp [e]
      have b : decide (q.1 ≠ k) = true := by simp [e']
      rw [if_pos a, if_pos b]; exact .cons ⟨h1, h2⟩ ih
theorem KV.length {kvs : List (κ × V)} {vs : List (κ × Value)} (r : KV kvs vs) : kvs.length = vs.length := Paired.length r
end
abbrev KT (H : Hp) : List (List Key × V) → List (List Key × Addr × Value) → Prop := Paired fun p q => p.1 = q.1 ∧ H q.2.1 = some (.tup (p.1.map kV)) ∧ RelV p.2 q.2.2
theorem KT.val {H : Hp} {kvs : List (List Key × V)} {xs : List (List Key × Addr × Value)} (r : KT H kvs xs) (k : List Key) : RelO (valV kvs k) ((atKey xs k).map (·.2)) := by
  induction r with
  | nil => exact True.intro
  | @cons p q ps qs h t ih =>
    obtain ⟨h1, _, h2⟩ := h
    by_cases e : p.1 = k
    · have e' : q.1 = k := h1.symm.trans e
      have b : atKey (q :: qs) k = some q.2 := by simp [atKey, List.find?_cons, e']
      rw [valV_pos e, b]; exact h2
    · have e' : ¬ q.1 = k := fun z => e (h1.trans z)
      have b : atKey (q :: qs) k = atKey qs k := by simp [atKey, List.find?_cons, e']
      rw [valV_neg e, b]; exact ih
theorem KT.repl {H : Hp} {kvs : List (List Key × V)} {xs : List (List Key × Addr × Value)} (r : KT H kvs xs) (k : List Key) {y : V} {u : Value} (ry : RelV y u) :
    KT H (kvs.map fun kv => if kv.1 = k then (kv.1, y) else kv) (xs.map (putAt k u)) := by
  induction r with
  | nil => exact .nil
  | @cons p q ps qs h t ih =>
    rw [List.map_cons, List.map_cons]
    refine .cons ?_ ih
    obtain ⟨h1, h2, h3⟩ := h
    unfold putAt
    by_cases e : p.1 = k
    · rw [if_pos e, if_pos (h1.symm.trans e)]; exact ⟨h1, h2, ry⟩
    · rw [if_neg e, if_neg (fun z => e (h1.trans z))]; exact ⟨h1, h2, h3⟩
theorem KT.put {H : Hp} {kvs : List (List Key × V)} {xs : List (List Key × Addr × Value)} (r : KT H kvs xs) (k : List Key) {b : Addr} {y : V} {u : Value} (hb : H b = some (.tup (k.map kV))) (ry : RelV y u) :
    KT H (putK kvs k y) (storedH xs k b u) := by
  have e : (kvs.any fun kv => decide (kv.1 = k)) = (atKey xs k).isSome := by
    rw [valV_any, (r.val k).isSome_eq, Option.isSome_map]
  unfold putK storedH
  rw [e]
  by_cases q : (atKey xs k).isSome = true
  · rw [if_pos q, if_pos q]; exact r.repl k ry
  · rw [if_neg q, if_neg q]; exact Paired.snoc r ⟨rfl, hb, ry⟩
theorem KT.keeps {H H' : Hp} {kvs : List (List Key × V)} {xs : List (List Key × Addr × Value)} (r : KT H kvs xs) (ht : ∀ b ys, H b = some (.tup ys) → H' b = some (.tup ys)) : KT H' kvs xs :=
  Paired.mapP r fun _ _ z => ⟨z.1, ht _ _ z.2.1, z.2.2⟩
section
variable {P : Program} {w : World} {H : Hp} {h : Heap} {a : Addr}
end
def DGet (H : Hp) (a : Addr) (y : V) (r : Option V) : Prop :=
  (∃ kvs k, Rd H a (.dK kvs) ∧ y = kV k ∧ r = valV kvs k) ∨ ∃ kvs k b, Rd H a (.dT kvs) ∧ y = .ref b ∧ H b = some (.tup (k.map kV)) ∧ r = valV kvs k
def DPut (H : Hp) (a : Addr) (y v : V) (H' : Hp) : Prop :=
  (∃ kvs k, H a = some (.dK kvs) ∧ y = kV k ∧ kvs.length < sizeLine ∧ H' = upd H a (.dK (putK kvs k v))) ∨
  ∃ kvs k b, H a = some (.dT kvs) ∧ y = .ref b ∧ H b = some (.tup (k.map kV)) ∧ kvs.length < sizeLine ∧ H' = upd H a (.dT (putK kvs k v))
theorem DGet.k {H : Hp} {a : Addr} {kvs : List (Key × V)} {k : Key} (e : H a = some (.dK kvs)) : DGet H a (kV k) (valV kvs k) := .inl ⟨kvs, k, .inl e, rfl, rfl⟩
theorem DGet.t {H : Hp} {a b : Addr} {kvs : List (List Key × V)} {k : List Key} (e : H a = some (.dT kvs)) (eb : H b = some (.tup (k.map kV))) : DGet H a (.ref b) (valV kvs k) := .inr ⟨kvs, k, b, .inl e, rfl, eb, rfl⟩
theorem DPut.k {H : Hp} {a : Addr} {kvs : List (Key × V)} {k : Key} {v : V} (e : H a = some (.dK kvs)) (hl : kvs.length < sizeLine) : DPut H a (kV k) v (upd H a (.dK (putK kvs k v))) := .inl ⟨kvs, k, e, rfl, hl, rfl⟩
theorem DPut.t {H : Hp} {a b : Addr} {kvs : List (List Key × V)} {k : List Key} {v : V} (e : H a = some (.dT kvs)) (eb : H b = some (.tup (k.map kV))) (hl : kvs.length < sizeLine) :
    DPut H a (.ref b) v (upd H a (.dT (putK kvs k v))) := .inr ⟨kvs, k, b, e, rfl, eb, hl, rfl⟩
section
variable {X : Cx} {pins : List (Addr × Obj)} {σ : St} {H : Hp} {s : Shared} {a : Addr} {y v : V} {u r : Value} {o : Option V} {A : Around} {E : Value → Shared → Prop}
end
section
variable {X : Cx} {pins : List (Addr × Obj)} {σ : St} {H : Hp} {s : Shared} {a : Addr} {kvs : List (Key × V)} {k : Key} {u : Value} {A : Around} {E : Value → Shared → Prop}
end
section
variable {X : Cx} {o i e value : Expr} {pos pos' tpos : Pos} {td ty tv : TE}
end
section
variable {X : Cx} {pos : Pos}
end
section
variable {X : Cx} {pins : List (Addr × Obj)} {σ : St} {H : Hp} {s : Shared} {a : Addr} {y d : V} {u r : Value} {o : Option V} {A : Around} {E : Value → Shared → Prop}
end
section
variable {X : Cx} {o e f : Expr} {apos cpos : Pos} {td ty tx : TE}
end
section
variable {X : Cx} {pins : List (Addr × Obj)} {σ : St} {H : Hp} {s : Shared} {a : Addr} {kvs : List (Key × V)} {A : Around} {E : Value → Shared → Prop}
end
section
variable {X : Cx} {pins : List (Addr × Obj)} {σ : St} {H : Hp} {s : Shared} {a : Addr} {y : V} {u : Value} {A : Around} {E : Value → Shared → Prop}
end
end L2
namespace Att
open PySem PySem.W PySem.Calls PyProof.Rows
theorem ints_of_wellAll {P : Params} {h : Heap} : ∀ (ns : List Int) (vs : List Value), WellAll P h vs (ns.map WData.int) → IntsAre vs ns := by
  intro ns
  induction ns with
  | nil =>
    intro vs w
    rw [List.map_nil] at w
    cases w
    exact .nil
  | cons n ns ih =>
    intro vs w
    rw [List.map_cons] at w
    cases w with
    | cons a b =>
      cases a
      exact .cons _ _ (ih _ b)
theorem script_of {l : OpenLaw} {n : Nat} (hn : l.most = some n) {P : Params} {h : Heap} {args : List WData} {vals : List Value}
    (hpre : l.row.toRowW.claim.pre args = true) (hwl : WellAll P h vals args) :
    ∃ a vs ns, vals = [Value.ref a] ∧ args = [WData.list (ns.map WData.int)] ∧ h.get? a = some { cls := .type "list", data := .seq vs.toArray } ∧ IntsAre vs ns ∧ ns.length ≤ n := by
  have hsh : WShape.hasAll [] args [.list .int] = true := (pre_splitW hpre).1
  have hc : l.pre.holds [] { args := args } = true := (pre_splitW hpre).2
  obtain ⟨d, r, rfl, h1, h2⟩ := hasAllW_cons hsh
  obtain rfl := hasAllW_nil h2
  obtain ⟨xs, rfl, h3⟩ := hasW_list h1
  obtain ⟨ns, rfl⟩ := items_int h3
  have hlen : ns.length ≤ n := by
    unfold OpenLaw.pre at hc
    have h4 : (WTm.not (.lt (.lit (.int (n : Int))) (.len (.arg 0)))).holds [] { args := [.list (ns.map .int)] } = true := by
      have h4 := (holds_andW hc).1
      rw [hn] at h4
      exact h4
    have h5 := condW_of h4 (w_not (w_lt w_lit (w_len_list (w_arg rfl))))
    rw [List.length_map] at h5
    refine Nat.le_of_not_lt fun q => ?_
    have q' : (n : Int) < ((ns.length : Nat) : Int) := by omega
    first
      | (rw [decide_eq_true q'] at h5; exact absurd h5 (by decide))
      | (simp at h5; omega)
  cases hwl with
  | cons w1 w2 =>
    cases w2
    cases w1 with
    | list ho hall => exact ⟨_, _, ns, rfl, rfl, ho, ints_of_wellAll ns _ hall, hlen⟩
theorem post_true (l : OpenLaw) (args : List WData) : l.row.toRowW.claim.post args (.bool true) args = true :=
  postW_of (r := l.row.toRowW) (X := (true == true))
    (show WShape.has [] (.bool true) .bool = true by first | rfl | decide | simp [WShape.has, WShape.arms, WShape.armsAll])
    (show (WTm.eq .res (.lit (.bool true))).value [] { args := args, res := some (.bool true), after := args } = some (.bool (true == true)) from w_eq_bool (w_res rfl) w_lit) rfl
theorem attach_call {l : OpenLaw} {n : Nat} {q : Program} {loose : List Str} {XP : (Str → Option Value) → Heap → Prop} {YP : World → Heap → Prop} {d : DefRec}
    (hn : l.most = some n) (hdf : d.params.defaults = [])
    (call : ∀ (w : World) (s₀ s₁ : Shared) (mg mb : Str → Option Value) (fa : Addr) (o : Obj) (pm cd doc : Value) (a : Addr) (vs : List Value) (ns : List Int),
      Ground q loose [] XP w s₀ mg mb s₁.heap → YP w s₁.heap →
      s₁.heap.get? fa = some o → o.data = .func (docDef d.name d.params d.body d.scope pm cd doc) → s₁.heap.CodeRec cd d.name → mg d.name = some (.ref fa) →
      s₁.heap.get? a = some { cls := .type "list", data := .seq vs.toArray } → IntsAre vs ns → ns.length ≤ n → s₁.gens = #[] →
      codeAny (model l.prog w) callerA (.call (.ref fa) ⟨[.ref a], []⟩) (fun r s' => r = .ok (.ret (.bool true)) ∧ OldK s₁.heap s'.heap ∧ s'.os = s₁.os ∧ AllBare s'.gens) s₁) :
    WalkO q loose XP YP l.row.toRowW d [] (fun f vs => PySem.call f vs) := by
  intro w s₀ s₁ mg mb G Y fa o pm cd doc dV kV ho hd hcd hD hmg hg args vals as hpre hlay hrd hwl hlo
  obtain rfl : dV = .none := Dflts.none hD hdf
  obtain rfl : kV = .none := Dflts.noKw hD
  obtain ⟨a, vs, ns, rfl, rfl, hobj, hints, hlen⟩ := script_of hn hpre hwl
  refine enter_call (codeAny_mono (call w s₀ s₁ mg mb fa o pm cd doc a vs ns G Y ho (fd_plain hd) hcd hmg hobj hints hlen hg) fun r s' hq => ?_)
  obtain ⟨rfl, h2, h3, h4⟩ := hq
  exact ⟨.inl ⟨.bool true, .bool true, [], rfl, fun _ => rfl, .bool true, post_true l _, fun _ => ⟨List.Pairwise.nil, fun _ hm => (nomatch hm)⟩⟩, h2, h3, h4⟩
section
variable {prog : Program} {w : World} {A : Around} {E : Value → Shared → Prop} {s : Shared} {K : Frag}
end
end Att
namespace L2
open PySem PySem.Spec PyProof.Rows
theorem vals_ints : ∀ {vs : List Value} {ns : List Int}, IntsAre vs ns → Vals (ns.map V.int) vs
  | _, _, .nil => .nil
  | _, _, .cons n t h => .cons ⟨t, rfl⟩ (vals_ints h)
def Only (H : Hp) : Prop := ∀ b, H b = none ∨ ∃ o xs, H b = some (.frz o (.lst xs))
theorem law_call {P : Program} {w : World} {K : PySem.W.Frag} {mg mb : Str → Option Value} {CX : CXT} {k : Nat} {fa a : Addr} {fd : FuncData} {x : Str} {sp : Sp} {s₁ : Shared} {vs : List Value} {ns : List Int}
    (KX : K.In s₁.heap) (hns : s₁.heap.Ns mainGlobals mg) (hb : s₁.heap.Ns builtinsNs mb) (hbb : ∀ x : Str, x ≠ "__name__" → mb x = bootBuiltins x) (hlim : s₁.heap.NoLimit) (hg : s₁.gens = #[])
    (ha : s₁.heap.get? a = some { cls := .type "list", data := .seq vs.toArray }) (hi : IntsAre vs ns) (hl : ns.length ≤ sizeLine) (hr : Room k callerA)
    (F : ∀ base : Heap, K.In base → base.Ns mainGlobals mg → FnOk P w K mg base CX k fa fd [x] sp) (hbind : ∀ (s : Shared) (u : Value), BindsTo s fd ⟨[u], []⟩ [(x, u)])
    (hsp : ∀ H : Hp, Only H → SqL K H a (ns.map V.int) → sp [.ref a] H (fun v _ => v = .bl true) fun _ _ _ => False)
    (hCX : ∀ H e s', CX [] H s₁ (fun _ _ _ => False) e s' → False) :
    codeAny (model P w) callerA (.call (.ref fa) ⟨[.ref a], []⟩) (fun r s' => r = .ok (.ret (.bool true)) ∧ OldK s₁.heap s'.heap ∧ s'.os = s₁.os ∧ AllBare s'.gens) s₁ := by
  have rv := vals_ints hi
  have lenV := hi.length
  have core : ∀ H : Hp, Only H → SqL K H a (ns.map V.int) → HOk P w H s₁.heap → (∀ b, H b ≠ none → b = a) → (H a ≠ none → K.lookup a = none) →
      codeAny (model P w) callerA (.call (.ref fa) ⟨[.ref a], []⟩) (fun r s' => r = .ok (.ret (.bool true)) ∧ OldK s₁.heap s'.heap ∧ s'.os = s₁.os ∧ AllBare s'.gens) s₁ := by
    intro H hO hS hok hA hK
    have base_of : ∀ {b : Addr} {o : Obj}, s₁.heap.get? b = some o → H b = none → (hidT s₁.heap H).get? b = some o := fun e n => hidT_get e n
    have noA : ∀ {b : Addr} {o : Obj} {es : Array DictEntry} {ep : Nat}, s₁.heap.get? b = some o → o.data = .dict es ep → H b = none := fun {b o es ep} e d => by
      cases q : H b with
      | none => rfl
      | some u =>
        have e' : b = a := hA b (by rw [q]; simp)
        subst e'
        rw [ha] at e; cases e
        have d' : Data.seq vs.toArray _ = Data.dict es ep := d
        cases d'
    have nsK : ∀ {b : Addr} {m : Str → Option Value}, s₁.heap.Ns b m → (hidT s₁.heap H).Ns b m := fun {b m} ⟨o, es, ep, e, d, r⟩ => ⟨o, es, ep, base_of e (noA e d), d, r⟩
    have hKb : K.In (hidT s₁.heap H) := fun b o e => base_of (KX b o e) (by
      cases q : H b with
      | none => rfl
      | some u =>
        have e' : b = a := hA b (by rw [q]; simp)
        subst e'
        rw [hK (by rw [q]; simp)] at e; cases e)
    have hM : Mod K mg (hidT s₁.heap H) := ⟨hKb, nsK hns, ⟨mb, nsK hb, hbb⟩, let ⟨mc, h1, h2⟩ := hlim; ⟨mc, nsK h1, h2⟩⟩
    have e0 : Env0 P w K mg (hidT s₁.heap H) callerA [] s₁ H := ⟨rfl, hM, fun b o e => of_hidT e, Nat.le_of_eq (hidT_size _ _), trivial, fun b hb => absurd (show b ∈ ([] : List Addr) from hb) (by simp), hok, .of_eq hg⟩
    refine codeAny_mono ((F _ hKb (nsK hns)).run callerA [] s₁ H ⟨[.ref a], []⟩ [.ref a] [.ref a] _ _ hr e0 (hbind s₁ (.ref a)) (.cons rfl .nil) (hsp H hO hS)) fun r s' h => ?_
    cases r with
    | error e => exact (hCX H e s' h).elim
    | ok fl =>
      cases fl with
      | next => exact False.elim h
      | brk => exact False.elim h
      | cont => exact False.elim h
      | ret u =>
        obtain ⟨v, H', os, bare, un, hok', r', q⟩ := h
        have q' : v = .bl true := q
        subst q'
        obtain rfl : u = Value.bool true := r'
        refine ⟨rfl, OldK.of_keep fun b o e => ?_, os, bare⟩
        cases q : H b with
        | none => exact un.keep b o e q (by intro z; exact absurd (show b ∈ ([] : List Addr) from z) (by simp)) (by simp)
        | some u =>
          rcases hO b with z | ⟨ob, xs, z⟩
          · rw [q] at z; cases z
          · have z2 := un.frzs b ob _ z
            obtain ⟨e1, _⟩ := hok b _ z
            obtain ⟨e2, _⟩ := hok' b _ z2
            rw [e] at e1; cases e1
            exact e2
  cases hk : K.lookup a with
  | some o =>
    have e := KX a o hk
    rw [ha] at e
    cases e
    refine core (fun _ => none) (fun _ => .inl rfl) (.inr ⟨_, vs.toArray, _, hk, rfl, rfl, rfl, by rw [List.size_toArray, lenV]; exact hl, by simpa using rv⟩) (fun b u z => by have z' : (none : Option HO) = some u := z; cases z') (fun b z => absurd rfl z) fun z => absurd rfl z
  | none =>
    refine core (fun b => if b = a then some (.frz { cls := .type "list", data := .seq vs.toArray } (.lst (ns.map V.int))) else none) (fun b => ?_) (.inl (.inr ⟨{ cls := .type "list", data := .seq vs.toArray }, if_pos rfl⟩)) (fun b u z => ?_) (fun b z => ?_) fun _ => hk
    · by_cases hb : b = a
      · exact .inr ⟨_, _, if_pos hb⟩
      · exact .inl (if_neg hb)
    · by_cases hb : b = a
      · have z' := (if_pos hb).symm.trans z
        cases z'
        subst hb
        exact ⟨ha, by rw [List.length_map]; exact hl, vs, _, rv, ha⟩
      · have z' := (if_neg hb).symm.trans z
        cases z'
    · by_cases hb : b = a
      · exact hb
      · exact absurd (if_neg hb) z
end L2
namespace L2
open PySem PySem.Spec PyProof.Rows
theorem walk_of {l : PySem.W.OpenLaw} {n k : Nat} {q : Program} {loose : List Str} {XP : (Str → Option Value) → Heap → Prop} {YP : World → Heap → Prop} {d : DefRec} {K : Params → PySem.W.Frag} {CX : World → CXT} {sp : World → Sp} {x : Str}
    (hn : l.most = some n) (hn2 : n ≤ sizeLine) (hdf : d.params.defaults = []) (hr : Room k callerA)
    (hY : ∀ (w : World) (h : Heap), YP w h → (K w.params).In h)
    (F : ∀ (w : World) (mg : Str → Option Value) (fa : Addr) (h : Heap), (K w.params).In h → h.Ns mainGlobals mg → mg d.name = some (.ref fa) →
      ∃ fd : FuncData, (∀ (s : Shared) (u : Value), BindsTo s fd ⟨[u], []⟩ [(x, u)]) ∧
        ∀ base : Heap, (K w.params).In base → base.Ns mainGlobals mg → FnOk l.prog w (K w.params) mg base (CX w) k fa fd [x] (sp w))
    (hsp : ∀ (w : World) (H : Hp) (a : Addr) (ns : List Int), ns.length ≤ n → Only H → SqL (K w.params) H a (ns.map V.int) → sp w [.ref a] H (fun v _ => v = .bl true) fun _ _ _ => False)
    (hCX : ∀ (w : World) (H : Hp) (s : Shared) (e : Value) (s' : Shared), CX w [] H s (fun _ _ _ => False) e s' → False) :
    PySem.W.WalkO q loose XP YP l.row.toRowW d [] (fun f vs => PySem.call f vs) := by
  refine Att.attach_call hn hdf fun w s₀ s₁ mg mb fa o pm cd doc a vs ns G Y ho hd hcd hmg hobj hints hlen hg => ?_
  have KX := hY w _ Y
  obtain ⟨fd, hb, hF⟩ := F w mg fa _ KX G.T.g hmg
  exact law_call KX G.T.g G.T.b G.T.builtins G.T.nolimit hg hobj hints (Nat.le_trans hlen hn2) hr hF hb (fun H hO hS => hsp w H a ns hlen hO hS) fun H e s' => hCX w H s₁ e s'
end L2
namespace L2
open PySem PySem.Spec PyProof.Rows
def inClass (s : Stmt) (j : Nat) : Stmt := match s with
  | .ClassDef _ _ _ body _ _ _ _ _ _ _ => body.getD j (.Pass ⟨0, 0, 0, 0⟩)
  | _ => .Pass ⟨0, 0, 0, 0⟩
def defArgs (s : Stmt) : Arguments := match s with
  | .FunctionDef _ a _ _ _ _ _ _ _ _ => a
  | _ => { posonlyargs := [], args := [], vararg := none, kwonlyargs := [], kw_defaults := [], kwarg := none, defaults := [] }
def defBody (s : Stmt) : List Stmt := match s with
  | .FunctionDef _ _ b _ _ _ _ _ _ _ => b
  | _ => []
def defScope (s : Stmt) : Scope := match s with
  | .FunctionDef _ _ _ _ _ _ sc _ _ _ => sc
  | _ => { kind := .function, names := [], isGenerator := false, isCoroutine := false }
abbrev CX0 : CXT := fun _ _ _ _ _ _ => False
abbrev E0 : XK := fun _ _ _ => False
theorem pass0 {X : Cx} : Passes CX0 X E0 := fun _ _ _ _ _ _ _ h => h.elim
structure Fun (K : PySem.W.Frag) (x qual : Str) (st : Stmt) (f : Addr) (fd : FuncData) : Prop where
  ex : ∃ (oc : Value) (od : Option Addr) (kV doc pm : Value) (an : Option Addr) (cdv ct : Value) (osl : Array (Option Value)),
    fd = PySem.W.fnOf x qual (defArgs st) (defBody st) (defScope st) .none kV doc pm an cdv ct ∧ K.lookup f = some ⟨oc, od, .func fd, osl⟩ ∧ PySem.W.codeIn K cdv qual = true
  kp : PySem.W.keepIn K (.ref f) = true
section
variable {P : Program} {w : World} {K : PySem.W.Frag} {mg : Str → Option Value} {base : Heap}
theorem Fun.ok {x qual : Str} {st : Stmt} {f : Addr} {fd : FuncData} {N ps : List Str} {k : Nat} {sp : Sp} (F : Fun K x qual st f fd) (S : FnScope N ps (defScope st)) (len : ∀ vs H Q E, sp vs H Q E → vs.length = ps.length)
    (hbody : ∀ (cdv : Value) (A : Around) (outer : List Env) (s : Shared) (H : Hp) (vs : List V) (Q : VK) (E : XK), Room k (A.deeper (envOfC qual (defScope st) s.heap.objs.size f cdv)) → sp vs H Q E →
      ∃ t, PSs (cxOf CX0 P w K mg base N qual (defScope st) f cdv A outer s H E).nox (defBody st) t ∧ t { nx := fun _ H' => Q .non H', rt := Q } (start N vs) H) : FnOk P w K mg base CX0 (k + 1) f fd ps sp := by
  obtain ⟨oc, od, kV, doc, pm, an, cdv, ct, osl, rfl, lk, hcd⟩ := F.ex
  refine fn_of lk hcd S len fun A outer s H vs Q E hr hsp => ?_
  obtain ⟨t, h, q⟩ := hbody cdv A outer s H vs Q E hr hsp
  exact ⟨t, h.nox, q⟩
theorem Fun.binds {x qual : Str} {st : Stmt} {f : Addr} {fd : FuncData} {ps : List Str} (F : Fun K x qual st f fd)
    (h : ∀ (kV doc pm : Value) (an : Option Addr) (cdv ct : Value) (us : List Value), us.length = ps.length → bindArgs (PySem.W.fnOf x qual (defArgs st) (defBody st) (defScope st) .none kV doc pm an cdv ct) ⟨us, []⟩ = pure (ps.zip us)) : Binds K fd ps [] := by
  obtain ⟨oc, od, kV, doc, pm, an, cdv, ct, osl, rfl, lk, hcd⟩ := F.ex
  exact .all (h kV doc pm an cdv ct)
theorem fun_mk {x qual : Str} {st : Stmt} {f : Addr} {oc : Value} {od an : Option Addr} {osl : Array (Option Value)} {kV doc pm cdv ct : Value} (l : K.lookup f = some ⟨oc, od, .func (PySem.W.fnOf x qual (defArgs st) (defBody st) (defScope st) .none kV doc pm an cdv ct), osl⟩)
    (c : PySem.W.codeIn K cdv qual = true) (k : PySem.W.keepIn K (.ref f) = true) : Fun K x qual st f (PySem.W.fnOf x qual (defArgs st) (defBody st) (defScope st) .none kV doc pm an cdv ct) := ⟨⟨oc, od, kV, doc, pm, an, cdv, ct, osl, rfl, l, c⟩, k⟩
end
section
variable {X : Cx}
theorem pv (i : Nat) {x : Str} {pos : Pos} (hN : X.N[i]? = some x := by rfl) (hv : Vis X.env.scope x := by first | exact Or.inl rfl | exact Or.inr (Or.inl rfl) | exact Or.inr (Or.inr rfl)) (hd : (x == ("__debug__" : Str)) = false := by decide)
    (hcd : (x == ("__classdict__" : Str)) = false := by decide) : PE X (.Name x pos) (tVar i) := pe_var hN hv hd hcd
end
theorem iteF {A B : Prop} (h : B) : if false = true then A else B := by
  rw [if_neg Bool.false_ne_true]
  exact h
theorem iteT {A B : Prop} (h : A) : if true = true then A else B := by
  rw [if_pos rfl]
  exact h
theorem ite2 {c A B : Prop} [Decidable c] (h1 : c → A) (h2 : ¬ c → B) : if c then A else B := by
  by_cases h : c
  · rw [if_pos h]
    exact h1 h
  · rw [if_neg h]
    exact h2 h
def Same (H H' : Hp) : Prop := ∀ b o, H b = some o → H' b = some o
theorem Same.refl (H : Hp) : Same H H := fun _ _ h => h
theorem Same.trans {H H1 H2 : Hp} (a : Same H H1) (b : Same H1 H2) : Same H H2 := fun c o h => b c o (a c o h)
theorem Same.free {H H' : Hp} (e : Same H H') {l : Addr} (h : H' l = Option.none) : H l = Option.none := by
  cases q : H l with
  | none => rfl
  | some o =>
    rw [e l o q] at h
    cases h
theorem Same.seq {K : PySem.W.Frag} {H H' : Hp} {a : Addr} {xs : List V} (e : Same H H') (h : SqL K H a xs) : SqL K H' a xs := by
  rcases h with (h | ⟨o, h⟩) | h
  · exact .inl (.inl (e _ _ h))
  · exact .inl (.inr ⟨o, e _ _ h⟩)
  · exact .inr h
end L2
namespace L2
open PySem PySem.Spec PyProof.Rows
section
variable {X : Cx}
end
end L2
namespace L2
open PySem PySem.Spec PyProof.Rows
section
variable {κ : Type} [DecidableEq κ]
end
end L2
set_option Elab.async false
set_option linter.all false
set_option maxRecDepth 100000
namespace Tim
open PySem PyProof.Rows
def Good (p : Keyed) : Prop := ∃ n t, p.1 = .int n t ∧ p.2 = p.1
section
variable {prog : Program} {w : World} {A : Around} {E : Value → Shared → Prop} {s : Shared} {n : Nat} {pe : Array (Nat × Nat × Nat)} {st : SortSt}
end
end Tim
set_option Elab.async false
set_option linter.all false
set_option maxRecDepth 100000
namespace Tim
open PySem PyProof.Rows
section
variable {prog : Program} {w : World} {A : Around} {E : Value → Shared → Prop} {s : Shared} {st : SortSt}
end
end Tim
set_option Elab.async false
set_option linter.all false
set_option maxRecDepth 100000
namespace Tim
open PySem PyProof.Rows
def AllGood (xs : Array Keyed) : Prop := ∀ p ∈ xs.toList, Good p
theorem AllGood.append {x y : Array Keyed} (hx : AllGood x) (hy : AllGood y) : AllGood (x ++ y) := fun p hp => by
  rw [Array.toList_append] at hp
  exact (List.mem_append.mp hp).elim (hx p) (hy p)
theorem AllGood.push {x : Array Keyed} {q : Keyed} (hx : AllGood x) (hq : Good q) : AllGood (x.push q) := fun p hp => by
  rw [Array.toList_push] at hp
  rcases List.mem_append.mp hp with z | z
  · exact hx p z
  · rw [List.mem_singleton.mp z]; exact hq
theorem AllGood.reverse {x : Array Keyed} (hx : AllGood x) : AllGood x.reverse := fun p hp => hx p (by simpa using hp)
theorem AllGood.one {q : Keyed} (hq : Good q) : AllGood #[q] := fun p hp => by
  have : p = q := by simpa using hp
  rw [this]; exact hq
section
variable {prog : Program} {w : World} {A : Around} {E : Value → Shared → Prop} {s : Shared} {n : Nat} {pe : Array (Nat × Nat × Nat)} {st : SortSt}
end
end Tim
set_option Elab.async false
set_option linter.all false
set_option maxRecDepth 100000
namespace Tim
open PySem PyProof.Rows
section
variable {prog : Program} {w : World} {A : Around} {E : Value → Shared → Prop} {s : Shared} {n : Nat} {pe : Array (Nat × Nat × Nat)} {st : SortSt}
end
end Tim
set_option Elab.async false
set_option linter.all false
set_option maxRecDepth 100000
namespace Tim
open PySem PyProof.Rows
section
variable {prog : Program} {w : World} {A : Around} {E : Value → Shared → Prop} {s : Shared} {n : Nat} {pe : Array (Nat × Nat × Nat)} {st : SortSt}
end
end Tim
set_option Elab.async false
set_option linter.all false
set_option maxRecDepth 100000
namespace Tim
open PySem PyProof.Rows
section
variable {prog : Program} {w : World} {A : Around} {E : Value → Shared → Prop} {s : Shared} {n : Nat} {pe : Array (Nat × Nat × Nat)} {st : SortSt}
end
end Tim
set_option Elab.async false
set_option linter.all false
set_option maxRecDepth 100000
namespace Tim
open PySem PyProof.Rows
section
variable {prog : Program} {w : World} {A : Around} {E : Value → Shared → Prop} {s : Shared}
end
end Tim
set_option Elab.async false
set_option linter.all false
set_option maxRecDepth 100000
namespace L2
open PySem PySem.Spec PyProof.Rows
def compCx (X : Cx) (N' : List Str) (scope : Scope) (cl : List (Str × Addr)) (C : Addr) (s₀ : Shared) (H₀ : Hp) (ex : List Addr) : Cx :=
  { X with N := N', s₀ := s₀, H₀ := H₀, env := compEnvC scope cl C X.env, outer := X.stack, ex := ex, fn := fun x => scope.names.lookup x == some NameKind.cell, pn := [] }
theorem closure_ok {env : Env} : ∀ (names : List (Str × NameKind)) (acc : List (Str × Addr)), (∀ y ∈ names, y.2 = .free → ∃ c, env.cells.lookup y.1 = some c) →
    (∀ y c, acc.lookup y = some c → env.cells.lookup y = some c) →
    ∃ cl, (forIn names acc fun x r => if (x.2 == NameKind.free) = true then do let c ← cellOf env x.1; pure (ForInStep.yield ((x.1, c) :: r)) else pure (ForInStep.yield r) : Sem (List (Str × Addr))) = pure cl ∧
      (∀ y c, cl.lookup y = some c → env.cells.lookup y = some c) ∧ (∀ y, (y, NameKind.free) ∈ names → ∃ c, cl.lookup y = some c) ∧ ∀ y c, acc.lookup y = some c → ∃ c', cl.lookup y = some c'
  | [], acc, _, ha => ⟨acc, by simp, ha, fun _ h => by simp at h, fun y c h => ⟨c, h⟩⟩
  | (n, k) :: r, acc, h, ha => by
    by_cases hk : k = .free
    · subst hk
      obtain ⟨c, hc⟩ := h (n, .free) List.mem_cons_self rfl
      have e : cellOf env n = pure c := by unfold cellOf; rw [hc]
      obtain ⟨cl, e1, h1, h2, h3⟩ := closure_ok r ((n, c) :: acc) (fun y hy => h y (List.mem_cons_of_mem _ hy)) (fun y d hd => by
        rw [List.lookup_cons] at hd
        split at hd
        · rename_i hb
          have : y = n := by simpa using hb
          subst this
          cases hd
          exact hc
        · exact ha y d hd)
      refine ⟨cl, ?_, h1, fun y hy => ?_, fun y d hd => ?_⟩
      · rw [List.forIn_cons, e]
        simpa using e1
      · rcases List.mem_cons.mp hy with z | z
        · cases z
          exact h3 n c (by simp [List.lookup_cons])
        · exact h2 y z
      · by_cases hy : y = n
        · subst hy
          exact h3 y c (by simp [List.lookup_cons])
        · have hb : (y == n) = false := by simpa using hy
          exact h3 y d (by simp only [List.lookup_cons, hb]; exact hd)
    · have hb : (k == NameKind.free) = false := by simpa using hk
      obtain ⟨cl, e1, h1, h2, h3⟩ := closure_ok r acc (fun y hy => h y (List.mem_cons_of_mem _ hy)) ha
      refine ⟨cl, ?_, h1, fun y hy => ?_, h3⟩
      · rw [List.forIn_cons]
        simpa [hb] using e1
      · rcases List.mem_cons.mp hy with z | z
        · cases z
          exact absurd rfl hk
        · exact h2 y z
theorem comp_closure {scope : Scope} {env : Env} (h : ∀ y ∈ scope.names, y.2 = .free → ∃ c, env.cells.lookup y.1 = some c) :
    ∃ cl, closureFor scope env = pure cl ∧ (∀ y c, cl.lookup y = some c → env.cells.lookup y = some c) ∧ ∀ y, (y, NameKind.free) ∈ scope.names → ∃ c, cl.lookup y = some c := by
  obtain ⟨cl, e, h1, h2, _⟩ := closure_ok (env := env) scope.names [] h (fun _ _ z => by simp at z)
  refine ⟨cl, ?_, h1, h2⟩
  unfold closureFor
  show ((forIn scope.names [] fun x r => if (x.2 == NameKind.free) = true then do let c ← cellOf env x.1; pure (ForInStep.yield ((x.1, c) :: r)) else pure (ForInStep.yield r) : Sem (List (Str × Addr))) >>= fun cs => pure cs) = pure cl
  rw [e]
  rfl
section
variable {prog : Program} {w : World} {A : Around} {R : Result → Shared → Prop} {s : Shared}
theorem compLoop_any {elt target iter : Expr} {ifs : List Expr} {scope : Scope} {pos : Pos} {it acc : Value} {env : Env} (I : Nat → Shared → Prop)
    (turn : ∀ n s, I n s → wpAny (model prog w) A (pyNext it) (fun r s₁ => match r with
      | none => R (.ok .next) s₁
      | some v => wpAny (model prog w) A (letOwnedTupleGo target it v) (fun _ s₁' => wpAny (model prog w) A (assign target env v) (fun _ s₂ =>
          wpAny (model prog w) A (forIn ifs true fun c r => if r = true then do let ok ← isTrue c env (eval c env); pure (ForInStep.yield ok) else pure (ForInStep.yield r)) (fun ok s₃ =>
            if ok = true then wpAny (model prog w) A (eval elt env) (fun x s₄ =>
              wpAny (model prog w) A (call (.builtin "list.append") [acc, x]) (fun _ s₅ => ∃ m, m < n ∧ I m s₅) (fun _ _ => False) s₄) (fun _ _ => False) s₃
            else ∃ m, m < n ∧ I m s₃) (fun _ _ => False) s₂) (fun _ _ => False) s₁') (fun _ _ => False) s₁) (fun _ _ => False) s)
    (n : Nat) (h : I n s) : codeAny (model prog w) A (.compLoop (.ListComp elt [⟨target, iter, ifs, 0⟩] scope pos) 0 it acc env) R s := by
  refine codeAny_loop rfl I (fun n s hI => ?_) n h
  show wpAny _ A ((compTurn (.ListComp elt [⟨target, iter, ifs, 0⟩] scope pos) 0 it acc env).onRaise (fun x => do noteFrame x env; theTreesLotGoes x)) _ _ s
  refine wpAny_noted ?_
  rw [compTurn_list]
  refine wpAny_mono (E := fun _ _ => False) ?_ (fun _ _ x => x) fun _ _ x => x.elim
  refine wpAny_bind (wpAny_standAt (wpAny_bind (wpAny_mono (turn n s hI) (fun r s₁ h₁ => ?_) fun _ _ h' => h')))
  cases r with
  | none => exact wpAny_pure h₁
  | some v =>
    refine wpAny_bind (wpAny_mono h₁ (fun _ s₁' h₁' => ?_) fun _ _ h' => h')
    refine wpAny_bind (wpAny_mono h₁' (fun _ s₂ h₂ => wpAny_bind (wpAny_mono h₂ (fun ok s₃ h₃ => ?_) fun _ _ h' => h')) fun _ _ h' => h')
    cases ok with
    | false => exact wpAny_pure ⟨rfl, h₃⟩
    | true =>
      exact wpAny_bind (wpAny_bind (wpAny_mono h₃ (fun x s₄ h₄ => wpAny_bind (wpAny_mono h₄ (fun _ s₅ h₅ => wpAny_pure (wpAny_pure ⟨rfl, h₅⟩)) fun _ _ h' => h')) fun _ _ h' => h'))
end
theorem lookup_relabel {env : Env} {x : Str} : ∀ {names : List (Str × NameKind)}, names.lookup x = some .free →
    (names.map fun (n, k) => if (k == NameKind.free && env.scope.kind == .function && env.kindOf n == some .cell) then (n, NameKind.cell) else (n, k)).lookup x = some .free ∨
    (names.map fun (n, k) => if (k == NameKind.free && env.scope.kind == .function && env.kindOf n == some .cell) then (n, NameKind.cell) else (n, k)).lookup x = some .cell
  | [], h => by simp at h
  | (n, k) :: r, h => by
    have ih := @lookup_relabel env x r
    show List.lookup x ((if (k == NameKind.free && env.scope.kind == .function && env.kindOf n == some .cell) = true then (n, NameKind.cell) else (n, k)) :: _) = _ ∨ List.lookup x ((if (k == NameKind.free && env.scope.kind == .function && env.kindOf n == some .cell) = true then (n, NameKind.cell) else (n, k)) :: _) = _
    cases hx : x == n with
    | true =>
      simp only [List.lookup_cons, hx] at h
      cases h
      by_cases hc : (NameKind.free == NameKind.free && env.scope.kind == .function && env.kindOf n == some .cell) = true
      · rw [if_pos hc]; exact .inr (by simp [List.lookup_cons, hx])
      · rw [if_neg hc]; exact .inl (by simp [List.lookup_cons, hx])
    | false =>
      simp only [List.lookup_cons, hx] at h
      by_cases hc : (k == NameKind.free && env.scope.kind == .function && env.kindOf n == some .cell) = true
      · rw [if_pos hc]; simp only [List.lookup_cons, hx]; exact ih h
      · rw [if_neg hc]; simp only [List.lookup_cons, hx]; exact ih h
theorem relabel_back {env : Env} {x : Str} : ∀ {names : List (Str × NameKind)},
    ((names.map fun (n, k) => if (k == NameKind.free && env.scope.kind == .function && env.kindOf n == some .cell) then (n, NameKind.cell) else (n, k)).lookup x = some .cell ∨
     (names.map fun (n, k) => if (k == NameKind.free && env.scope.kind == .function && env.kindOf n == some .cell) then (n, NameKind.cell) else (n, k)).lookup x = some .free) → names.lookup x = some .free ∨ names.lookup x = some .cell
  | [], h => by simp at h
  | (n, k) :: r, h => by
    have ih := @relabel_back env x r
    have h : List.lookup x ((if (k == NameKind.free && env.scope.kind == .function && env.kindOf n == some .cell) = true then (n, NameKind.cell) else (n, k)) :: (r.map fun (n, k) => if (k == NameKind.free && env.scope.kind == .function && env.kindOf n == some .cell) then (n, NameKind.cell) else (n, k))) = some .cell ∨
      List.lookup x ((if (k == NameKind.free && env.scope.kind == .function && env.kindOf n == some .cell) = true then (n, NameKind.cell) else (n, k)) :: (r.map fun (n, k) => if (k == NameKind.free && env.scope.kind == .function && env.kindOf n == some .cell) then (n, NameKind.cell) else (n, k))) = some .free := h
    cases hx : x == n with
    | true =>
      by_cases hc : (k == NameKind.free && env.scope.kind == .function && env.kindOf n == some .cell) = true
      · have : k = .free := by
          have z := (Bool.and_eq_true_iff.mp (Bool.and_eq_true_iff.mp hc).1).1
          simpa using z
        subst this
        exact .inl (by simp [List.lookup_cons, hx])
      · rw [if_neg hc] at h
        simp only [List.lookup_cons, hx] at h ⊢
        exact h.symm
    | false =>
      have : ∀ p : NameKind, List.lookup x ((if (k == NameKind.free && env.scope.kind == .function && env.kindOf n == some .cell) = true then (n, NameKind.cell) else (n, k)) :: (r.map fun (n, k) => if (k == NameKind.free && env.scope.kind == .function && env.kindOf n == some .cell) then (n, NameKind.cell) else (n, k))) = some p ↔ (r.map fun (n, k) => if (k == NameKind.free && env.scope.kind == .function && env.kindOf n == some .cell) then (n, NameKind.cell) else (n, k)).lookup x = some p := fun p => by
        by_cases hc : (k == NameKind.free && env.scope.kind == .function && env.kindOf n == some .cell) = true
        · rw [if_pos hc]; simp only [List.lookup_cons, hx]
        · rw [if_neg hc]; simp only [List.lookup_cons, hx]
      rw [this .cell, this .free] at h
      have := ih h
      simp only [List.lookup_cons, hx]
      exact this
theorem cells_split : ∀ (names : List (Str × NameKind)) (n : Nat) (acc : List (Str × Addr)), cellsFrom n names acc = cellsFrom n names [] ++ acc
  | [], _, _ => rfl
  | (name, kind) :: r, n, acc => by
    unfold cellsFrom
    split
    · rw [cells_split r (n + 1) ((name, n) :: acc), cells_split r (n + 1) [(name, n)], List.append_assoc]
      rfl
    · exact cells_split r n acc
theorem cells_own {x : Str} {c : Addr} : ∀ (names : List (Str × NameKind)) (n : Nat) (acc : List (Str × Addr)), (x, c) ∈ cellsFrom n names acc → (x, NameKind.cell) ∈ names ∨ (x, c) ∈ acc
  | [], _, _, h => .inr h
  | (name, kind) :: r, n, acc, h => by
    unfold cellsFrom at h
    split at h
    · rename_i hk
      have hk' : kind = .cell := by simpa using hk
      rcases cells_own r (n + 1) _ h with z | z
      · exact .inl (List.mem_cons_of_mem _ z)
      · rcases List.mem_cons.mp z with z | z
        · cases z; rw [hk']; exact .inl List.mem_cons_self
        · exact .inr z
    · rcases cells_own r n acc h with z | z
      · exact .inl (List.mem_cons_of_mem _ z)
      · exact .inr z
structure CompScope (X : Cx) (N' own : List Str) (cap : List (Str × Nat)) (scope : Scope) : Prop where
  kind : scope.kind = .function
  own1 : ∀ y ∈ scope.names, y.2 = .cell → scope.names.lookup y.1 = some .cell
  free1 : ∀ y ∈ scope.names, y.2 = .free → scope.names.lookup y.1 = some .free
  names : ∀ y ∈ scope.names, y.2 = .local → scope.names.lookup y.1 = some .local
  free : ∀ y ∈ scope.names, y.2 = .free → X.env.kindOf y.1 = some .cell ∨ X.env.kindOf y.1 = some .free
  eq : N' = own ++ cap.map (·.1)
  cap : ∀ p ∈ cap, X.N[p.2]? = some p.1 ∧ scope.names.lookup p.1 = some .free ∧ (X.env.kindOf p.1 = some .cell ∨ X.env.kindOf p.1 = some .free)
def capSt (own : List Str) (cap : List (Str × Nat)) (σ : St) : St := own.map (fun _ => none) ++ cap.map fun p => (σ[p.2]?).join
section
variable {X : Cx} {pins : List (Addr × Obj)} {σ : St} {H : Hp} {s : Shared} {N' own : List Str} {cap : List (Str × Nat)} {scope : Scope} {cl : List (Str × Addr)} {fp : List Addr}
structure CellsAre (X : Cx) (scope : Scope) (C : Addr) (cl cs : List (Str × Addr)) : Prop where
  old : ∀ y c, cs.lookup y = some c → (cl.lookup y = some c ∧ scope.names.lookup y ≠ some .cell) ∨ (C < c ∧ scope.names.lookup y = some .cell)
  free : ∀ y c, cl.lookup y = some c → scope.names.lookup y ≠ some .cell → cs.lookup y = some c
  has : ∀ y, scope.names.lookup y = some .cell → ∃ c, cs.lookup y = some c
  inj : ∀ x y c, C < c → cs.lookup x = some c → cs.lookup y = some c → x = y
theorem lookup_app {α : Type} {x : Str} : ∀ {l r : List (Str × α)}, (l ++ r).lookup x = (l.lookup x).or (r.lookup x)
  | [], r => by simp
  | (k, v) :: l, r => by
    have ih := @lookup_app α x l r
    rw [List.cons_append, List.lookup_cons, List.lookup_cons]
    cases x == k with
    | true => rfl
    | false => exact ih
theorem cells_are {h : Heap} {C : Addr} (hC : h.objs.size = C + 1) (S : CompScope X N' own cap scope) (hcl : ∀ y c, cl.lookup y = some c → ¬ C < c) : CellsAre X scope C cl (cellsFrom (C + 1) scope.names cl) := by
  have ok := cellsFrom_ok scope.names h (C + 1) [] ⟨fun _ _ hm => (nomatch hm), List.Pairwise.nil⟩ (by rw [hC]; exact Nat.le_refl _)
  rw [hC] at ok
  have own : ∀ y c, (cellsFrom (C + 1) scope.names []).lookup y = some c → C < c ∧ scope.names.lookup y = some .cell := fun y c e => by
    have m := PySem.mem_of_lookup e
    refine ⟨(ok.empty y c m).2, ?_⟩
    rcases cells_own _ _ _ m with z | z
    · exact S.own1 _ z rfl
    · simp at z
  have no : ∀ y, scope.names.lookup y ≠ some .cell → (cellsFrom (C + 1) scope.names []).lookup y = none := fun y hy => by
    cases e : (cellsFrom (C + 1) scope.names []).lookup y with
    | none => rfl
    | some c => exact absurd (own y c e).2 hy
  have has : ∀ y, scope.names.lookup y = some .cell → ∃ c, (cellsFrom (C + 1) scope.names []).lookup y = some c := fun y hy => Option.isSome_iff_exists.mp (PySem.W.cellsFrom_some scope.names (C + 1) [] (.inl hy))
  refine ⟨fun y c e => ?_, fun y c e hy => ?_, fun y hy => ?_, fun x y c hc e1 e2 => ?_⟩
  · rw [cells_split, lookup_app] at e
    cases q : (cellsFrom (C + 1) scope.names []).lookup y with
    | none =>
      rw [q] at e
      refine .inl ⟨e, fun z => ?_⟩
      obtain ⟨c', e'⟩ := has y z
      rw [q] at e'; cases e'
    | some c' =>
      rw [q] at e
      have : c' = c := Option.some.inj e
      subst this
      exact .inr (own y c' q)
  · rw [cells_split, lookup_app, no y hy]
    exact e
  · obtain ⟨c, e⟩ := has y hy
    exact ⟨c, by rw [cells_split, lookup_app, e]; rfl⟩
  · have pick : ∀ z, (cellsFrom (C + 1) scope.names cl).lookup z = some c → (z, c) ∈ cellsFrom (C + 1) scope.names [] := fun z e => by
      rw [cells_split, lookup_app] at e
      cases q : (cellsFrom (C + 1) scope.names []).lookup z with
      | none => rw [q] at e; exact absurd hc (hcl z c e)
      | some c' =>
        rw [q] at e
        have : c' = c := Option.some.inj e
        subst this
        exact PySem.mem_of_lookup q
    exact PySem.name_of_addr ok.apart (pick x e1) (pick y e2)
theorem comp_ok (I : Inv X pins σ H s) (S : CompScope X N' own cap scope) {cs : List (Str × Addr)} (A : CellsAre X scope s.heap.objs.size cl cs) (c1 : ∀ y c, cl.lookup y = some c → X.env.cells.lookup y = some c) (c2 : ∀ y, (y, NameKind.free) ∈ scope.names → ∃ c, cl.lookup y = some c)
    (hf : ∀ b ∈ fp, FpOk X pins H b) (hlt : ∀ b ∈ fp, b < s.heap.objs.size) : (compCx X N' scope cs s.heap.objs.size s H fp).Ok where
  mod := I.ok.mod
  kind := S.kind
  glob := I.ok.glob
  blt := I.ok.blt
  above := Nat.le_refl _
  inj := fun x y c h1 h2 => by
    rcases A.old x c h1 with ⟨a1, _⟩ | ⟨a1, _⟩
    · rcases A.old y c h2 with ⟨b1, _⟩ | ⟨b1, _⟩
      · exact I.ok.inj x y c (c1 x c a1) (c1 y c b1)
      · obtain ⟨v, o, ho, _⟩ := I.cell x c (c1 x c a1)
        exact absurd (Nat.lt_trans b1 (Heap.lt_size ho)) (Nat.lt_irrefl _)
    · exact A.inj x y c a1 h1 h2
  has := fun x h => by
    rcases relabel_back h with z | z
    · obtain ⟨c, e⟩ := c2 x (PySem.mem_of_lookup z)
      exact ⟨c, A.free x c e (by rw [z]; simp)⟩
    · exact A.has x z
  cab := fun x c h e => by
    have h' : scope.names.lookup x = some .cell := by
      have : (scope.names.lookup x == some NameKind.cell) = true := h
      simpa using this
    rcases A.old x c e with ⟨_, z⟩ | ⟨z, _⟩
    · exact absurd h' z
    · exact Nat.le_of_lt z
  hd := I.ok.hd
  frames := I.ok.frames
  stk := .inl rfl
  exf := fun b hb => ⟨Nat.ne_of_lt (hlt b hb), fun x c h => by
    rcases A.old x c h with ⟨z, _⟩ | ⟨z, _⟩
    · exact (hf b hb).2.2.2.2.1 x c (c1 x c z)
    · exact fun e => absurd (Nat.lt_trans (e ▸ z) (hlt b hb)) (Nat.lt_irrefl _)⟩
  bs := I.bs
  bsz := Nat.le_trans I.ok.bsz I.sz
  noex := fun b o e hb => by
    rcases (hf b hb).2.2.2.1 with z | z
    · exact I.ok.noex b o e z
    · exact absurd (Nat.lt_of_lt_of_le (Heap.lt_size e) (Nat.le_trans I.ok.bsz z)) (Nat.lt_irrefl _)
  exfs := fun b hb z => by
    rcases List.mem_cons.mp (I.stkSub b z) with q | q
    · exact (hf b hb).2.1 q
    · exact (hf b hb).2.2.1 q
  funs := I.stack
  frf := I.stkFree
theorem comp_inv {h' : Heap} {t' : Nat} {cs : List (Str × Addr)} (I : Inv X pins σ H s) (S : CompScope X N' own cap scope) (A : CellsAre X scope s.heap.objs.size cl cs) (hA : ∀ y c, cs.lookup y = some c → s.heap.objs.size < c → h'.IsCell c none)
    (c1 : ∀ y c, cl.lookup y = some c → X.env.cells.lookup y = some c) (c2 : ∀ y, (y, NameKind.free) ∈ scope.names → ∃ c, cl.lookup y = some c)
    (hf : ∀ b ∈ fp, FpOk X pins H b) (hlt : ∀ b ∈ fp, b < s.heap.objs.size) (hk : ∀ b o, s.heap.get? b = some o → h'.get? b = some o) {m : Str → Option Value} (hn : h'.Ns s.heap.objs.size m) :
    Inv (compCx X N' scope cs s.heap.objs.size s H fp) [] (capSt own cap σ) H { s with heap := h', toks := t' } := by
  refine ⟨comp_ok I S A c1 c2 hf hlt, rfl, I.bare, Un.kept hk, ⟨m, hn, fun i x v h1 h2 h3 => ?_⟩, fun x c e => ?_, I.hok.fresh (Nat.le_refl _), fun x c e => ?_, fun p hp => absurd hp (by show p ∉ ([] ++ [] : List (Addr × Obj)); simp), ?_, ?_⟩
  · have hi : own.length ≤ i := by
      by_cases hi : own.length ≤ i
      · exact hi
      · unfold capSt at h2
        rw [List.getElem?_append_left (by rw [List.length_map]; omega), List.getElem?_map] at h2
        cases e : own[i]? with
        | none => rw [e] at h2; cases h2
        | some a => rw [e] at h2; cases h2
    have h1' : (own ++ cap.map (·.1))[i]? = some x := by rw [← S.eq]; exact h1
    rw [List.getElem?_append_right hi, List.getElem?_map] at h1'
    unfold capSt at h2
    rw [List.getElem?_append_right (by rw [List.length_map]; exact hi), List.length_map, List.getElem?_map] at h2
    cases e : cap[i - own.length]? with
    | none => rw [e] at h2; cases h2
    | some p =>
      rw [e] at h1' h2
      have ex : p.1 = x := Option.some.inj h1'
      have ev : (σ[p.2]?).join = some v := Option.some.inj h2
      have ev' : σ[p.2]? = some (some v) := by
        cases q : σ[p.2]? with
        | none => rw [q] at ev; cases ev
        | some z => rw [q] at ev; exact congrArg some ev
      obtain ⟨k1, k2, k3⟩ := S.cap p (List.mem_of_getElem? e)
      subst ex
      obtain ⟨m0, hn0, hl⟩ := I.loc
      obtain ⟨u, ru, lk⟩ := hl p.2 p.1 v k1 ev' (by rcases k3 with z | z; exact .inr (.inl z); exact .inr (.inr z))
      refine ⟨u, ru, ?_⟩
      rcases lk with ⟨z, _⟩ | ⟨_, c, hc, hcell⟩
      · rcases k3 with q | q <;> (rw [z] at q; cases q)
      · refine .inr ⟨?_, c, ?_, ?_⟩
        · rcases lookup_relabel (env := X.env) k2 with q | q
          · exact .inr q
          · exact .inl q
        · obtain ⟨c', e'⟩ := c2 p.1 (PySem.mem_of_lookup k2)
          have := c1 _ _ e'
          rw [hc] at this
          cases this
          exact A.free _ _ e' (by rw [k2]; simp)
        · obtain ⟨o, ho, hd⟩ := hcell
          exact ⟨o, hk _ _ ho, hd⟩
  · rcases A.old x c e with ⟨z, _⟩ | ⟨z, _⟩
    · obtain ⟨v, o, ho, hd⟩ := I.cell x c (c1 x c z)
      exact ⟨v, o, hk _ _ ho, hd⟩
    · exact ⟨none, hA x c e z⟩
  · rcases A.old x c e with ⟨z, _⟩ | ⟨z, _⟩
    · exact I.freeC x c (c1 x c z)
    · exact I.hok.fresh (Nat.le_of_lt z)
  · exact I.hok.kept hk
  · show (capSt own cap σ).length = N'.length
    rw [S.eq]
    unfold capSt
    simp
end
end L2
set_option Elab.async false
set_option linter.all false
set_option maxRecDepth 100000
namespace L2
open PySem PySem.Spec PyProof.Rows
def PIf (X : Cx) (ifs : List Expr) (t : TT) : Prop :=
  ∀ (pins : List (Addr × Obj)) (s : Shared) (σ : St) (H : Hp) (Q : Bool → Hp → Prop), Inv X pins σ H s → t σ H Q →
    wpAny (model X.prog X.w) X.A (forIn ifs true fun c r => if r = true then do let ok ← isTrue c X.env (eval c X.env); pure (ForInStep.yield ok) else pure (ForInStep.yield r)) (TP X pins σ Q) X.xe s
def tYes : TT := fun _ H Q => Q true H
theorem pif_nil {X : Cx} : PIf X [] tYes := fun _ _ _ H _ I h => wpAny_tests_nil ⟨H, I, h⟩
theorem pif_one {X : Cx} {c : Expr} {t : TT} (h : PT X c t) : PIf X [c] t := fun pins s σ H Q I hw => wpAny_tests_one (h pins s σ H Q I hw)
theorem newEnv_around {M : Model} {A : Around} {E : Value → Shared → Prop} {s : Shared} {scope : Scope} {globals : Addr} {cl : List (Str × Addr)} {qual : Str} {env : Env} {Q : Env → Shared → Prop}
    (hQ : ∀ h', h'.Ns s.heap.objs.size (fun _ => none) → (∀ b o, s.heap.get? b = some o → h'.get? b = some o) → (∀ n c, (n, c) ∈ cellsFrom (s.heap.objs.size + 1) scope.names [] → h'.IsCell c none) →
      Q (newEnv scope s.heap.objs.size globals (cellsFrom (s.heap.objs.size + 1) scope.names cl) qual none .none (some env) builtinsNs) { s with heap := h' }) :
    wpAny M A (newFunctionEnv scope globals cl [] qual none .none (some env)) Q E s := by
  simp only [newFunctionEnv, Option.isSome_some, if_true]
  refine wpAny_bind (wpAny_alloc ?_)
  refine wpAny_bind (wpAny_layCells _ (fun name kind cells => by cases hkc : kind == NameKind.cell <;> simp [hkc]) _ _ _ _ ?_)
  have ok := cellsFrom_ok scope.names (s.heap.push { cls := .type "dict", data := .dict #[] }) (s.heap.objs.size + 1) [] ⟨fun _ _ hm => (nomatch hm), List.Pairwise.nil⟩ (by rw [Heap.size_push]; exact Nat.le_refl _)
  rw [Heap.size_push] at ok
  rw [show ({ s with heap := s.heap.push { cls := .type "dict", data := .dict #[] } } : Shared).heap.objs.size = s.heap.objs.size + 1 from Heap.size_push ..]
  rw [List.forIn_nil]
  refine wpAny_bind (wpAny_pure (wpAny_pure ?_))
  exact hQ _ ((Heap.Ns.new s.heap (.type "dict")).keeps (pushCells_keeps _ _)) (fun b o e => pushCells_keeps _ _ b o (Heap.get?_push_of_some _ e)) fun n c hm => (ok.empty n c hm).1
def CompTurns (J : It) (g : TG) (tc : TT) (te : TE) (D : Addr) (σ0 : St) (H0 : Hp) (Z : Hp → Prop) : Prop :=
  ∃ W : Nat → Nat → St → Hp → Prop, (∃ m, W 0 m σ0 (upd H0 D (.lst []))) ∧ ∀ i m σ H, W i m σ H →
    (J.stop i H ∧ Z H) ∨ (J.go i H ∧ ∃ N : St → Hp → Prop, (∀ σ' H', N σ' H' → ∃ m', m' < m ∧ W (i + 1) m' σ' H') ∧ ∀ x H', J.yld i H x H' → g x σ H' fun σ2 H2 => tc σ2 H2 fun b H3 =>
      if b = true then te σ2 H3 fun v H4 => ∃ ys, H4 D = some (.lst ys) ∧ ys.length < sizeLine ∧ N σ2 (upd H4 D (.lst (ys ++ [v]))) else N σ2 H3)
section
variable {X : Cx} {pins : List (Addr × Obj)} {σ : St} {N' own : List Str} {cap : List (Str × Nat)} {scope : Scope} {tg iter elt : Expr} {ifs : List Expr} {pos : Pos} {g : TG} {tc : TT} {te : TE}
theorem comp_core {s2 : Shared} {H2 : Hp} {it : Addr} {fp : List Addr} {tn : Nat → Heap → Prop} {J : It} {cl : List (Str × Addr)} {Z : Addr → Hp → Prop} {RR : Value → Addr → Result → Shared → Prop} {E : Value → Shared → Prop}
    (hx : ∀ e s, X.xe e s → False) (hc : X.calm = true) (S : CompScope X N' own cap scope)
    (hg : ∀ cl C s₀ H₀ ex, PG (compCx X N' scope cl C s₀ H₀ ex) tg g) (ht : ∀ cl C s₀ H₀ ex, PIf (compCx X N' scope cl C s₀ H₀ ex) ifs tc) (he : ∀ cl C s₀ H₀ ex, PE (compCx X N' scope cl C s₀ H₀ ex) elt te)
    (I2 : Inv X pins σ H2 s2) (T : Turn X.prog X.w X.K tg J fp it tn) (st2 : tn 0 s2.heap) (f2 : ∀ b ∈ fp, FpOk X pins H2 b)
    (c1 : ∀ y c, cl.lookup y = some c → X.env.cells.lookup y = some c) (c2 : ∀ y, (y, NameKind.free) ∈ scope.names → ∃ c, cl.lookup y = some c)
    (h : ∀ D, H2 D = none → CompTurns J g tc te D (capSt own cap σ) H2 (Z D))
    (hRR : ∀ D C s' m' H', Inv X pins σ H' s' → s'.heap.Ns C m' → FpOk X pins H' C → Z D H' → RR (.ref D) C (.ok .next) s') :
    wpAny (model X.prog X.w) X.A (newList []) (fun acc s₃ => wpAny (model X.prog X.w) X.A (newFunctionEnv scope X.env.globals cl [] X.env.qual none .none (some X.env)) (fun cenv s₄ =>
      codeAny (model X.prog X.w) X.A (.compStart (.ListComp elt [⟨tg, iter, ifs, 0⟩] scope pos) 0 (.ref it) acc { cenv with scope := relabel scope X.env }) (RR acc cenv.locals) s₄) E s₃) E s2 := by
  have hlt : ∀ b ∈ fp, b < s2.heap.objs.size := fun b hb => by
    obtain ⟨o, e, _⟩ := T.obj _ _ st2 b hb
    exact Heap.lt_size e
  have hD : H2 s2.heap.objs.size = none := I2.hok.fresh (Nat.le_refl _)
  obtain ⟨W, ⟨m0, w0⟩, turn⟩ := h _ hD
  refine wpAny_newObj_type (newEnv_around (fun h₁ hns₁ hk₁ hce₁ => ?_))
  dsimp only at hns₁ hk₁ hce₁ ⊢
  have I3 : Inv X pins σ (upd H2 s2.heap.objs.size (.lst [])) { s2 with heap := s2.heap.push { cls := .type "list", dict := none, data := .seq ([] : List Value).toArray }, toks := s2.toks } :=
    I2.laid (fun b o e => Heap.get?_push_of_some _ e) (Nat.le_refl _) ⟨Nat.zero_le _, [], 0, .nil, Heap.get?_push_size _ rfl⟩
  generalize hs3 : ({ s2 with heap := s2.heap.push { cls := .type "list", dict := none, data := .seq ([] : List Value).toArray }, toks := s2.toks } : Shared) = s3 at I3
  have e3 : s2.heap.push { cls := .type "list", dict := none, data := .seq ([] : List Value).toArray } = s3.heap := by rw [← hs3]
  have hsz : s3.heap.objs.size = s2.heap.objs.size + 1 := by rw [← e3, Heap.size_push]
  rw [e3] at hns₁ hk₁ hce₁ ⊢
  have hk := hk₁
  have hcl : ∀ y c, cl.lookup y = some c → ¬ s3.heap.objs.size < c := fun y c e z => by
    obtain ⟨v, o, ho, _⟩ := I3.cell y c (c1 y c e)
    exact Nat.lt_irrefl _ (Nat.lt_trans z (Heap.lt_size ho))
  have CA : CellsAre X scope s3.heap.objs.size cl (cellsFrom (s3.heap.objs.size + 1) scope.names cl) := cells_are (h := s3.heap.push { cls := .type "dict", data := .dict #[] }) (by rw [Heap.size_push]) S hcl
  have hcell : ∀ y c, (cellsFrom (s3.heap.objs.size + 1) scope.names cl).lookup y = some c → s3.heap.objs.size < c → h₁.IsCell c none := fun y c e z => by
    rw [cells_split, lookup_app] at e
    cases q : (cellsFrom (s3.heap.objs.size + 1) scope.names []).lookup y with
    | none => rw [q] at e; exact absurd z (hcl y c e)
    | some c' =>
      rw [q] at e
      have : c' = c := Option.some.inj e
      subst this
      exact hce₁ y c' (PySem.mem_of_lookup q)
  generalize hcs : cellsFrom (s3.heap.objs.size + 1) scope.names cl = cs at CA hcell ⊢
  have f3 : ∀ b ∈ fp, FpOk X pins (upd H2 s2.heap.objs.size (.lst [])) b := fun b hb => ⟨by rw [upd_ne (Nat.ne_of_lt (hlt b hb))]; exact (f2 b hb).1, (f2 b hb).2⟩
  have hlt3 : ∀ b ∈ fp, b < s3.heap.objs.size := fun b hb => by rw [hsz]; exact Nat.lt_succ_of_lt (hlt b hb)
  have st3 : tn 0 h₁ := T.keep _ _ _ st2 fun b hb o e => hk b o (by rw [← e3]; exact Heap.get?_push_of_some _ e)
  have J0 : Inv (compCx X N' scope cs s3.heap.objs.size s3 (upd H2 s2.heap.objs.size (.lst [])) fp) [] (capSt own cap σ) (upd H2 s2.heap.objs.size (.lst [])) { s3 with heap := h₁, toks := s2.toks } :=
    comp_inv I3 S CA hcell c1 c2 f3 hlt3 hk hns₁
  have stat : ∀ {pl : List (Addr × Obj)} {H' : Hp}, pl = [] → (∀ b ∈ fp, H' b = none) → ∀ b ∈ fp, FpOk (compCx X N' scope cs s3.heap.objs.size s3 (upd H2 s2.heap.objs.size (.lst [])) fp) pl H' b := fun {pl H'} hp hn b hb => by
    subst hp
    refine ⟨hn b hb, Nat.ne_of_lt (hlt3 b hb), J0.ok.exfs b hb, .inl hb, fun x c e => J0.ok.exf b hb |>.2 x c e, fun p hp => absurd hp (by show p ∉ ([] ++ [] : List (Addr × Obj)); simp)⟩
  have noX : ∀ {α : Type} {t : Sem α} {Q : α → Shared → Prop} {s : Shared}, wpAny (model X.prog X.w) X.A t Q X.xe s → wpAny (model X.prog X.w) X.A t Q (fun _ _ => False) s := fun q => wpAny_mono q (fun _ _ z => z) fun e s z => hx e s z
  have loop : codeAny (model X.prog X.w) X.A (.compLoop (.ListComp elt [⟨tg, iter, ifs, 0⟩] scope pos) 0 (.ref it) (.ref s2.heap.objs.size) (compEnvC scope cs s3.heap.objs.size X.env)) (RR (.ref s2.heap.objs.size) s3.heap.objs.size)
      { s3 with heap := h₁, toks := s2.toks } := by
    refine compLoop_any (fun n s' => ∃ i σ' H', Inv (compCx X N' scope cs s3.heap.objs.size s3 (upd H2 s2.heap.objs.size (.lst [])) fp) [] σ' H' s' ∧ tn i s'.heap ∧ (∀ b ∈ fp, H' b = none) ∧ W i n σ' H') ?_ m0
      ⟨0, _, _, J0, st3, fun b hb => (f3 b hb).1, w0⟩
    rintro n s4 ⟨i, σ4, H4, I4, st4, fr4, w4⟩
    rcases turn i n σ4 H4 w4 with ⟨stop, qz⟩ | ⟨go, N, hN, step⟩
    · refine wpAny_mono (T.done (compCx X N' scope cs s3.heap.objs.size s3 (upd H2 s2.heap.objs.size (.lst [])) fp) rfl rfl rfl hc i [] s4 σ4 H4 (fun _ _ => False) I4 (stat rfl fr4) st4 stop) (fun r s5 ⟨hr, I5⟩ => ?_) fun _ _ z => z
      subst hr
      have I6 : Inv X pins σ H4 s5 := I3.call' (ch := fp) I5.os I5.base I5.hok I5.bare fun b hb => ⟨(f3 b hb).2.2.2.1, (f3 b hb).2.1, (f3 b hb).2.2.2.2.1, (f3 b hb).2.2.2.2.2⟩
      obtain ⟨m', hn', _⟩ := I5.loc
      exact hRR _ _ s5 m' H4 I6 hn' (I3.fpOk (Nat.le_refl _) I5.free) qz
    · refine wpAny_mono (T.item (compCx X N' scope cs s3.heap.objs.size s3 (upd H2 s2.heap.objs.size (.lst [])) fp) rfl rfl rfl hc i [] s4 σ4 H4 (fun _ _ => False) I4 (stat rfl fr4) st4 go) (fun r s5 ⟨u, hr, h5⟩ => ?_) fun _ _ z => z
      subst hr
      refine wpAny_mono h5 (fun _ s6 ⟨x, H6, I6, r6, y6, st6, fr6⟩ => ?_) fun _ _ z => z
      have I6' := I6.pinned (stat rfl fr6) (T.obj _ _ st6)
      have again : ∀ {σ7 : St} {H7 : Hp} {s7 : Shared}, Inv (compCx X N' scope cs s3.heap.objs.size s3 (upd H2 s2.heap.objs.size (.lst [])) fp) ([] ++ pinsAt fp s6.heap) σ7 H7 s7 → N σ7 H7 →
          ∃ m, m < n ∧ ∃ i σ' H', Inv (compCx X N' scope cs s3.heap.objs.size s3 (upd H2 s2.heap.objs.size (.lst [])) fp) [] σ' H' s7 ∧ tn i s7.heap ∧ (∀ b ∈ fp, H' b = none) ∧ W i m σ' H' := fun {σ7 H7 s7} I7 n7 => by
        obtain ⟨m', hm, w7⟩ := hN σ7 H7 n7
        refine ⟨m', hm, i + 1, σ7, H7, I7.unpinned, T.keep _ _ _ st6 fun b hb o e => (I7.pin (b, o) (List.mem_append_right _ (List.mem_append_right _ (mem_pinsAt hb e)))).1, fun b hb => ?_, w7⟩
        obtain ⟨o, e, d⟩ := T.obj _ _ st6 b hb
        exact (I7.pin (b, o) (List.mem_append_right _ (List.mem_append_right _ (mem_pinsAt hb e)))).2.1
      refine noX (thn (hg _ _ _ _ _ _ s6 σ4 H6 x u _ I6' r6 (step x H6 y6)) fun _ s7 ⟨σ7, H7, I7, q7⟩ => ?_)
      refine noX (thn (ht _ _ _ _ _ _ s7 σ7 H7 _ I7 q7) fun b s8 ⟨H8, I8, q8⟩ => ?_)
      cases b with
      | false =>
        show ∃ m, _
        exact again I8 q8
      | true =>
        show wpAny _ _ _ _ _ _
        refine noX (thn (he _ _ _ _ _ _ s8 σ7 H8 _ I8 q8) fun y s9 ⟨v, H9, I9, r9, ys, hy, hz, q9⟩ => ?_)
        refine noX (thn (mt_append (X := compCx X N' scope cs s3.heap.objs.size s3 (upd H2 s2.heap.objs.size (.lst [])) fp) _ s9 σ7 H9 (.ref s2.heap.objs.size) [v] (.ref s2.heap.objs.size) [y] (fun _ H' => N σ7 H') I9 rfl (.cons r9 .nil) ⟨_, ys, v, rfl, rfl, hy, hz, q9⟩) fun _ s10 ⟨_, H10, I10, _, q10⟩ => ?_)
        exact again I10 q10
  have lp : codeAny (model X.prog X.w) X.A (.compStart (.ListComp elt [⟨tg, iter, ifs, 0⟩] scope pos) 0 (.ref it) (.ref s2.heap.objs.size) (compEnvC scope cs s3.heap.objs.size X.env)) (RR (.ref s2.heap.objs.size) s3.heap.objs.size)
      { s3 with heap := h₁, toks := s2.toks } := codeAny_compStart_list loop (T.self _ 0 _ _ _ st3 loop)
  subst hs3
  exact lp
end
end L2
set_option Elab.async false
set_option linter.all false
set_option maxRecDepth 100000
namespace L2
open PySem PySem.Spec PyProof.Rows
def tComp (own : List Str) (cap : List (Str × Nat)) (wi : TI) (g : TG) (tc : TT) (te : TE) : TE := fun σ H Q => wi σ H fun J H1 => ∀ D, H1 D = none → CompTurns J g tc te D (capSt own cap σ) H1 (Q (.ref D))
section
variable {X : Cx} {N' own : List Str} {cap : List (Str × Nat)} {scope : Scope} {tg iter elt : Expr} {ifs : List Expr} {pos : Pos} {wi : TI} {g : TG} {tc : TT} {te : TE}
theorem Inv.letgo {pins : List (Addr × Obj)} {σ : St} {H : Hp} {s : Shared} {h' : Heap} {C : Addr} (I : Inv X pins σ H s) (f : FpOk X pins H C) (hs : Heap.SameBut C s.heap h') : Inv X pins σ H { s with heap := h' } :=
  I.turned (t' := s.toks) (it := C) (fun b o hb e => (hs.2 b hb).trans e) f.1 f.2.1 f.2.2.2.1 f.2.2.2.2.1 f.2.2.2.2.2
theorem pe_comp (S : CompScope X N' own cap scope) (hi : PI X tg iter wi)
    (hg : ∀ cl C s₀ H₀ ex, PG (compCx X N' scope cl C s₀ H₀ ex) tg g) (ht : ∀ cl C s₀ H₀ ex, PIf (compCx X N' scope cl C s₀ H₀ ex) ifs tc) (he : ∀ cl C s₀ H₀ ex, PE (compCx X N' scope cl C s₀ H₀ ex) elt te)
    (hx : ∀ e s, X.xe e s → False := by exact fun _ _ z => z) (hc : X.calm = true := by rfl) (hs : ∀ x, foldedSetIterable iter X.env x = pure x := by intro _; rfl) :
    PE X (.ListComp elt [⟨tg, iter, ifs, 0⟩] scope pos) (tComp own cap wi g tc te) := by
  intro pins s σ H Q I h
  rw [eval_ListComp]
  obtain ⟨cl, hcl, c1, c2⟩ := comp_closure (scope := scope) (env := X.env) fun y hy hk => I.ok.has y.1 (S.free y hy hk)
  refine wpAny_comprehension_free (use := none) rfl hs hcl S.kind S.names (thn (hi pins s σ H _ I h) fun v s1 h1 => thn h1 fun itv s2 h2 => ?_)
  obtain ⟨it, fp, tn, J, H2, e, I2, T, st2, f2, q⟩ := h2
  subst e
  refine comp_core (RR := fun acc C => compPost (model X.prog X.w) X.A X.xe none (EP X pins σ Q) acc C) (Z := fun D => Q (.ref D)) hx hc S hg ht he I2 T st2 f2 c1 c2 q ?_
  intro D C s' m' H' I' hn' f' z
  exact ⟨m', hn', fun h'' hs'' => ⟨.ref D, H', I'.letgo f' hs'', rfl, z⟩⟩
end
section
variable {K : PySem.W.Frag} {g : TG} {tc : TT} {te : TE} {D : Addr} {σ0 : St} {H0 : Hp} {Z : Hp → Prop}
end
end L2
set_option Elab.async false
set_option linter.all false
set_option maxRecDepth 100000
namespace L2
open PySem PySem.Spec PyProof.Rows
section
variable {X : Cx} {pins : List (Addr × Obj)} {σ : St} {H : Hp} {s : Shared} {h' : Heap} {ch : List Addr}
end
section
variable {X : Cx}
end
end L2
set_option Elab.async false
set_option linter.all false
set_option maxRecDepth 100000
namespace L2
open PySem PySem.Spec PyProof.Rows
section
variable {X : Cx}
end
end L2
set_option Elab.async false
set_option linter.all false
set_option maxRecDepth 100000
namespace L2
open PySem PySem.Spec PyProof.Rows
def tyNames : List String := ["int", "bool", "str", "NoneType", "list", "tuple", "dict"]
inductive TyN (K : PySem.W.Frag) (H : Hp) : V → String → Prop where
  | non : TyN K H .non "NoneType"
  | bl (x : Bool) : TyN K H (.bl x) "bool"
  | int (i : Int) : TyN K H (.int i) "int"
  | str (x : Str) : TyN K H (.str x) "str"
  | lst {a : Addr} {xs : List V} (e : SqL K H a xs) : TyN K H (.ref a) "list"
  | tup {a : Addr} {xs : List V} (e : SqT K H a xs) : TyN K H (.ref a) "tuple"
  | dK {a : Addr} {kvs : List (Key × V)} (e : H a = some (.dK kvs)) : TyN K H (.ref a) "dict"
theorem TyN.mem {K : PySem.W.Frag} {H : Hp} {x : V} {t : String} (h : TyN K H x t) : t ∈ tyNames := by cases h <;> simp [tyNames]
section
variable {X : Cx}
end
end L2
set_option Elab.async false
set_option linter.all false
set_option maxRecDepth 100000
namespace L2
open PySem PySem.Spec PyProof.Rows
section
variable {X : Cx}
end
mutual
inductive Dp (K : PySem.W.Frag) (H : Hp) : V → PyData → Prop where
  | non : Dp K H .non .none
  | bl (b : Bool) : Dp K H (.bl b) (.bool b)
  | int (i : Int) : Dp K H (.int i) (.int i)
  | str (x : Str) : Dp K H (.str x) (.str x)
  | lst {a : Addr} {xs : List V} {ds : List PyData} : SqL K H a xs → Dps K H xs ds → Dp K H (.ref a) (.list ds)
  | tup {a : Addr} {xs : List V} {ds : List PyData} : SqT K H a xs → Dps K H xs ds → Dp K H (.ref a) (.tuple ds)
inductive Dps (K : PySem.W.Frag) (H : Hp) : List V → List PyData → Prop where
  | nil : Dps K H [] []
  | cons {x : V} {d : PyData} {xs : List V} {ds : List PyData} : Dp K H x d → Dps K H xs ds → Dps K H (x :: xs) (d :: ds)
end
section
variable {X : Cx} {pins : List (Addr × Obj)} {σ : St} {H : Hp} {s : Shared}
mutual
theorem Dp.reads (I : Inv X pins σ H s) : ∀ {v : V} {d : PyData} {u : Value}, Dp X.K H v d → RelV v u → ∃ as, Reads s.heap u d as
  | _, _, _, .non, r => by cases (show _ = Value.none from r); exact ⟨_, .none⟩
  | _, _, _, .bl b, r => by cases (show _ = Value.bool b from r); exact ⟨_, .bool b⟩
  | _, _, _, .int i, r => by obtain ⟨t, rfl⟩ := r; exact ⟨_, .int i t⟩
  | _, _, _, .str x, r => by obtain ⟨t, rfl⟩ := r; exact ⟨_, .str x t⟩
  | _, _, _, .lst (a := a) h hs, r => by
    cases (show _ = Value.ref a from r)
    obtain ⟨its, rv, ⟨o, n, h1, h2, _, h4⟩, _⟩ := I.list h
    obtain ⟨as, hr⟩ := Dps.reads I hs rv
    exact ⟨_, .list h1 h2 h4 (by simpa using hr)⟩
  | _, _, _, .tup (a := a) h hs, r => by
    cases (show _ = Value.ref a from r)
    obtain ⟨its, rv, ⟨o, h1, h2, n, h4⟩, _⟩ := I.tuple h
    obtain ⟨as, hr⟩ := Dps.reads I hs rv
    exact ⟨_, .tuple h1 h2 h4 (by simpa using hr)⟩
theorem Dps.reads (I : Inv X pins σ H s) : ∀ {vs : List V} {ds : List PyData} {us : List Value}, Dps X.K H vs ds → Vals vs us → ∃ as, ReadsAll s.heap us ds as
  | _, _, _, .nil, r => by cases r; exact ⟨_, .nil⟩
  | _, _, _, .cons h hs, r => by
    cases r with
    | cons r1 r2 =>
      obtain ⟨as, h1⟩ := Dp.reads I h r1
      obtain ⟨bs, h2⟩ := Dps.reads I hs r2
      exact ⟨_, .cons h1 h2⟩
end
theorem op_eqD (hu : X.A.units + 64 < cLine) : OpR X (compareOp .Eq) (fun x y H Q => ∃ d e, Dp X.K H x d ∧ Dp X.K H y e ∧ (d.canLay0 && e.canLay0 && decide (d.depth ≤ 64)) = true ∧ Q (.bl (PyData.eqv d e)) H) := by
  intro pins s σ H x y v u Q I rx ry h
  obtain ⟨d, e, hd, he, hc, q⟩ := h
  simp only [Bool.and_eq_true, decide_eq_true_eq] at hc
  obtain ⟨as, r1⟩ := hd.reads I rx
  obtain ⟨bs, r2⟩ := he.reads I ry
  exact SeqAt.compareEq_reads r1 r2 hc.1.1 hc.1.2 (by omega) ⟨.bl _, H, I, rfl, q⟩
theorem op_neD (hu : X.A.units + 64 < cLine) : OpR X (compareOp .NotEq) (fun x y H Q => ∃ d e, Dp X.K H x d ∧ Dp X.K H y e ∧ (d.canLay0 && e.canLay0 && decide (d.depth ≤ 64)) = true ∧ Q (.bl (!PyData.eqv d e)) H) := by
  intro pins s σ H x y v u Q I rx ry h
  obtain ⟨d, e, hd, he, hc, q⟩ := h
  simp only [Bool.and_eq_true, decide_eq_true_eq] at hc
  obtain ⟨as, r1⟩ := hd.reads I rx
  obtain ⟨bs, r2⟩ := he.reads I ry
  exact SeqAt.compareNe_reads r1 r2 hc.1.1 hc.1.2 (by omega) ⟨.bl _, H, I, rfl, q⟩
end
section
variable {X : Cx}
end
end L2
set_option Elab.async false
set_option linter.all false
set_option maxRecDepth 100000
namespace L2
open PySem PySem.Spec PyProof.Rows
def Df (P : Program) (w : World) (K : PySem.W.Frag) (mg : Str → Option Value) (base : Heap) (k : Nat) (x : Str) (ps : List Str) (sp : Sp) : Prop :=
  ∃ f fd, FnOk P w K mg base CX0 k f fd ps sp ∧ Binds K fd ps [] ∧ PySem.W.keepIn K (.ref f) = true ∧ mg x = some (.ref f)
section
variable {P : Program} {w : World} {K : PySem.W.Frag} {mg : Str → Option Value} {base : Heap} {j k : Nat} {x : Str} {ps : List Str} {sp sp' : Sp}
theorem Df.mono (D : Df P w K mg base j x ps sp) (h : j ≤ k) : Df P w K mg base k x ps sp := let ⟨f, fd, F, r⟩ := D; ⟨f, fd, F.mono h, r⟩
theorem Df.imp (D : Df P w K mg base k x ps sp) (h : ∀ vs H Q E, sp' vs H Q E → sp vs H Q E) : Df P w K mg base k x ps sp' := let ⟨f, fd, F, r⟩ := D; ⟨f, fd, F.imp h, r⟩
end
section
variable {X : Cx} {k : Nat} {x : Str} {ps : List Str} {sp : Sp} {e : Expr} {es : List Expr} {t : TA} {p pos : Pos}
theorem pe_df (D : Df X.prog X.w X.K X.mg X.base k x ps sp) (hr : Room k X.A) (ha : PA X (e :: es) t) (hg : Gl X x := by rfl) (hdb : (x == ("__debug__" : Str)) = false := by decide)
    (he : starEach (e :: es) X.env = (false, eval e X.env) :: starEach es X.env := by rfl) (hpl : (backTo pos (starEach es X.env)).any (·.1) = false := by rfl) :
    PE X (.Call (.Name x p) (e :: es) [] pos) (fun σ H Q => t σ H fun vs H1 => sp vs H1 Q E0) := by
  obtain ⟨f, fd, F, hb, hk, hm⟩ := D
  intro pins s σ H Q I h
  exact pe_call F hr hg hm hk hb .nil pass0 ha hdb he hpl pins s σ H Q I (by unfold tCall; simpa using h)
end
section
variable {X : Cx}
end
def But (p : Addr) (H H' : Hp) : Prop := ∀ b o, b ≠ p → H b = some o → H' b = some o
section
variable {p : Addr} {H H' H'' : Hp}
theorem But.refl : But p H H := fun _ _ _ h => h
theorem But.trans (h : But p H H') (g : But p H' H'') : But p H H'' := fun b o n e => g b o n (h b o n e)
theorem But.upd {o : HO} (h : But p H H') : But p H (L2.upd H' p o) := fun b u n e => by rw [upd_ne n]; exact h b u n e
theorem But.lay {q : Addr} {o : HO} (h : But p H H') (hq : H q = none) : But p H (L2.upd H' q o) := fun b u n e => by rw [upd_ne (ne_of_none e hq)]; exact h b u n e
theorem Same.but (h : Same H H') : But p H H' := fun b o _ e => h b o e
end
theorem le_line {n : Nat} (h : n ≤ 1000000) : n ≤ sizeLine := by rw [sizeLine_eq]; omega
theorem lt_line {n : Nat} (h : n ≤ 1000000) : n < sizeLine := by rw [sizeLine_eq]; omega
def compOk (N : List Str) (names : List (Str × NameKind)) (own : List Str) (cap : List (Str × Nat)) (scope : Scope) : Bool :=
  (scope.kind == .function) && scope.names.all (fun y => (y.2 != .cell || scope.names.lookup y.1 == some .cell) && (y.2 != .local || scope.names.lookup y.1 == some .local) && (y.2 != .free || scope.names.lookup y.1 == some .free) && (y.2 != .free || (names.lookup y.1 == some .cell || names.lookup y.1 == some .free)))
  && cap.all fun p => N[p.2]? == some p.1 && scope.names.lookup p.1 == some .free && (names.lookup p.1 == some .cell || names.lookup p.1 == some .free)
theorem cscope {X : Cx} {own : List Str} {cap : List (Str × Nat)} {scope : Scope} (h : compOk X.N X.env.scope.names own cap scope = true) : CompScope X (own ++ cap.map (·.1)) own cap scope := by
  unfold compOk at h
  simp only [Bool.and_eq_true, List.all_eq_true, Bool.or_eq_true, bne_iff_ne, beq_iff_eq] at h
  obtain ⟨⟨h1, h2⟩, h3⟩ := h
  exact ⟨h1, fun y hy hl => (h2 y hy).1.1.1.resolve_left fun z => z hl, fun y hy hl => (h2 y hy).1.2.resolve_left fun z => z hl, fun y hy hl => (h2 y hy).1.1.2.resolve_left fun z => z hl, fun y hy hl => (h2 y hy).2.resolve_left fun z => z hl, rfl, fun p hp => ⟨(h3 p hp).1.1, (h3 p hp).1.2, (h3 p hp).2⟩⟩
section
variable {X : Cx} {a b e o : Expr} {es : List Expr} {ta tb te to : TE} {t : TA} {p pos : Pos}
theorem eLen (K : PySem.W.Frag) (ml : X.mg "len" = none) (ha : PE X a ta) (hg : Gl X "len" := by rfl) (hs : starEach [a] X.env = [(false, eval a X.env)] := by rfl) (hK : X.K = K := by rfl) :
    PE X (.Call (.Name "len" p) [a] [] pos) (fun σ H Q => ta σ H fun x H1 => ∃ p ys, [x] = [V.ref p] ∧ (SqL K H1 p ys ∨ SqT K H1 p ys) ∧ Q (.int ys.length) H1) := by
  subst hK
  exact pe_callB call_len_seq hg ml PySem.boot_len (pa_cons ha pa_nil hs) (he := hs)
theorem eList (K : PySem.W.Frag) (ml : X.mg "list" = none) (ha : PE X a ta) (hg : Gl X "list" := by rfl) (hs : starEach [a] X.env = [(false, eval a X.env)] := by rfl) (hK : X.K = K := by rfl) :
    PE X (.Call (.Name "list" p) [a] [] pos) (fun σ H Q => ta σ H fun x H1 => ∃ p ys, [x] = [V.ref p] ∧ (SqL K H1 p ys ∨ SqT K H1 p ys) ∧ ∀ l, H1 l = none → Q (.ref l) (upd H1 l (.lst ys))) := by
  subst hK
  exact pe_callTy call_list_of hg ml rfl (pa_cons ha pa_nil hs) (he := hs)
theorem iL (K : PySem.W.Frag) {tg : Expr} (ha : PE X a ta) (hK : X.K = K := by rfl) : PI X tg a (iList K ta) := by subst hK; exact pi_list ha
theorem iR (mr : X.mg "range" = none) {tg : Expr} (ha : PE X a ta) (hg : Gl X "range" := by rfl) (hs : starEach [a] X.env = [(false, eval a X.env)] := by rfl) : PI X tg (.Call (.Name "range" p) [a] [] pos) (iRng1 (tCons ta tNil)) := pi_range1 hg mr (pa_cons ha pa_nil hs) hs
theorem eApp (K : PySem.W.Frag) {apos : Pos} (ho : PE X o to) (ha : PE X a ta) (hs : starEach [a] X.env = [(false, eval a X.env)] := by rfl)
    (hbase : attributeBase o "append" X.env (eval o X.env) = eval o X.env := by rfl) (hline : (apos.endLine == pos.line) = true := by rfl) (hK : X.K = K := by rfl)
    (hfew : ((backTo pos (starEach [a] X.env)).all (fun x => !x.1) && (backToKw pos (keywordEach [] X.env)).all (fun x => x.1.isSome)
      && decide ([a].length + ([] : List Keyword).length + (if ([] : List Keyword).isEmpty then 0 else 1) < 30)) = true := by rfl) :
    PE X (.Call (.Attribute o "append" apos) [a] [] pos) (tBM K "list" rAppend to (tCons ta tNil)) := by
  subst hK
  exact pe_bm PySem.F.plainAttrs_list PySem.F.slot_list_append PySem.F.type_list_append mt_append ho (pa_cons ha pa_nil hs) hbase hfew hline hs
end
end L2
set_option Elab.async false
set_option linter.all false
set_option maxRecDepth 100000
namespace L2
open PySem PySem.Spec PyProof.Rows
def Pot (H : Hp) (p : Addr) : Prop := ∃ a b c : Int, H p = some (.lst [.int a, .int b, .int c])
structure Took (p : Addr) (H H' : Hp) : Prop where
  eq : ∀ b, b ≠ p → H' b = H b
  pot : Pot H' p
structure Drawn (p : Addr) (H H' : Hp) : Prop where
  but : But p H H'
  pot : Pot H' p
section
variable {p q : Addr} {H H' H'' : Hp}
theorem Pot.ne (h : Pot H p) (hq : H q = none) : p ≠ q := let ⟨_, _, _, e⟩ := h; ne_of_none e hq
theorem Pot.some (h : Pot H p) : H p ≠ none := let ⟨_, _, _, e⟩ := h; by rw [e]; simp
theorem Drawn.refl (h : Pot H p) : Drawn p H H := ⟨.refl, h⟩
theorem Drawn.trans (h : Drawn p H H') (g : Drawn p H' H'') : Drawn p H H'' := ⟨h.but.trans g.but, g.pot⟩
theorem Drawn.took (h : Drawn p H H') (t : Took p H' H'') : Drawn p H H'' := ⟨fun b o n e => by rw [t.eq b n]; exact h.but b o n e, t.pot⟩
theorem Took.keep {o : HO} (t : Took p H H') (n : q ≠ p) (h : H q = .some o) : H' q = .some o := by rw [t.eq q n]; exact h
theorem Took.free (t : Took p H H') (h : H' q = none) : H q = none := by
  by_cases n : q = p
  · subst n; exact absurd h t.pot.some
  · rw [← t.eq q n]; exact h
theorem Drawn.free (h : Drawn p H H') (hq : H' q = none) : H q = none := by
  cases e : H q with
  | none => rfl
  | some o =>
    by_cases n : q = p
    · subst n; exact absurd hq h.pot.some
    · rw [h.but q o n e] at hq; cases hq
theorem Drawn.ne (h : Drawn p H H') (hp : Pot H p) (hq : H q = none) : q ≠ p := fun e => hp.ne hq e.symm
theorem Drawn.lay {o : HO} (h : Drawn p H H') (hq : H q = none) (hp : Pot H p) : Drawn p H (upd H' q o) :=
  ⟨h.but.lay hq, let ⟨a, b, c, e⟩ := h.pot; ⟨a, b, c, by rw [upd_ne (hp.ne hq)]; exact e⟩⟩
theorem Drawn.keep {o : HO} (h : Drawn p H H') (e : H q = .some o) (n : q ≠ p) : H' q = .some o := h.but q o n e
end
theorem at_get {xs : List V} {r : Int} (h0 : 0 ≤ r) (h1 : r < (xs.length : Int)) : atI xs r = some (xs[r.toNat]'(by omega)) := by
  have hk : r.toNat < xs.length := by omega
  have := atI_nat (xs := xs) (j := r.toNat) (v := xs[r.toNat]) (by simp [hk])
  have er : ((r.toNat : Nat) : Int) = r := by omega
  rw [er] at this
  exact this
section
variable {X : Cx} {a : Expr} {ta : TE} {p pos : Pos}
theorem gT (K : PySem.W.Frag) {es : List Expr} {k : Nat} {t : TGs} {n : Nat} (h : PGs X es t) (hc : X.calm = true := by rfl) (hn : (assignEach es X.env).length = n := by rfl) (hst : (assignEach es X.env).findIdx? (·.1) = none := by rfl) (hK : X.K = K := by rfl) :
    PG X (.Tuple es k pos) (gTup K n t) := by subst hK; exact pg_tup hc h hn hst
end
section
variable {K : PySem.W.Frag} {g : TG} {te : TE} {D : Addr} {σ0 : St} {H0 : Hp} {Z : Hp → Prop}
end
def AllI (xs : List V) : Prop := ∀ x ∈ xs, ∃ i, x = V.int i
theorem AllI.nil : AllI [] := fun _ h => by simp at h
theorem AllI.snoc {xs : List V} {i : Int} (h : AllI xs) : AllI (xs ++ [.int i]) := fun x hx => by
  rcases List.mem_append.mp hx with z | z
  · exact h x z
  · exact ⟨i, by simpa using z⟩
theorem AllI.rep {xs : List V} {k : Nat} (h : AllI xs) : AllI (List.replicate k xs).flatten := fun x hx => by
  obtain ⟨l, hl, hx⟩ := List.mem_flatten.mp hx
  rw [List.eq_of_mem_replicate hl] at hx
  exact h x hx
theorem pick {xs : List V} {Pd : V → Prop} {r : Int} (h : ∀ x ∈ xs, Pd x) (h0 : 0 ≤ r) (h1 : r < (xs.length : Int)) : ∃ v, atI xs r = some v ∧ Pd v :=
  ⟨_, at_get h0 h1, h _ (List.getElem_mem _)⟩
structure Laid (q : Addr) (o : HO) (H H' : Hp) : Prop where
  was : H q = none
  eq : ∀ b, b ≠ q → H' b = H b
  new : H' q = some o
theorem Laid.of {q : Addr} {o : HO} {H H' : Hp} (h : H q = none) (e : upd H q o = H') : Laid q o H H' := ⟨h, fun b n => by rw [← e, upd_ne n], by rw [← e, upd_same]⟩
theorem Laid.keep {q b : Addr} {o u : HO} {H H' : Hp} (l : Laid q o H H') (h : H b = some u) : H' b = some u := by rw [l.eq b (ne_of_none h l.was)]; exact h
theorem Laid.same {q : Addr} {o : HO} {H H' : Hp} (l : Laid q o H H') : Same H H' := fun _ _ h => l.keep h
theorem Laid.ne {q b : Addr} {o u : HO} {H H' : Hp} (l : Laid q o H H') (h : H b = some u) : b ≠ q := ne_of_none h l.was
theorem Laid.drawn {p q : Addr} {o : HO} {H H' H'' : Hp} (l : Laid q o H' H'') (h : Drawn p H H') : Drawn p H H'' := by
  obtain ⟨a, b, c, e⟩ := h.pot
  exact ⟨fun b u n z => l.keep (h.but b u n z), a, b, c, l.keep e⟩
end L2
set_option Elab.async false
set_option linter.all false
set_option maxRecDepth 100000
namespace L2
open PySem PySem.Spec PyProof.Rows
section
variable {X : Cx} {a b o : Expr} {ta tb to : TE} {p pos : Pos}
end
abbrev Cel := Int × List Int × Addr
def gs (cs : List Cel) : List (Int × List Int) := cs.map fun c => (c.1, c.2.1)
structure CAt (H : Hp) (cs : List Cel) : Prop where
  nd : (cs.map fun c => c.2.2).Nodup
  at_ : ∀ c ∈ cs, H c.2.2 = some (.lst (c.2.1.map V.int))
theorem CAt.nil {H : Hp} : CAt H [] := ⟨by simp, fun _ h => by simp at h⟩
theorem CAt.same {H H' : Hp} {cs : List Cel} (h : CAt H cs) (s : ∀ c ∈ cs, ∀ o, H c.2.2 = some o → H' c.2.2 = some o) : CAt H' cs := ⟨h.nd, fun c hc => s c hc _ (h.at_ c hc)⟩
theorem CAt.old {H : Hp} {k : Int} {ts ts' : List Int} {a : Addr} {l r : List Cel} (h : CAt H (l ++ (k, ts, a) :: r)) : CAt (upd H a (.lst (ts'.map V.int))) (l ++ (k, ts', a) :: r) := by
  have nd := h.nd
  simp only [List.map_append, List.map_cons] at nd
  refine ⟨by simpa only [List.map_append, List.map_cons] using nd, fun c hc => ?_⟩
  rw [List.nodup_append] at nd
  obtain ⟨n1, n2, n3⟩ := nd
  rw [List.nodup_cons] at n2
  rcases List.mem_append.mp hc with z | z
  · have ne : c.2.2 ≠ a := n3 _ (List.mem_map_of_mem z) a List.mem_cons_self
    rw [upd_ne ne]
    exact h.at_ c (List.mem_append_left _ z)
  · rcases List.mem_cons.mp z with rfl | z
    · exact upd_same
    · have ne : c.2.2 ≠ a := fun e => n2.1 (by rw [← e]; exact List.mem_map_of_mem z)
      rw [upd_ne ne]
      exact h.at_ c (List.mem_append_right _ (List.mem_cons_of_mem _ z))
theorem CAt.snoc {H : Hp} {k : Int} {ts : List Int} {q : Addr} {cs : List Cel} (h : CAt H cs) (hn : ∀ c ∈ cs, c.2.2 ≠ q) (hq : H q = some (.lst (ts.map V.int))) : CAt H (cs ++ [(k, ts, q)]) := by
  refine ⟨?_, fun c hc => ?_⟩
  · rw [List.map_append, List.nodup_append]
    refine ⟨h.nd, by simp, fun x hx y hy => ?_⟩
    obtain ⟨c, hc, rfl⟩ := List.mem_map.mp hx
    have : y = q := by simpa using hy
    rw [this]
    exact hn c hc
  · rcases List.mem_append.mp hc with z | z
    · exact h.at_ c z
    · have : c = (k, ts, q) := by simpa using z
      rw [this]; exact hq
end L2
namespace L2
open PySem PySem.Spec PyProof.Rows
end L2
namespace L2
open PySem PySem.Spec PyProof.Rows
section
variable {K : PySem.W.Frag} {H H' : Hp}
theorem Same.rd (g : Same H H') {a : Addr} {o : HO} (h : Rd H a o) : Rd H' a o := by
  rcases h with h | ⟨ob, h⟩
  · exact .inl (g _ _ h)
  · exact .inr ⟨ob, g _ _ h⟩
theorem Same.tp (g : Same H H') {a : Addr} {xs : List V} (h : SqT K H a xs) : SqT K H' a xs := by
  rcases h with h | h
  · exact .inl (g.rd h)
  · exact .inr h
mutual
theorem Dp.same (g : Same H H') : ∀ {v : V} {d : PyData}, Dp K H v d → Dp K H' v d
  | _, _, .non => .non
  | _, _, .bl b => .bl b
  | _, _, .int i => .int i
  | _, _, .str x => .str x
  | _, _, .lst h hs => .lst (g.seq h) (Dps.same g hs)
  | _, _, .tup h hs => .tup (g.tp h) (Dps.same g hs)
theorem Dps.same (g : Same H H') : ∀ {vs : List V} {ds : List PyData}, Dps K H vs ds → Dps K H' vs ds
  | _, _, .nil => .nil
  | _, _, .cons h hs => .cons (Dp.same g h) (Dps.same g hs)
end
theorem Dps.len : ∀ {vs : List V} {ds : List PyData}, Dps K H vs ds → vs.length = ds.length
  | _, _, .nil => rfl
  | _, _, .cons _ hs => congrArg (· + 1) (Dps.len hs)
theorem Dps.get : ∀ {vs : List V} {ds : List PyData} {i : Nat} {v : V}, Dps K H vs ds → vs[i]? = some v → ∃ d, ds[i]? = some d ∧ Dp K H v d
  | _, _, _, _, .nil, h => by simp at h
  | _, _, 0, _, .cons (d := d) h hs, e => by
    have : _ = _ := Option.some.inj e
    subst this
    exact ⟨d, rfl, h⟩
  | _, _, i + 1, _, .cons h hs, e => Dps.get (i := i) hs e
end
mutual
def li : PyData → Bool
  | .int _ => true
  | .list ds => liAll ds
  | _ => false
def liAll : List PyData → Bool
  | [] => true
  | d :: r => li d && liAll r
end
end L2
set_option Elab.async false
set_option linter.all false
set_option maxRecDepth 100000
namespace L2
open PySem PySem.Spec PyProof.Rows
section
variable {X : Cx} {a b : Expr} {ta tb : TE} {p pos : Pos}
end
end L2
set_option Elab.async false
set_option linter.all false
set_option maxRecDepth 100000
namespace L2
open PySem PySem.Spec PyProof.Rows
def IsMax (M : Int) (l : List Int) : Prop := M ∈ l ∧ ∀ a ∈ l, a ≤ M
theorem IsMax.step {M x : Int} {l : List Int} (h : IsMax M l) : IsMax (if x > M then x else M) (l ++ [x]) := by
  obtain ⟨h1, h2⟩ := h
  refine ⟨?_, fun a ha => ?_⟩
  · split
    · simp
    · exact List.mem_append_left _ h1
  · rcases List.mem_append.mp ha with z | z
    · have := h2 a z
      split <;> omega
    · have : a = x := by simpa using z
      subst this
      split <;> omega
theorem ints_get : ∀ {vs : List Value} {ns : List Int} {j : Nat} {v : Value}, IntsAre vs ns → vs[j]? = some v → ∃ t, v = .int (ns.getD j 0) t
  | _, _, _, _, .nil, h => by simp at h
  | _, _, 0, _, .cons n t _, h => ⟨t, (Option.some.inj h).symm⟩
  | _, _, j + 1, _, .cons n t r, h => by
    obtain ⟨t', e⟩ := ints_get (j := j) r h
    exact ⟨t', by simpa using e⟩
section
variable {prog : Program} {w : World} {A : Around} {R : Result → Shared → Prop} {I l : Addr} {items : Array Value} {ns : List Int} {d : Value}
end
section
variable {X : Cx} {a b : Expr} {ta tb : TE} {p pos kp : Pos}
end
end L2
set_option Elab.async false
set_option linter.all false
set_option maxRecDepth 100000
namespace L2
open PySem PySem.Spec PyProof.Rows
theorem CAt.sub {H : Hp} {cs ds : List Cel} (h : CAt H cs) (hs : ds.Sublist cs) : CAt H ds := ⟨h.nd.sublist (hs.map _), fun c hc => h.at_ c (hs.subset hc)⟩
end L2
set_option Elab.async false
set_option linter.all false
set_option maxRecDepth 100000
namespace L2
open PySem PySem.Spec PyProof.Rows
section
variable {X : Cx} {a b e o : Expr} {ta tb te to : TE} {p pos : Pos}
theorem tIn (K : PySem.W.Frag) (ha : PE X a ta) (hb : PE X b tb) (hm : behindInMarks .In b = false := by rfl) (hK : X.K = K := by rfl) : PT X (.Compare a [.In] [b] pos) (tTest (tOp (rIn K false) ta tb)) := by
  subst hK; exact pt_cmpR op_in_seq ha hb hm
end
abbrev Ask := Nat × Nat × Bool
abbrev ACel := Ask × Addr
def askT (a : Ask) : List V := [.int (a.1 : Int), .int (a.2.1 : Int), .bl a.2.2]
def dAsk (a : Ask) : PyData := .tuple [.int (a.1 : Int), .int (a.2.1 : Int), .bool a.2.2]
def arefs (cs : List ACel) : List V := cs.map fun c => V.ref c.2
def asksOf (cs : List ACel) : List Ask := cs.map (·.1)
def AAt (H : Hp) (cs : List ACel) : Prop := ∀ c ∈ cs, H c.2 = some (.tup (askT c.1))
def TupS (H H' : Hp) : Prop := ∀ p xs, H p = some (.tup xs) → H' p = some (.tup xs)
theorem TupS.refl {H : Hp} : TupS H H := fun _ _ h => h
theorem TupS.trans {H H' H'' : Hp} (a : TupS H H') (b : TupS H' H'') : TupS H H'' := fun p xs h => b p xs (a p xs h)
theorem Same.tups {H H' : Hp} (h : Same H H') : TupS H H' := fun p xs e => h p _ e
theorem TupS.upd {H : Hp} {l : Addr} {xs : List V} {o : HO} (h : H l = some (.lst xs)) : TupS H (L2.upd H l o) := fun p ys e => by rw [upd_ne (ne_of e h (by intro z; cases z))]; exact e
theorem AAt.to {H H' : Hp} {cs : List ACel} (h : AAt H cs) (t : TupS H H') : AAt H' cs := fun c hc => t _ _ (h c hc)
theorem AAt.snoc {H : Hp} {cs : List ACel} {a : Ask} {q : Addr} (h : AAt H cs) (hq : H q = some (.tup (askT a))) : AAt H (cs ++ [(a, q)]) := fun c hc => by
  rcases List.mem_append.mp hc with z | z
  · exact h c z
  · have : c = (a, q) := by simpa using z
    rw [this]; exact hq
theorem AAt.nil {H : Hp} : AAt H [] := fun _ h => by simp at h
theorem dp_ask {K : PySem.W.Frag} {H : Hp} {p : Addr} {a : Ask} (h : H p = some (.tup (askT a))) : Dp K H (.ref p) (dAsk a) := .tup (SqT.of h) (.cons (.int _) (.cons (.int _) (.cons (.bl _) .nil)))
theorem dps_asks {K : PySem.W.Frag} {H : Hp} : ∀ {cs : List ACel}, AAt H cs → Dps K H (arefs cs) ((asksOf cs).map dAsk)
  | [], _ => .nil
  | c :: r, h => .cons (dp_ask (h c List.mem_cons_self)) (dps_asks fun c hc => h c (List.mem_cons_of_mem _ hc))
theorem arefs_at {cs : List ACel} {i : Nat} {x : V} (h : (arefs cs)[i]? = some x) : ∃ c, cs[i]? = some c ∧ x = .ref c.2 := by
  unfold arefs at h
  rw [List.getElem?_map] at h
  cases e : cs[i]? with
  | none => rw [e] at h; cases h
  | some c => rw [e] at h; exact ⟨c, rfl, (Option.some.inj h).symm⟩
end L2
set_option Elab.async false
set_option linter.all false
set_option maxRecDepth 100000
namespace L2
open PySem PySem.Spec PyProof.Rows
def same2 (ks : List Int) (i j : Nat) : Bool := decide (ks.getD i 0 = ks.getD j 0)
def foundT : Option Nat → List V
  | none => [.str "none"]
  | some t => [.str "one", .int (t : Int)]
def dFound : Option Nat → PyData
  | none => .tuple [.str "none"]
  | some t => .tuple [.str "one", .int (t : Int)]
structure ToldAt (H : Hp) (r a f : Addr) (cs : List ACel) (fo : Option Nat) : Prop where
  tup : H r = some (.tup [.ref a, .ref f])
  lst : H a = some (.lst (arefs cs))
  asks : AAt H cs
  found : H f = some (.tup (foundT fo))
theorem ToldAt.same {H H' : Hp} {r a f : Addr} {cs : List ACel} {fo : Option Nat} (h : ToldAt H r a f cs fo) (s : Same H H') : ToldAt H' r a f cs fo := ⟨s _ _ h.tup, s _ _ h.lst, h.asks.to s.tups, s _ _ h.found⟩
theorem ToldAt.dp {K : PySem.W.Frag} {H : Hp} {r a f : Addr} {cs : List ACel} {fo : Option Nat} (h : ToldAt H r a f cs fo) : Dp K H (.ref r) (.tuple [.list ((asksOf cs).map dAsk), dFound fo]) := by
  refine .tup (SqT.of h.tup) (.cons (.lst (SqL.of h.lst) (dps_asks h.asks)) (.cons ?_ .nil))
  have hf := h.found
  cases fo with
  | none => exact .tup (SqT.of hf) (.cons (.str _) .nil)
  | some t => exact .tup (SqT.of hf) (.cons (.str _) (.cons (.int _) .nil))
end L2
namespace L2
open PySem PySem.Spec PyProof.Rows
def natV (ns : List Nat) : List V := ns.map fun (n : Nat) => V.int (n : Int)
theorem natV_snoc (ns : List Nat) (n : Nat) : natV (ns ++ [n]) = natV ns ++ [.int (n : Int)] := by simp [natV]
end L2
set_option Elab.async false
set_option linter.all false
set_option maxRecDepth 100000
namespace L2
open PySem PySem.Spec PyProof.Rows
section
variable {X : Cx} {pos : Pos}
end
def laid (ks : List Int) : Nat → List Ask × List Nat × List Nat
  | 0 => ([], [], [])
  | n + 1 => match (laid ks n).2.1 with
    | [] => ((laid ks n).1, [n], (laid ks n).2.2)
    | t :: r => if same2 ks t n then ((laid ks n).1 ++ [(t, n, true)], t :: r, n :: (laid ks n).2.2)
      else ((laid ks n).1 ++ [(t, n, false)], (laid ks n).2.2.take 1 ++ [n] ++ (t :: r), (laid ks n).2.2.drop 1)
def back (ks : List Int) (t : Nat) : List Nat → Nat → List Ask → List Ask × Option Nat
  | [], left, a => (a, if 0 < left then some t else none)
  | [x], left, a => if same2 ks x t then ((if x = t then a else a ++ [(t, x, same2 ks x t)]), some t)
    else if left = 0 then ((if x = t then a else a ++ [(t, x, same2 ks x t)]), none)
    else ((if x = t then a else a ++ [(t, x, same2 ks x t)]), if 0 < left - 1 then some t else none)
  | x :: y :: r, left, a => if same2 ks x t then back ks t r left (if x = t then a else a ++ [(t, x, same2 ks x t)])
    else if left = 0 then ((if x = t then a else a ++ [(t, x, same2 ks x t)]), none)
    else back ks t (y :: r) (left - 1) (if x = t then a else a ++ [(t, x, same2 ks x t)])
def dNat (ns : List Nat) : PyData := .list (ns.map fun (n : Nat) => PyData.int (n : Int))
theorem dps_nat {K : PySem.W.Frag} {H : Hp} : ∀ ns : List Nat, Dps K H (natV ns) (ns.map fun (n : Nat) => PyData.int (n : Int))
  | [] => .nil
  | n :: r => .cons (.int _) (dps_nat r)
end L2
set_option Elab.async false
set_option linter.all false
set_option maxRecDepth 100000
namespace L2
open PySem PySem.Spec PyProof.Rows
def Hnd (n : Nat) (H : Hp) (p : Addr) : Prop := ∃ ns : List Int, ns.length = n ∧ H p = some (.lst (ns.map V.int))
structure TookN (n : Nat) (p : Addr) (H H' : Hp) : Prop where
  eq : ∀ b, b ≠ p → H' b = H b
  hnd : Hnd n H' p
structure DrawnN (n : Nat) (p : Addr) (H H' : Hp) : Prop where
  but : But p H H'
  hnd : Hnd n H' p
section
variable {n : Nat} {p q : Addr} {H H' H'' : Hp}
theorem Hnd.some (h : Hnd n H p) : H p ≠ none := let ⟨_, _, e⟩ := h; by rw [e]; simp
theorem Hnd.ne (h : Hnd n H p) (hq : H q = none) : p ≠ q := let ⟨_, _, e⟩ := h; ne_of_none e hq
theorem TookN.keep {o : HO} (t : TookN n p H H') (e : H q = .some o) (h : q ≠ p) : H' q = .some o := by rw [t.eq q h]; exact e
theorem TookN.tups (t : TookN n p H H') (h : Hnd n H p) : TupS H H' := fun b xs e => by
  obtain ⟨_, _, e'⟩ := h
  rw [t.eq b (ne_of e e' (by intro z; cases z))]; exact e
theorem DrawnN.refl (h : Hnd n H p) : DrawnN n p H H := ⟨.refl, h⟩
theorem DrawnN.trans (h : DrawnN n p H H') (g : DrawnN n p H' H'') : DrawnN n p H H'' := ⟨h.but.trans g.but, g.hnd⟩
theorem DrawnN.took (h : DrawnN n p H H') (t : TookN n p H' H'') : DrawnN n p H H'' := ⟨fun b o z e => by rw [t.eq b z]; exact h.but b o z e, t.hnd⟩
theorem TookN.drawn (t : TookN n p H H') (h : Hnd n H p) : DrawnN n p H H' := (DrawnN.refl h).took t
theorem DrawnN.keep {o : HO} (h : DrawnN n p H H') (e : H q = .some o) (z : q ≠ p) : H' q = .some o := h.but q o z e
theorem DrawnN.free (h : DrawnN n p H H') (hq : H' q = none) : H q = none := by
  cases e : H q with
  | none => rfl
  | some o =>
    by_cases z : q = p
    · subst z; exact absurd hq h.hnd.some
    · rw [h.but q o z e] at hq; cases hq
theorem DrawnN.laid {o : HO} (h : DrawnN n p H H') (l : Laid q o H' H'') : DrawnN n p H H'' := by
  obtain ⟨ns, e1, e2⟩ := h.hnd
  exact ⟨fun b u z e => l.keep (h.but b u z e), ns, e1, l.keep e2⟩
theorem DrawnN.tups (d : DrawnN n p H H') (h : Hnd n H p) : TupS H H' := fun b xs e => by
  obtain ⟨_, _, e'⟩ := h
  exact d.but b _ (ne_of e e' (by intro z; cases z)) e
end
section
variable {X : Cx}
theorem op_fdivW : OpR X (binaryOp .FloorDiv) (rI (fun _ j => 0 < j ∧ j < 2 ^ 200) fun i j => .int (i / j)) := opI fun i j _ _ _ _ _ hc q => by
  obtain ⟨h1, h2⟩ := hc
  refine floordiv_int (by omega) (by rw [Int.fdiv_eq_ediv_of_nonneg i (by omega)]; exact q) (.inl (PyProof.noPylong_of_log2 ?_))
  have h3 : j.natAbs ≠ 0 := by omega
  have h4 : j.natAbs < 2 ^ 200 := by
    have : ((j.natAbs : Nat) : Int) = j := by omega
    have h5 : ((j.natAbs : Nat) : Int) < ((2 ^ 200 : Nat) : Int) := by rw [this]; exact_mod_cast h2
    omega
  have := (Nat.log2_lt h3).mpr h4
  omega
end
inductive Tr where
  | none
  | one (i : Int)
  | ask (i j : Int) (a u : Tr)
def TrAt (H : Hp) : V → Tr → Prop
  | v, .none => ∃ p, v = .ref p ∧ H p = some (.tup [.str "none"])
  | v, .one i => ∃ p, v = .ref p ∧ H p = some (.tup [.str "one", .int i])
  | v, .ask i j a u => ∃ p x y, v = .ref p ∧ H p = some (.tup [.str "ask", .int i, .int j, x, y]) ∧ TrAt H x a ∧ TrAt H y u
theorem TrAt.to {H H' : Hp} (s : TupS H H') : ∀ {v : V} {t : Tr}, TrAt H v t → TrAt H' v t
  | _, .none, ⟨p, e, h⟩ => ⟨p, e, s _ _ h⟩
  | _, .one _, ⟨p, e, h⟩ => ⟨p, e, s _ _ h⟩
  | _, .ask _ _ _ _, ⟨p, x, y, e, h, a, b⟩ => ⟨p, x, y, e, s _ _ h, a.to s, b.to s⟩
theorem Laid.tups {q : Addr} {o : HO} {H H' : Hp} (l : Laid q o H H') : TupS H H' := l.same.tups
section
variable {X : Cx}
end
end L2
set_option Elab.async false
set_option linter.all false
set_option maxRecDepth 100000
namespace L2
open PySem PySem.Spec PyProof.Rows
section
variable {X : Cx} {a b o : Expr} {ta tb to : TE} {p pos : Pos}
def isInt (k : Int) : Value → Bool
  | .int a _ => a == k
  | _ => false
theorem eq_int {its : List Value} {ns : List Int} (h : IntsAre its ns) (k : Int) (t : Tok) : ∀ y, y ∈ its.toArray → MeetsSeq.EqGives y (.int k t) (isInt k y) := by
  intro y hy
  have hy' : y ∈ its := by simpa using hy
  obtain ⟨i, hi⟩ := List.getElem?_of_mem hy'
  obtain ⟨t', rfl⟩ := ints_get h hi
  exact MeetsSeq.EqGives.int _ _ _ _
end
end L2
set_option Elab.async false
set_option linter.all false
set_option maxRecDepth 100000
namespace L2
open PySem PySem.Spec PyProof.Rows
end L2
set_option Elab.async false
set_option linter.all false
set_option maxRecDepth 100000
namespace L2
open PySem PySem.Spec PyProof.Rows
theorem in_ints {k : Int} {ns : List Int} : inV (.int k) (ns.map V.int) = decide (k ∈ ns) := by
  unfold inV
  rw [Bool.eq_iff_iff, List.any_eq_true]
  simp only [decide_eq_true_eq]
  constructor
  · rintro ⟨y, hy, e⟩
    obtain ⟨n, hn, rfl⟩ := List.mem_map.mp hy
    have : n = k := by
      have e' : eqV (.int n) (.int k) = true := e
      simpa [eqV] using e'
    rw [← this]; exact hn
  · intro h
    exact ⟨.int k, List.mem_map.mpr ⟨k, h, rfl⟩, by simp [eqV]⟩
def obUp (o : List Int) (k : Int) : Nat := if k ∈ o then o.idxOf k + 1 else o.length
def obAsks (o : List Int) (fs : List Nat) (n : Nat) (k : Int) (m : Nat) : List Ask := (List.range m).map fun at_ => (fs.getD at_ 0, n, decide (o.getD at_ 0 = k))
def ob (ks : List Int) : Nat → List Int × List Nat × List Ask
  | 0 => ([], [], [])
  | n + 1 => (if ks.getD n 0 ∈ (ob ks n).1 then (ob ks n).1 else (ob ks n).1 ++ [ks.getD n 0],
      if ks.getD n 0 ∈ (ob ks n).1 then (ob ks n).2.1 else (ob ks n).2.1 ++ [n],
      (ob ks n).2.2 ++ obAsks (ob ks n).1 (ob ks n).2.1 n (ks.getD n 0) (obUp (ob ks n).1 (ks.getD n 0)))
structure DueAt (H : Hp) (r a b : Addr) (cs : List ACel) (th : List Nat) : Prop where
  tup : H r = some (.tup [.ref a, .ref b])
  lst : H a = some (.lst (arefs cs))
  asks : AAt H cs
  things : H b = some (.lst (natV th))
theorem DueAt.same {H H' : Hp} {r a b : Addr} {cs : List ACel} {th : List Nat} (h : DueAt H r a b cs th) (s : Same H H') : DueAt H' r a b cs th := ⟨s _ _ h.tup, s _ _ h.lst, h.asks.to s.tups, s _ _ h.things⟩
theorem DueAt.dp {K : PySem.W.Frag} {H : Hp} {r a b : Addr} {cs : List ACel} {th : List Nat} (h : DueAt H r a b cs th) : Dp K H (.ref r) (.tuple [.list ((asksOf cs).map dAsk), dNat th]) :=
  .tup (SqT.of h.tup) (.cons (.lst (SqL.of h.lst) (dps_asks h.asks)) (.cons (.lst (SqL.of h.things) (dps_nat _)) .nil))
end L2
set_option Elab.async false
set_option linter.all false
set_option maxRecDepth 100000
namespace L2
open PySem PySem.Spec PyProof.Rows
section
variable {prog : Program} {w : World} {A : Around} {R : Result → Shared → Prop} {s : Shared}
end
section
variable {X : Cx} {pins : List (Addr × Obj)} {σ : St} {N' own : List Str} {cap : List (Str × Nat)} {scope : Scope} {tg iter kx vx : Expr} {ifs : List Expr} {pos : Pos} {g : TG} {tc : TT} {tk tv : TE} {wi : TI}
end
section
variable {X : Cx} {o : Expr} {to : TE} {pos : Pos}
end
theorem KV.get {kvs : List (Key × V)} {ws : List (Key × Value)} (rel : KV kvs ws) : ∀ {i : Nat} {k : Key} {v : V}, kvs[i]? = some (k, v) → ∃ u, ws[i]? = some (k, u) ∧ RelV v u := by
  induction rel with
  | nil => intro i k v h; simp at h
  | @cons a b l r hd tl ih =>
    intro i k v h
    cases i with
    | zero =>
      have : a = (k, v) := by simpa using h
      subst this
      obtain ⟨b1, b2⟩ := b
      obtain ⟨h1, h2⟩ := hd
      have : k = b1 := h1
      subst this
      exact ⟨b2, rfl, h2⟩
    | succ i =>
      obtain ⟨u, h1, h2⟩ := ih (i := i) (k := k) (v := v) (by simpa using h)
      exact ⟨u, by simpa using h1, h2⟩
end L2
set_option Elab.async false
set_option linter.all false
set_option maxRecDepth 100000
namespace L2
open PySem PySem.Spec PyProof.Rows
abbrev An := Nat × Nat × Bool
def nb (as : List An) (x : Nat) : List Nat := as.flatMap fun a => if a.2.2 = true then (if x = a.1 then [a.2.1] else []) ++ (if x = a.2.1 then [a.1] else []) else []
theorem mem_nb {as : List An} {x y : Nat} : y ∈ nb as x ↔ (x, y, true) ∈ as ∨ (y, x, true) ∈ as := by
  unfold nb
  rw [List.mem_flatMap]
  constructor
  · rintro ⟨⟨i, j, b⟩, ha, h⟩
    cases b with
    | false => simp at h
    | true =>
      simp only [if_true, List.mem_append] at h
      rcases h with h | h
      · split at h
        · rename_i e
          have : y = j := by simpa using h
          subst this e
          exact .inl ha
        · simp at h
      · split at h
        · rename_i e
          have : y = i := by simpa using h
          subst this e
          exact .inr ha
        · simp at h
  · rintro (h | h)
    · exact ⟨_, h, by simp⟩
    · exact ⟨_, h, by simp⟩
theorem nb_symm {as : List An} {x y : Nat} (h : y ∈ nb as x) : x ∈ nb as y := mem_nb.mpr (mem_nb.mp h).symm
inductive Conn (as : List An) : Nat → Nat → Prop where
  | refl (x : Nat) : Conn as x x
  | step {x y z : Nat} : Conn as x y → z ∈ nb as y → Conn as x z
theorem Conn.trans {as : List An} {x y z : Nat} (h : Conn as x y) (g : Conn as y z) : Conn as x z := by
  induction g with
  | refl => exact h
  | step _ e ih => exact .step ih e
theorem Conn.one {as : List An} {x y : Nat} (h : y ∈ nb as x) : Conn as x y := .step (.refl x) h
theorem Conn.symm {as : List An} {x y : Nat} (h : Conn as x y) : Conn as y x := by
  induction h with
  | refl => exact .refl _
  | step _ e ih => exact (Conn.one (nb_symm e)).trans ih
theorem Conn.mono {as bs : List An} {x y : Nat} (h : Conn as x y) (hm : ∀ a ∈ as, a ∈ bs) : Conn bs x y := by
  induction h with
  | refl => exact .refl _
  | step _ e ih => exact .step ih (mem_nb.mpr ((mem_nb.mp e).imp (hm _) (hm _)))
structure Dfs (as : List An) (n t : Nat) (F : Nat → Option Nat) (pile : List Nat) : Prop where
  pin : ∀ x ∈ pile, x < n ∧ Conn as t x
  con : ∀ x r, F x = some r → Conn as x r ∧ r ≤ t
  fin : ∀ x r y, F x = some r → r < t → y ∈ nb as x → F y = some r
  cur : ∀ x y, F x = some t → y ∈ nb as x → F y = some t ∨ y ∈ pile
  all : ∀ x, x < t → (F x).isSome = true
  top : (F t).isSome = true ∨ t ∈ pile
structure Out (as : List An) (n t : Nat) (F : Nat → Option Nat) : Prop where
  con : ∀ x r, F x = some r → Conn as x r ∧ r < t
  fin : ∀ x r y, F x = some r → y ∈ nb as x → F y = some r
  all : ∀ x, x < t → (F x).isSome = true
theorem Out.zero {as : List An} {n : Nat} : Out as n 0 fun _ => none := ⟨fun _ _ h => (nomatch h), fun _ _ _ h => (nomatch h), fun _ h => absurd h (Nat.not_lt_zero _)⟩
theorem Out.start {as : List An} {n t : Nat} {F : Nat → Option Nat} (h : Out as n t F) (ht : t < n) : Dfs as n t F (if (F t).isSome = true then [] else [t]) := by
  refine ⟨fun x hx => ?_, fun x r e => ⟨(h.con x r e).1, Nat.le_of_lt (h.con x r e).2⟩, fun x r y e _ hy => h.fin x r y e hy, fun x y e _ => absurd (h.con x t e).2 (Nat.lt_irrefl _), h.all, ?_⟩
  · split at hx
    · simp at hx
    · have : x = t := by simpa using hx
      subst this; exact ⟨ht, .refl _⟩
  · split
    · rename_i z; exact .inl z
    · exact .inr (by simp)
theorem Dfs.stop {as : List An} {n t : Nat} {F : Nat → Option Nat} (h : Dfs as n t F []) : Out as n (t + 1) F := by
  refine ⟨fun x r e => ⟨(h.con x r e).1, Nat.lt_succ_of_le (h.con x r e).2⟩, fun x r y e hy => ?_, fun x hx => ?_⟩
  · rcases Nat.lt_or_eq_of_le (h.con x r e).2 with z | z
    · exact h.fin x r y e z hy
    · subst z
      rcases h.cur x y e hy with q | q
      · exact q
      · simp at q
  · rcases Nat.lt_or_eq_of_le (Nat.le_of_lt_succ hx) with z | z
    · exact h.all x z
    · subst z
      rcases h.top with q | q
      · exact q
      · simp at q
theorem Dfs.old {as : List An} {n t one : Nat} {F : Nat → Option Nat} {pile : List Nat} (h : Dfs as n t F (pile ++ [one])) (ho : (F one).isSome = true) : Dfs as n t F pile := by
  obtain ⟨r, er⟩ := Option.isSome_iff_exists.mp ho
  refine ⟨fun x hx => h.pin x (List.mem_append_left _ hx), h.con, h.fin, fun x y e hy => ?_, h.all, ?_⟩
  · rcases h.cur x y e hy with q | q
    · exact .inl q
    · rcases List.mem_append.mp q with z | z
      · exact .inr z
      · have : y = one := by simpa using z
        subst this
        rcases Nat.lt_or_eq_of_le (h.con y r er).2 with z | z
        · have := h.fin y r x er z (nb_symm hy)
          rw [e] at this
          exact absurd (Option.some.inj this).symm (Nat.ne_of_lt z)
        · subst z; exact .inl er
  · rcases h.top with q | q
    · exact .inl q
    · rcases List.mem_append.mp q with z | z
      · exact .inr z
      · have : t = one := by simpa using z
        subst this; exact .inl ho
def setF (F : Nat → Option Nat) (k t : Nat) : Nat → Option Nat := fun x => if x = k then some t else F x
theorem Dfs.new {as : List An} {n t one : Nat} {F : Nat → Option Nat} {pile : List Nat} (h : Dfs as n t F (pile ++ [one])) (ho : F one = none) (hv : ∀ x y, y ∈ nb as x → y < n) : Dfs as n t (setF F one t) (pile ++ nb as one) := by
  have p1 := h.pin one (by simp)
  have ne : ∀ x r, F x = some r → setF F one t x = some r := fun x r e => by
    unfold setF
    rw [if_neg (by rintro rfl; rw [ho] at e; cases e)]
    exact e
  refine ⟨fun x hx => ?_, fun x r e => ?_, fun x r y e hr hy => ?_, fun x y e hy => ?_, fun x hx => ?_, ?_⟩
  · rcases List.mem_append.mp hx with z | z
    · exact h.pin x (List.mem_append_left _ z)
    · exact ⟨hv one x z, .step p1.2 z⟩
  · unfold setF at e
    split at e
    · rename_i z; subst z
      have := Option.some.inj e; subst this
      exact ⟨p1.2.symm, Nat.le_refl _⟩
    · exact h.con x r e
  · unfold setF at e
    split at e
    · have := Option.some.inj e; subst this; exact absurd hr (Nat.lt_irrefl _)
    · exact ne y r (h.fin x r y e hr hy)
  · by_cases z : x = one
    · subst z; exact .inr (List.mem_append_right _ hy)
    · unfold setF at e
      rw [if_neg z] at e
      rcases h.cur x y e hy with q | q
      · exact .inl (ne y t q)
      · rcases List.mem_append.mp q with q | q
        · exact .inr (List.mem_append_left _ q)
        · have : y = one := by simpa using q
          subst this
          exact .inl (by unfold setF; rw [if_pos rfl])
  · obtain ⟨r, er⟩ := Option.isSome_iff_exists.mp (h.all x hx)
    rw [ne x r er]; rfl
  · rcases h.top with q | q
    · obtain ⟨r, er⟩ := Option.isSome_iff_exists.mp q
      exact .inl (by rw [ne t r er]; rfl)
    · rcases List.mem_append.mp q with z | z
      · exact .inr (List.mem_append_left _ z)
      · have : t = one := by simpa using z
        subst this
        exact .inl (by unfold setF; rw [if_pos rfl]; rfl)
def left (as : List An) (F : Nat → Option Nat) : Nat → Nat
  | 0 => 0
  | n + 1 => left as F n + (if (F n).isSome = true then 0 else (nb as n).length)
end L2
set_option Elab.async false
set_option linter.all false
set_option maxRecDepth 100000
namespace L2
open PySem PySem.Spec PyProof.Rows
section
variable {X : Cx} {a b o : Expr} {ta tb to : TE} {p pos : Pos}
end
end L2
set_option Elab.async false
set_option linter.all false
set_option maxRecDepth 100000
namespace L2
open PySem PySem.Spec PyProof.Rows
def Vald (n : Nat) (a : Ask) : Prop := a.1 < n ∧ a.2.1 < n ∧ a.1 ≠ a.2.1
structure AnsAt (K : PySem.W.Frag) (H : Hp) (n : Nat) (l : Addr) (cs : List ACel) : Prop where
  seq : SqL K H l (arefs cs)
  at_ : AAt H cs
  ok : ∀ c ∈ cs, Vald n c.1
  len : cs.length ≤ 2000
theorem AnsAt.same {K : PySem.W.Frag} {H H' : Hp} {n : Nat} {l : Addr} {cs : List ACel} (h : AnsAt K H n l cs) (g : Same H H') : AnsAt K H' n l cs := ⟨g.seq h.seq, h.at_.to g.tups, h.ok, h.len⟩
theorem AnsAt.get {K : PySem.W.Frag} {H : Hp} {n : Nat} {l : Addr} {cs : List ACel} (h : AnsAt K H n l cs) {i : Nat} {x : V} (e : (arefs cs)[i]? = some x) :
    ∃ (a b : Nat) (k : Bool) (q : Addr), cs[i]? = some ((a, b, k), q) ∧ x = .ref q ∧ H q = some (.tup [.int (a : Int), .int (b : Int), .bl k]) ∧ a < n ∧ b < n ∧ a ≠ b := by
  obtain ⟨⟨⟨a, b, k⟩, q⟩, hc, rfl⟩ := arefs_at e
  have m := List.mem_of_getElem? hc
  exact ⟨a, b, k, q, hc, rfl, h.at_ _ m, (h.ok _ m).1, (h.ok _ m).2.1, (h.ok _ m).2.2⟩
end L2
set_option Elab.async false
set_option linter.all false
set_option maxRecDepth 100000
namespace L2
open PySem PySem.Spec PyProof.Rows
structure NearAt (H : Hp) (nl : Addr) (ps : List Addr) (n : Nat) (N : Nat → List Nat) : Prop where
  lst : H nl = some (.lst (ps.map V.ref))
  len : ps.length = n
  nd : ps.Nodup
  at_ : ∀ i p, ps[i]? = some p → H p = some (.lst (natV (N i)))
theorem NearAt.to {H H' : Hp} {nl : Addr} {ps : List Addr} {n : Nat} {N : Nat → List Nat} (h : NearAt H nl ps n N) (k1 : H' nl = H nl) (k2 : ∀ p ∈ ps, H' p = H p) : NearAt H' nl ps n N :=
  ⟨by rw [k1]; exact h.lst, h.len, h.nd, fun i p e => by rw [k2 p (List.mem_of_getElem? e)]; exact h.at_ i p e⟩
theorem NearAt.laid {H H' : Hp} {q : Addr} {o : HO} {nl : Addr} {ps : List Addr} {n : Nat} {N : Nat → List Nat} (h : NearAt H nl ps n N) (l : Laid q o H H') : NearAt H' nl ps n N :=
  h.to (l.eq nl (l.ne h.lst)) fun p hp => by
    obtain ⟨i, hi⟩ := List.getElem?_of_mem hp
    exact l.eq p (l.ne (h.at_ i p hi))
theorem nodup_at {ps : List Addr} (h : ps.Nodup) {i j : Nat} {p : Addr} (a : ps[i]? = some p) (b : ps[j]? = some p) : i = j := by
  obtain ⟨l1, g1⟩ := List.getElem?_eq_some_iff.mp a
  obtain ⟨l2, g2⟩ := List.getElem?_eq_some_iff.mp b
  rcases Nat.lt_trichotomy i j with z | z | z
  · exact absurd (g1.trans g2.symm) ((List.pairwise_iff_getElem.mp h) i j l1 l2 z)
  · exact z
  · exact absurd (g2.trans g1.symm) ((List.pairwise_iff_getElem.mp h) j i l2 l1 z)
theorem NearAt.put {H : Hp} {nl : Addr} {ps : List Addr} {n : Nat} {N : Nat → List Nat} {k y : Nat} {p : Addr} (h : NearAt H nl ps n N) (hk : ps[k]? = some p) : NearAt (upd H p (.lst (natV (N k) ++ [.int (y : Int)]))) nl ps n (fun x => if x = k then N k ++ [y] else N x) := by
  have hp := h.at_ k p hk
  by_cases hn : nl = p
  · subst hn
    have := h.lst
    rw [hp] at this
    exfalso
    have := HO.lst.inj (Option.some.inj this)
    have hm : V.ref nl ∈ ps.map V.ref := List.mem_map_of_mem (List.mem_of_getElem? hk)
    rw [← this] at hm
    obtain ⟨z, _, e⟩ := List.mem_map.mp hm
    cases e
  · refine ⟨by rw [upd_ne hn]; exact h.lst, h.len, h.nd, fun i q e => ?_⟩
    by_cases z : i = k
    · subst z
      have : q = p := by rw [hk] at e; exact (Option.some.inj e).symm
      subst this
      simp only [if_true]
      rw [upd_same, natV_snoc]
    · have : q ≠ p := fun w => z (nodup_at h.nd (w ▸ e) hk)
      rw [upd_ne this]
      simp only [z, if_false]
      exact h.at_ i q e
theorem NearAt.get {H : Hp} {nl : Addr} {ps : List Addr} {n : Nat} {N : Nat → List Nat} (h : NearAt H nl ps n N) {k : Nat} (hk : k < n) : ∃ p, ps[k]? = some p ∧ atI (ps.map V.ref) (k : Int) = some (.ref p) ∧ H p = some (.lst (natV (N k))) := by
  have hl : k < ps.length := by rw [h.len]; exact hk
  refine ⟨ps[k], by simp [hl], atI_nat (by simp [hl]), h.at_ k _ (by simp [hl])⟩
theorem NearAt.fn {H : Hp} {nl : Addr} {ps : List Addr} {n : Nat} {N M : Nat → List Nat} (h : NearAt H nl ps n N) (e : ∀ i, i < n → N i = M i) : NearAt H nl ps n M :=
  ⟨h.lst, h.len, h.nd, fun i p hp => by
    have : i < n := by rw [← h.len]; exact (List.getElem?_eq_some_iff.mp hp).1
    rw [← e i this]; exact h.at_ i p hp⟩
theorem Drawn.tups {p : Addr} {H H' : Hp} (h : Drawn p H H') (hP : Pot H p) : TupS H H' := fun q xs e => by
  obtain ⟨a, b, c, ep⟩ := hP
  exact h.keep e (ne_of e ep (by intro z; cases z))
theorem Took.tups {p : Addr} {H H' : Hp} (h : Took p H H') (hP : Pot H p) : TupS H H' := fun q xs e => by
  obtain ⟨a, b, c, ep⟩ := hP
  exact h.keep (ne_of e ep (by intro z; cases z)) e
end L2
namespace L2
open PySem PySem.Spec PyProof.Rows
theorem Drawn.same {p : Addr} {H H' H'' : Hp} (h : Drawn p H H') (s : Same H' H'') : Drawn p H H'' := by
  obtain ⟨a, b, c, e⟩ := h.pot
  exact ⟨fun b u n z => s _ _ (h.but b u n z), a, b, c, s _ _ e⟩
end L2
set_option Elab.async false
set_option linter.all false
set_option maxRecDepth 100000
namespace L2
open PySem PySem.Spec PyProof.Rows
section
variable {prog : Program} {w : World} {A : Around} {R : Result → Shared → Prop} {s : Shared} {elt tg iter tg2 iter2 : Expr} {ifs ifs2 : List Expr} {scope : Scope} {pos : Pos} {it acc : Value} {env : Env}
end
section
variable {X : Cx} {pins : List (Addr × Obj)} {σ : St} {N' own : List Str} {cap : List (Str × Nat)} {scope : Scope} {tg iter elt tg2 iter2 : Expr} {ifs ifs2 : List Expr} {pos : Pos} {g g2 : TG} {tc tc2 : TT} {te : TE} {wi wi2 : TI}
end
end L2
set_option Elab.async false
set_option linter.all false
set_option maxRecDepth 100000
namespace L2
open PySem PySem.Spec PyProof.Rows
section
variable {prog : Program} {w : World} {A : Around} {R : Result → Shared → Prop} {I : Addr} {fp wr : List Addr} {n : Nat} {P : Nat → Value → Prop} {St : Nat → Heap → Prop}
end
section
variable {X : Cx} {a : Expr} {ta : TE} {p pos : Pos}
end
end L2
set_option Elab.async false
set_option linter.all false
set_option maxRecDepth 100000
namespace L2
open PySem PySem.W PySem.Spec PySem.Calls PyProof.Rows PySem.Builtin PySem.Builtin.ObjectAttr PySem.Builtin.Getset_descriptor
section
variable {prog : Program} {w : World} {A : Around} {E : Value → Shared → Prop} {s : Shared} {K : Frag} {x D : Addr} {ox : Obj}
theorem exc_get {R : Result → Shared → Prop} {tp : Value} (X : K.In s.heap) (L0 : Looks (model prog w) s.heap (typeOf (.ref x)) (.ref D)) (hm : mroIn K D (.type "object") = some true)
    (h : R (.ok (.ret (.ref D))) s) : codeAny (model prog w) A (.call (.builtin "getset_descriptor.__get__") ⟨[.builtin "object.__class__", .ref x, tp], []⟩) R s := by
  obtain ⟨hh, g, dr, t, os⟩ := s
  have L1 := looks_mroIn (M := model prog w) X hm
  refine codeAny_call_builtin KF.slot_gs.plain KF.entry_gs (KF.slot_gs.check _ _ _ _ _ _ _ _ KF.type_class (KF.args_gs _ _ _) ?_)
  unfold Builtin.«getset_descriptor.__get__» descrGet
  rw [dga_obj]
  refine wpAny_bind (wpAny_pure ?_)
  unfold descrGetter descrCheckInstance descrNameAndClass isInstance
  simp only [KF.owner_class]
  repeat lk
  refine ⟨Code.quiet_builtin _ (by decide +kernel), codeAny_builtin KF.entry_class ?_⟩
  unfold Builtin.«object.__class__» shownTypeOf
  repeat lk
  exact h
theorem exc_class {Q : Option Value → Shared → Prop} (X : K.In s.heap) (hx : s.heap.get? x = some ox) (hc : ox.cls = .ref D) (hga : findIn K (.ref D) "__getattribute__" = some (some (.builtin "BaseException.__getattribute__")))
    (hgn : findIn K (.ref D) "__getattr__" = some none) (hmB : mroIn K D (.type "BaseException") = some true)
    (ha : findIn K (.ref D) "__class__" = some (some (.builtin "object.__class__")))
    (hn : specialIn K (.builtin "object.__class__") "__get__" = some (some (.builtin "getset_descriptor.__get__"))) (htk : takesIn K (.builtin "object.__class__") = some true) (hm : mroIn K D (.type "object") = some true)
    (h : Q (some (.ref D)) { s with toks := s.toks + 1 }) : wpAny (model prog w) A (getAttr? (.ref x) "__class__") Q E s := by
  obtain ⟨hh, g, d, t, os⟩ := s
  have L0 : Looks (model prog w) hh (typeOf (.ref x)) (.ref D) := hc ▸ (Looks.ld hx).andThen .now
  have L1 := looks_findIn (M := model prog w) X hga
  have L2 := looks_findIn (M := model prog w) X hgn
  have L3 := looks_findIn (M := model prog w) X ha
  unfold getAttr? getAttrBy? getAttrBy
  refine wpAny_bind (wpAny_mkText (wpAny_bind (wpAny_attempt (wpAny_holding (wpAny_bind (L0.at (wpAny_bind (L1.at ?_))))))))
  show wpAny _ _ (getAttrByItsOwn _ _ _ _ _ _) _ _ _
  unfold getAttrByItsOwn
  refine wpAny_bind (L2.at (wpAny_bind (wpAny_attempt (wpAny_holding ?_))))
  show wpAny _ _ (boundAndCalled (.builtin "BaseException.__getattribute__") (.ref x) _) _ _ _
  unfold boundAndCalled
  refine wpAny_bind (wpAny_of_eq (PySem.F.attr_ValueError.ga.bind (.ref x)) ?_)
  refine wpAny_call (codeAny_call_builtin PySem.F.attr_ValueError.ga.plain PySem.F.entry_bexc_ga ?_)
  have hk : builtinKind "BaseException.__getattribute__" = some .slot := by decide +kernel
  have hsplit : splitId "BaseException.__getattribute__" = some ("BaseException", "__getattribute__") := by decide +kernel
  have LB : Looks (model prog w) hh (isInstance (.ref x) (.type "BaseException")) true := L0.andThen (looks_mroIn X hmB)
  have hargs := PySem.F.args_bexc_ga (.ref x) (.str "__class__" t)
  show wpAny _ _ (checkBuiltinCall "BaseException.__getattribute__" ⟨[.ref x, .str "__class__" t], []⟩) _ _ _
  simp only [checkBuiltinCall, hk, hsplit]
  refine wpAny_bind (LB.at ?_)
  rw [if_neg (by decide)]
  have LF : Looks (model prog w) hh (find (.ref x) (.ref D) "__class__") (.bind (.builtin "getset_descriptor.__get__") (.builtin "object.__class__")) := by
    have L4 : Looks (model prog w) hh (getOf (some (.builtin "object.__class__"))) (some (.builtin "getset_descriptor.__get__")) := looks_specialIn X hn
    have L5 : Looks (model prog w) hh (takesStores (.builtin "object.__class__")) true := looks_takesIn X htk
    unfold find
    refine L3.andThen (L4.andThen ?_)
    unfold dataDescriptor?
    exact fun A' Q' E' s' k q => wpAny_bind (wpAny_bind (L5 A' _ E' s' k (wpAny_pure (wpAny_bind (wpAny_rule (wpAny_pure q))))))
  have body : wpAny (model prog w) A.in1 (Builtin.«object.__getattribute__» ⟨[.ref x, .str "__class__" t], []⟩) (fun fin s' => fin = .done (.ret (.ref D)) ∧ s' = ⟨hh, g, d, t + 1, os⟩) (fun _ _ => False) ⟨hh, g, d, t + 1, os⟩ := by
    unfold Builtin.«object.__getattribute__»
    refine wpAny_bind (wpAny_pure ?_)
    refine wpAny_bind (wpAny_pure ?_)
    refine wpAny_bind (L0.at ?_)
    refine wpAny_bind (LF.at ?_)
    show wpAny _ _ (holding [_] (call (.builtin "getset_descriptor.__get__") [.builtin "object.__class__", .ref x, .ref D]) >>= ret) _ _ _
    refine wpAny_bind (wpAny_holding (wpAny_call (exc_get X L0 hm ?_)))
    exact wpAny_pure ⟨rfl, rfl⟩
  cases hsig : Manifest.signature? "BaseException.__getattribute__" with
  | none => exact wpAny_pure (wpAny_mono body (fun fin s' z => by obtain ⟨rfl, rfl⟩ := z; exact handed_on rfl (wpAny_pure h)) fun _ _ z => z.elim)
  | some sig =>
    simp only [argsOk, hsig] at hargs
    show wpAny _ A.in1 (Bind.checkArgs "BaseException.__getattribute__" sig ⟨[.ref x, .str "__class__" t], []⟩) _ _ _
    have h2 : Bind.checkArgs "BaseException.__getattribute__" sig ⟨[.ref x, .str "__class__" t], []⟩ = pure () := hargs
    rw [h2]
    exact wpAny_pure (wpAny_mono body (fun fin s' z => by obtain ⟨rfl, rfl⟩ := z; exact handed_on rfl (wpAny_pure h)) fun _ _ z => z.elim)
structure ExcIn (K : Frag) (D : Addr) : Prop where
  hga : findIn K (.ref D) "__getattribute__" = some (some (.builtin "BaseException.__getattribute__"))
  hgn : findIn K (.ref D) "__getattr__" = some none
  hmB : mroIn K D (.type "BaseException") = some true
  ha : findIn K (.ref D) "__class__" = some (some (.builtin "object.__class__"))
  hn : specialIn K (.builtin "object.__class__") "__get__" = some (some (.builtin "getset_descriptor.__get__"))
  htk : takesIn K (.builtin "object.__class__") = some true
  hm : mroIn K D (.type "object") = some true
  cls : (clsIn K D).isSome = true
theorem kitx_exc (F : ExcIn K D) : KitX K (.ref x) (.ref D) (fun h => ∃ o, h.get? x = some o ∧ o.cls = .ref D) where
  ty := fun _ _ _ ⟨o, h1, h2⟩ => h2 ▸ (Looks.ld h1).andThen .now
  it := fun _ _ X _ => by
    have hcD := F.cls
    unfold clsIn at hcD
    split at hcD
    · rename_i c' d' cd' sl' ho
      intro A' Q' E' s' k q
      unfold isType loadHead
      exact wpAny_bind (wpAny_loadPart (k _ _ (X _ _ ho)) (wpAny_pure q))
    · cases hcD
  ne := fun h tp dd its n sl X htp => by
    have hcD := F.cls
    refine Bool.eq_false_iff.mpr fun q => ?_
    have e : D = tp := Value.ref.inj (beq_iff_eq.mp q)
    subst e
    unfold clsIn at hcD
    split at hcD
    · rename_i c' d' cd' sl' ho
      have z := (X _ _ ho).symm.trans htp
      cases z
    · cases hcD
  ca := fun X ⟨o, h1, h2⟩ k => exc_class X h1 h2 F.hga F.hgn F.hmB F.ha F.hn F.htk F.hm k
end
def excO (e D : Addr) : HO := .ext fun h => ∃ o, h.get? e = some o ∧ o.cls = .ref D
section
variable {X : Cx} {a b : Expr} {ta tb : TE} {p pos : Pos}
theorem eIsiX (K : Frag) (ml : X.mg "isinstance" = none) (ha : PE X a ta) (hb : PE X b tb) (hg : Gl X "isinstance" := by rfl) (hs : starEach [a, b] X.env = [(false, eval a X.env), (false, eval b X.env)] := by rfl) (hs2 : starEach [b] X.env = [(false, eval b X.env)] := by rfl) (hK : X.K = K := by rfl) :
    PE X (.Call (.Name "isinstance" p) [a, b] [] pos) (fun σ H Q => ta σ H fun x H1 => tb σ H1 fun y H2 => ∃ (e D : Addr) (c : V) (cv : Value) (k : Bool), [x, y] = [.ref e, c] ∧ H2 e = some (excO e D) ∧ ExcIn K D ∧ RelV c cv ∧ kitOne K (.ref D) cv = some k ∧ Q (.bl k) H2) := by
  subst hK
  have rule : CallR X (.builtin "isinstance") (fun xs H Q => ∃ (e D : Addr) (c : V) (cv : Value) (k : Bool), xs = [.ref e, c] ∧ H e = some (excO e D) ∧ ExcIn X.K D ∧ RelV c cv ∧ kitOne X.K (.ref D) cv = some k ∧ Q (.bl k) H) := by
    intro pins s σ H xs us Q I r h
    obtain ⟨e, D, c, cv, k, rfl, he, F, rc, hk, q⟩ := h
    obtain ⟨u, u2, rfl, ru, ru2⟩ := vals2 r
    cases (show u = Value.ref e from ru)
    have hcv : Looks (model X.prog X.w) s.heap (pure () : Sem Unit) () := .now
    obtain ⟨ho, _, _⟩ := (show (∃ o, s.heap.get? e = some o ∧ o.cls = .ref D) ∧ _ ∧ _ from I.hok e _ he)
    have : u2 = cv ∨ kitOne X.K (.ref D) u2 = some k := by
      cases c with
      | ref a => cases (show u2 = Value.ref a from ru2); cases (show cv = Value.ref a from rc); exact .inl rfl
      | ty n => cases (show u2 = Value.type n from ru2); cases (show cv = Value.type n from rc); exact .inl rfl
      | non => cases (show u2 = Value.none from ru2); cases (show cv = Value.none from rc); exact .inl rfl
      | bl b => cases (show u2 = Value.bool b from ru2); cases (show cv = Value.bool b from rc); exact .inl rfl
      | int i => obtain ⟨t, z⟩ := (show ∃ t, cv = Value.int i t from rc); subst z; simp [kitOne, kitCls] at hk
      | str i => obtain ⟨t, z⟩ := (show ∃ t, cv = Value.str i t from rc); subst z; simp [kitOne, kitCls] at hk
      | byt i => obtain ⟨t, z⟩ := (show ∃ t, cv = Value.bytes i t from rc); subst z; simp [kitOne, kitCls] at hk
      | flt i => obtain ⟨t, z⟩ := (show ∃ t, cv = Value.float i t from rc); subst z; simp [kitOne, kitCls] at hk
    have hk2 : kitOne X.K (.ref D) u2 = some k := by
      rcases this with z | z
      · rw [z]; exact hk
      · exact z
    exact kia_one (kitx_exc F) I.kIn ho hk2 (fun z => nomatch z) fun tk => ⟨.bl k, H, I.tok _, rfl, q⟩
  exact pe_callB rule hg ml rfl (pa_cons ha (pa_cons hb pa_nil hs2) (by rw [hs, hs2])) (he := by rw [hs, hs2]) (hpl := by rw [hs2]; rfl)
end
def PJ (X : Cx) (es : List Expr) (t : St → Hp → (Hp → Prop) → Prop) : Prop :=
  ∀ (pins : List (Addr × Obj)) (s : Shared) (σ : St) (H : Hp) (Q : Hp → Prop) (acc : Str) (n : Nat), acc.length ≤ n → n + 2000 * es.length ≤ 1000000 → Inv X pins σ H s → t σ H Q →
    wpAny (model X.prog X.w) X.A (joinParts acc (evalEach es X.env)) (fun u s' => ∃ z t H', u = .str z t ∧ Inv X pins σ H' s' ∧ Q H') X.xe s
section
variable {X : Cx} {e e2 : Expr} {es : List Expr} {te : TE} {t : St → Hp → (Hp → Prop) → Prop} {p pos : Pos}
theorem pj_nil : PJ X [] (fun _ H Q => Q H) := fun pins s σ H Q acc n h1 h2 I h => joinParts_nil ⟨acc, _, H, rfl, I.tok _, h⟩ (by rw [sizeLine_eq]; simp at h2; omega)
theorem pj_str {x : Str} {j : Nat} (hx : x.length ≤ 2000) (hr : PJ X es t) : PJ X (.Constant (.str x) j p :: es) t := by
  intro pins s σ H Q acc n h1 h2 I h
  have hl : (acc ++ x).length ≤ n + 2000 := by rw [strLen_append]; omega
  simp only [List.length_cons] at h2
  show wpAny _ _ (joinParts acc (eval (.Constant (.str x) j p) X.env :: evalEach es X.env)) _ _ s
  refine joinParts_cons (thn (pe_str pins s σ H (fun v H' => v = .str x ∧ H' = H) I ⟨rfl, rfl⟩) fun u s1 ⟨v, H1, I1, r1, e1, e2⟩ => ?_)
  subst e1 e2
  obtain ⟨tk, rfl⟩ := r1
  exact ⟨by rw [sizeLine_eq]; omega, hr pins s1 σ _ Q _ (n + 2000) hl (by omega) I1 h⟩
theorem pj_int (he : PE X e te) (hr : PJ X es t) : PJ X (.FormattedValue e (-1) none p :: es) (fun σ H Q => te σ H fun v H1 => ∃ i, v = .int i ∧ i.natAbs.log2 < 1920 ∧ t σ H1 Q) := by
  intro pins s σ H Q acc n h1 h2 I h
  simp only [List.length_cons] at h2
  show wpAny _ _ (joinParts acc (eval (.FormattedValue e (-1) none p) X.env :: evalEach es X.env)) _ _ s
  refine joinParts_cons (FormattedValue_plain (thn (he pins s σ H _ I h) fun u s1 ⟨v, H1, I1, r1, i, ev, hi, q⟩ => ?_))
  subst ev
  obtain ⟨tk, rfl⟩ := r1
  refine formatField_int_small hi ?_
  have hz := int_text_len_1921 hi
  have hl : (acc ++ Str.ofString (toString i)).length ≤ n + 2000 := by rw [strLen_append]; omega
  exact ⟨by rw [sizeLine_eq]; omega, hr pins _ σ H1 Q _ (n + 2000) hl (by omega) (I1.tok _) q⟩
theorem pe_join (h : PJ X (e :: e2 :: es) t) (hl : (e :: e2 :: es).length ≤ 400 := by decide) : PE X (.JoinedStr (e :: e2 :: es) pos) (fun σ H Q => t σ H fun H1 => ∀ z, Q (.str z) H1) := by
  intro pins s σ H Q I q
  refine JoinedStr_many ?_
  refine thn (h pins s σ H _ Str.empty 0 (Nat.zero_le _) (by omega) I q) fun u s' ⟨z, tk, H', eu, I', q'⟩ => ?_
  exact ⟨.str z, H', I', ⟨tk, eu⟩, q' z⟩
end
end L2
set_option Elab.async false
set_option linter.all false
set_option maxRecDepth 100000
namespace L2
open PySem PySem.Spec PyProof.Rows
theorem ObjOk.there {P : Program} {w : World} {H : Hp} {h : Heap} {a : Addr} {o : HO} (x : ObjOk P w H h a o) : ∃ ob, h.get? a = some ob := by
  cases o with
  | lst xs => obtain ⟨_, _, _, _, e⟩ := x; exact ⟨_, e⟩
  | tup xs => obtain ⟨_, _, _, p⟩ := x; obtain ⟨ob, e, _⟩ := p; exact ⟨_, e⟩
  | dK kvs => obtain ⟨_, _, _, _, o, _, _, e, _⟩ := x; exact ⟨_, e⟩
  | dT kvs => obtain ⟨_, _, _, _, o, _, _, e, _⟩ := x; exact ⟨_, e⟩
  | set S n => obtain ⟨o, _, _, _, e, _⟩ := x; exact ⟨_, e⟩
  | ins C dx fs => obtain ⟨_, _, _, e, _⟩ := x; exact ⟨_, e⟩
  | own y => obtain ⟨_, e⟩ := x; exact ⟨_, e⟩
  | xd fs => obtain ⟨_, ⟨_, _, _, e, _⟩, _⟩ := x; exact ⟨_, e⟩
  | rng lo hi => obtain ⟨_, _, _, e⟩ := x; exact ⟨_, e⟩
  | frz ob u => obtain ⟨e, _⟩ := x; exact ⟨_, e⟩
  | tbl ps => exact ⟨_, (show h.get? a = some _ from x)⟩
  | met f y => exact ⟨_, (show h.get? a = some _ from x)⟩
  | ext φ => obtain ⟨_, e, _⟩ := x; exact e
structure Flew (P : Program) (w : World) (outer : List Env) (H H' : Hp) (s : Shared) (e : Addr) (C : Value) (B : Heap) (s' : Shared) : Prop where
  os : s'.os = s.os
  bare : AllBare s'.gens
  un : Un (frs outer) [] H H' s.heap s'.heap
  hok : HOk P w H' s'.heap
  trk : ∀ b o, s'.heap.get? b = some o → H' b ≠ none → B.get? b = some o
  old : ∀ b o, s.heap.get? b = some o → H b = none → b ∉ frs outer → B.get? b = some o
  thr : ∀ b o, s.heap.get? b = some o → b ∉ frs outer → ∃ o', B.get? b = some o'
  frf : ∀ b ∈ frs outer, H b = none
  unt : H' e = none
  new : s.heap.get? e = none
  fly : ∃ a0, Heap.FlyingW B outer e C a0 s'.heap
def CXr (P : Program) (w : World) : CXT := fun outer H s E e s' => ∃ (a : Addr) (C : Value) (H' : Hp) (B : Heap), e = .ref a ∧ Flew P w outer H H' s a C B s' ∧ E C none H'
section
variable {P : Program} {w : World} {outer : List Env} {H H' : Hp} {s s' : Shared} {e : Addr} {C : Value} {B : Heap}
theorem Flew.to {h2 : Heap} (F : Flew P w outer H H' s e C B s') (hB : B.StaysIn h2) (hs : s'.heap.UpToSlots h2) : Un (frs outer) [] H H' s.heap h2 ∧ HOk P w H' h2 ∧ ∀ b o, h2.get? b = some o → H' b ≠ none → B.get? b = some o := by
  obtain ⟨a0, fl⟩ := F.fly
  have kp : ∀ b o, s.heap.get? b = some o → H b = none → b ∉ frs outer → h2.get? b = some o := fun b o x n hb => hB b o (F.old b o x n hb)
  have sl : ∀ b o, s.heap.get? b = some o → H b = none → b ∈ frs outer → ∃ sl, h2.get? b = some { o with slots := sl } := fun b o x n hb => by
    obtain ⟨sl, e1⟩ := F.un.slot b o x n hb (by simp)
    obtain ⟨_, o', e2, d⟩ := fl.2.2.1.mem hb
    rw [e1] at e2
    cases e2
    obtain ⟨sl', e3⟩ := hs b { o with slots := sl } e1 d
    exact ⟨sl', e3⟩
  refine ⟨⟨fun b o x n hb _ => kp b o x n hb, fun b o x n hb _ => sl b o x n hb, F.un.free, fun b o x _ => ?_, F.un.tups, F.un.frzs, F.un.tbls⟩, fun a u eu => ?_, fun b o x n => ?_⟩
  · by_cases hb : b ∈ frs outer
    · obtain ⟨l, e1⟩ := sl b o x (F.frf b hb) hb
      exact ⟨_, e1⟩
    · obtain ⟨o', e1⟩ := F.thr b o x hb
      exact ⟨o', hB b o' e1⟩
  · refine (F.hok a u eu).stay (fun b v hb q => hB b v (F.trk b v q ?_)) (fun _ q => q) fun _ _ q => q
    rcases hb with z | z
    · rw [z, eu]; simp
    · rw [z]; simp
  · cases eu : H' b with
    | none => exact absurd eu n
    | some u =>
      obtain ⟨o1, e1⟩ := (F.hok b u eu).there
      have e2 := F.trk b o1 e1 n
      have e3 := hB b o1 e2
      rw [x] at e3
      cases e3
      exact e2
theorem Flew.next {h2 : Heap} (F : Flew P w outer H H' s e C B s') (hs : s'.heap.UpToSlots h2) (fl : ∃ a0, Heap.FlyingW B outer e C a0 h2) : Flew P w outer H H' s e C B { s' with heap := h2 } := by
  obtain ⟨a0, fl⟩ := fl
  obtain ⟨u, k, t⟩ := F.to fl.1 hs
  exact ⟨F.os, F.bare, u, k, t, F.old, F.thr, F.frf, F.unt, F.new, a0, fl⟩
theorem Flew.inv {X : Cx} {pins : List (Addr × Obj)} {σ : St} (F : Flew X.prog X.w X.stack H H' s e C B s') (I : Inv X pins σ H s) : Inv X pins σ H' s' :=
  I.call' (ch := []) F.os F.un F.hok F.bare fun _ z => nomatch z
end
section
variable {P : Program} {w : World} {K : PySem.W.Frag} {mg : Str → Option Value} {base : Heap} {N : List Str} {qual : Str} {scope : Scope} {f : Addr} {cd : Value} {A : Around} {outer : List Env} {s s1 : Shared} {H H1 : Hp} {E E' : XK}
  {pins : List (Addr × Obj)} {σ : St}
theorem raised {h' : Heap} {e C : Addr} {vs : List Value} (I : Inv (cxOf (CXr P w) P w K mg base N qual scope f cd A outer s H E) pins σ H1 s1) (hx : Heap.MadeExcOf s1.heap h' e (.ref C) vs) (hE : E (.ref C) none H1) :
    (cxOf (CXr P w) P w K mg base N qual scope f cd A outer s H E).xe (.ref e) { s1 with heap := h' } := by
  have fs : ∀ b, b ∈ frs (envOfC qual scope s.heap.objs.size f cd :: outer) → H1 b = none := I.stkFree
  have inn : ∀ b o, s1.heap.get? b = some o → b ∉ frs (envOfC qual scope s.heap.objs.size f cd :: outer) → (PySem.W.hideAll s1.heap (frs (envOfC qual scope s.heap.objs.size f cd :: outer))).get? b = some o := fun b o e hb => PySem.W.hideAll_get _ e hb
  have out : ∀ b o, s.heap.get? b = some o → b ∉ frs outer → b ∉ frs (envOfC qual scope s.heap.objs.size f cd :: outer) := fun b o e hb z => by
    have z : b ∈ s.heap.objs.size :: frs outer := z
    rcases List.mem_cons.mp z with q | q
    · rw [q] at e; exact Nat.lt_irrefl _ (Heap.lt_size e)
    · exact hb q
  have frf : ∀ b ∈ frs outer, H b = none := I.ok.frf
  have hin : ∀ env ∈ (envOfC qual scope s.heap.objs.size f cd :: outer), ∀ a, env.frame = some a → a ∈ frs (envOfC qual scope s.heap.objs.size f cd :: outer) := fun env he a ha => List.mem_filterMap.mpr ⟨env, he, ha⟩
  show wpAny (model P w) (A.deeper (envOfC qual scope s.heap.objs.size f cd)) (leaving (envOfC qual scope s.heap.objs.size f cd) (.ref e)) _ _ _
  refine wpAny_leaves_madeW (base := PySem.W.hideAll s1.heap (frs (envOfC qual scope s.heap.objs.size f cd :: outer))) I.ok.frames rfl (fun b o q => PySem.W.of_hideAll _ q) (PySem.W.funFrames_hide I.stack hin) hx fun h2 t fl _ _ ups => ?_
  have hB := fl.1
  have sl : ∀ b o, s.heap.get? b = some o → H b = none → b ∈ frs outer → ∃ sl, h2.get? b = some { o with slots := sl } := fun b o x n hb => by
    obtain ⟨sl, e1⟩ := I.base.slot b o x n hb (by simp [cxOf])
    obtain ⟨_, o', e2, d⟩ := I.stack.mem (show b ∈ s.heap.objs.size :: frs outer from List.mem_cons_of_mem _ hb)
    rw [e1] at e2
    cases e2
    obtain ⟨sl', e3⟩ := ups b { o with slots := sl } (hx.keeps b { o with slots := sl } e1) d
    exact ⟨sl', e3⟩
  have old : ∀ b o, s.heap.get? b = some o → H b = none → b ∉ frs outer → (PySem.W.hideAll s1.heap (frs (envOfC qual scope s.heap.objs.size f cd :: outer))).get? b = some o := fun b o x n hb =>
    inn b o (I.base.keep b o x n hb (by simp [cxOf])) (out b o x hb)
  have thr : ∀ b o, s.heap.get? b = some o → b ∉ frs outer → ∃ o', (PySem.W.hideAll s1.heap (frs (envOfC qual scope s.heap.objs.size f cd :: outer))).get? b = some o' := fun b o x hb => by
    obtain ⟨o', e1⟩ := I.base.there b o x (by simp [cxOf])
    exact ⟨o', inn b o' e1 (out b o x hb)⟩
  have nfr : ∀ b, H1 b ≠ none → b ∉ frs (envOfC qual scope s.heap.objs.size f cd :: outer) := fun b n z => n (fs b z)
  refine ⟨e, .ref C, H1, _, rfl, ⟨I.os, I.bare, ⟨fun b o x n hb _ => hB b o (old b o x n hb), fun b o x n hb _ => sl b o x n hb, fun b o x n _ => I.base.free b o x n (by simp [cxOf]), fun b o x _ => ?_, I.base.tups, I.base.frzs, I.base.tbls⟩, fun a u eu => ?_, fun b o x n => ?_, old, thr, frf, ?_, ?_, _, fl⟩, hE⟩
  · by_cases hb : b ∈ frs outer
    · obtain ⟨l, e1⟩ := sl b o x (frf b hb) hb
      exact ⟨_, e1⟩
    · obtain ⟨o', e1⟩ := thr b o x hb
      exact ⟨o', hB b o' e1⟩
  · refine (I.hok a u eu).stay (fun b v hb q => hB b v (inn b v q (nfr b ?_))) (fun _ q => q) fun _ _ q => q
    rcases hb with z | z
    · rw [z, eu]; simp
    · rw [z]; simp
  · cases eu : H1 b with
    | none => exact absurd eu n
    | some u =>
      obtain ⟨o1, e1⟩ := (I.hok b u eu).there
      have e2 := inn b o1 e1 (nfr b n)
      have e3 := hB b o1 e2
      rw [x] at e3
      cases e3
      exact e2
  · cases eu : H1 e with
    | none => rfl
    | some u =>
      obtain ⟨o1, e1⟩ := (I.hok e u eu).there
      rw [hx.new] at e1
      cases e1
  · cases eo : s.heap.get? e with
    | none => rfl
    | some o =>
      obtain ⟨o1, e1⟩ := I.base.there e o eo (by simp [cxOf])
      rw [hx.new] at e1
      cases e1
theorem pass_on (hE : ∀ C d H', E' C d H' → E C d H') : Passes (CXr P w) (cxOf (CXr P w) P w K mg base N qual scope f cd A outer s H E) E' := by
  intro pins σ H1 s1 e s' I hc
  obtain ⟨a, C, H', B, rfl, F, q⟩ := hc
  have F : Flew P w (envOfC qual scope s.heap.objs.size f cd :: outer) H1 H' s1 a C B s' := F
  obtain ⟨a0, fl⟩ := F.fly
  have I2 : Inv (cxOf (CXr P w) P w K mg base N qual scope f cd A outer s H E) pins σ H' s' := Flew.inv (X := cxOf (CXr P w) P w K mg base N qual scope f cd A outer s H E) F I
  have out : ∀ b o, s.heap.get? b = some o → b ∉ frs outer → b ∉ frs (envOfC qual scope s.heap.objs.size f cd :: outer) := fun b o e hb z => by
    have z : b ∈ s.heap.objs.size :: frs outer := z
    rcases List.mem_cons.mp z with q | q
    · rw [q] at e; exact Nat.lt_irrefl _ (Heap.lt_size e)
    · exact hb q
  obtain ⟨f1, f2, ⟨_, _, f3⟩, f4⟩ := id fl
  have G : Flew P w outer H H' s a C B s' := by
    refine ⟨I2.os, F.bare, ⟨fun b o x n hb _ => I2.base.keep b o x n hb (by simp [cxOf]), fun b o x n hb _ => I2.base.slot b o x n hb (by simp [cxOf]), fun b o x n _ => I2.base.free b o x n (by simp [cxOf]), fun b o x _ => I2.base.there b o x (by simp [cxOf]), I2.base.tups, I2.base.frzs, I2.base.tbls⟩, F.hok, F.trk,
      fun b o x n hb => F.old b o (I.base.keep b o x n hb (by simp [cxOf])) (I.base.free b o x n (by simp [cxOf])) (out b o x hb), fun b o x hb => ?_, I.ok.frf, F.unt, ?_, a0, f1, f2, f3, f4⟩
    · obtain ⟨o1, e1⟩ := I.base.there b o x (by simp [cxOf])
      exact F.thr b o1 e1 (out b o x hb)
    · cases eo : s.heap.get? a with
      | none => rfl
      | some o =>
        obtain ⟨o1, e1⟩ := I.base.there a o eo (by simp [cxOf])
        rw [F.new] at e1
        cases e1
  show wpAny (model P w) (A.deeper (envOfC qual scope s.heap.objs.size f cd)) (leaving (envOfC qual scope s.heap.objs.size f cd) (.ref a)) _ _ _
  exact wpAny_leaves_onW I.ok.frames rfl fl fun h2 fl2 ups => ⟨a, C, H', B, rfl, G.next ups ⟨_, fl2⟩, hE C none H' q⟩
end
end L2
set_option Elab.async false
set_option linter.all false
set_option maxRecDepth 100000
namespace L2
open PySem PySem.Spec PyProof.Rows
def ListsAt (h : Heap) (I S : Addr) (items : Array Value) (ls : List Nat) : Prop := ∀ i v, items[i]? = some v → ∃ (l : Addr) (its : Array Value), v = .ref l ∧ l ≠ I ∧ l ≠ S ∧ h.IsList l its ∧ its.size = ls.getD i 0 ∧ its.size ≤ sizeLine
theorem ListsAt.to {h h' : Heap} {I S : Addr} {items : Array Value} {ls : List Nat} (a : ListsAt h I S items ls) (k : ∀ x o, x ≠ I → x ≠ S → h.get? x = some o → h'.get? x = some o) : ListsAt h' I S items ls := fun i v hv => by
  obtain ⟨l, its, e, n1, n2, hl, hs⟩ := a i v hv
  exact ⟨l, its, e, n1, n2, hl.at fun o q => k l o n1 n2 q, hs⟩
section
variable {prog : Program} {w : World} {A : Around} {R : Result → Shared → Prop} {I l : Addr} {items : Array Value} {ls : List Nat} {d : Value}
end
section
variable {X : Cx} {a b : Expr} {ta tb : TE} {p p2 pos kp kp2 : Pos}
end
end L2
set_option Elab.async false
set_option linter.all false
set_option maxRecDepth 100000
namespace L2
open PySem PySem.Spec PyProof.Rows
section
variable {prog : Program} {w : World} {A : Around} {R : Result → Shared → Prop} {I : Addr} {fp wr : List Addr} {n : Nat} {P : Nat → Value → Prop} {St : Nat → Heap → Prop}
end
section
variable {prog : Program} {w : World} {A : Around} {E : Value → Shared → Prop} {s : Shared}
end
section
variable {X : Cx}
end
end L2
set_option Elab.async false
set_option linter.all false
set_option maxRecDepth 100000
namespace L3
open PySem PySem.Spec L2
inductive D where
  | non | bl (b : Bool) | int (i : Int) | str (x : Str) | lst (xs : List D) | scr (xs : List D) | tup (xs : List D) | gt (xs : List D) | ref (k : Nat)
inductive O where
  | lst (xs : List D) | dK (kvs : List (Key × D)) | ins (C : Addr) (fs : List (Str × D)) | exc (C : Addr)
abbrev M := List (Option O)
abbrev G := List (Option D)
structure Wd where
  ρ : List Addr
  μ : M
  H : Hp
  hid : Addr → Prop
def SqF (K : PySem.W.Frag) (H : Hp) (a : Addr) (xs : List V) : Prop := (∃ o, H a = some (.frz o (.lst xs))) ∨
    ∃ (o : Obj) (its : Array Value) (n : Nat), K.lookup a = some o ∧ o.cls = .type "list" ∧ o.dict = none ∧ o.data = .seq its n ∧ its.size ≤ sizeLine ∧ Vals xs its.toList
theorem SqF.seq {K : PySem.W.Frag} {H : Hp} {a : Addr} {xs : List V} (h : SqF K H a xs) : SqL K H a xs := by
  rcases h with h | h
  · exact .inl (.inr h)
  · exact .inr h
def RL (W : Wd) (a : Addr) : Prop := ∃ (k : Nat) (o : O), W.μ[k]? = some (some o) ∧ W.ρ[k]? = some a
def Live (W : Wd) (a : Addr) : Prop := RL W a ∨ W.hid a
mutual
inductive DR (K : PySem.W.Frag) (W : Wd) : D → V → Prop where
  | non : DR K W .non .non
  | bl (b : Bool) : DR K W (.bl b) (.bl b)
  | int (i : Int) : DR K W (.int i) (.int i)
  | str (x : Str) : DR K W (.str x) (.str x)
  | ref {k : Nat} {a : Addr} : W.ρ[k]? = some a → DR K W (.ref k) (.ref a)
  | lst {a : Addr} {vs : List V} {ds : List D} : W.H a = some (.lst vs) → ¬ Live W a → DRs K W ds vs → DR K W (.lst ds) (.ref a)
  | scr {a : Addr} {vs : List V} {ds : List D} : SqF K W.H a vs → DRs K W ds vs → DR K W (.scr ds) (.ref a)
  | tup {a : Addr} {vs : List V} {ds : List D} : W.H a = some (.tup vs) → DRs K W ds vs → DR K W (.tup ds) (.ref a)
  | gt {a : Addr} {vs : List V} {ds : List D} : SqT K W.H a vs → DRs K W ds vs → DR K W (.gt ds) (.ref a)
inductive DRs (K : PySem.W.Frag) (W : Wd) : List D → List V → Prop where
  | nil : DRs K W [] []
  | cons {d : D} {v : V} {ds : List D} {vs : List V} : DR K W d v → DRs K W ds vs → DRs K W (d :: ds) (v :: vs)
end
def KR (K : PySem.W.Frag) (W : Wd) : List (Key × D) → List (Key × V) → Prop := Paired fun p q => p.1 = q.1 ∧ DR K W p.2 q.2
def FR (K : PySem.W.Frag) (W : Wd) : List (Str × D) → List (Str × V) → Prop := Paired fun p q => p.1 = q.1 ∧ DR K W p.2 q.2
def OR (K : PySem.W.Frag) (W : Wd) (a : Addr) : O → HO → Prop
  | .lst ds, ho => ∃ vs, ho = .lst vs ∧ DRs K W ds vs
  | .dK kvs, ho => ∃ vs, ho = .dK vs ∧ KR K W kvs vs
  | .ins C fs, ho => ∃ vs, (∃ dx, ho = .ins C dx vs) ∧ FR K W fs vs
  | .exc C, ho => ho = excO a C
structure Ok (K : PySem.W.Frag) (W : Wd) : Prop where
  len : W.ρ.length = W.μ.length
  nd : W.ρ.Nodup
  rs : ∀ a ∈ W.ρ, W.H a ≠ none
  at_ : ∀ (k : Nat) (o : O), W.μ[k]? = some (some o) → ∃ a ho, W.ρ[k]? = some a ∧ W.H a = some ho ∧ OR K W a o ho
  hd0 : ∀ a, W.hid a → W.H a ≠ none ∧ a ∉ W.ρ
theorem Ok.hd {K : PySem.W.Frag} {W : Wd} (ok : Ok K W) : ∀ a, W.hid a → W.H a ≠ none ∧ ¬ RL W a := fun a z => ⟨(ok.hd0 a z).1, fun ⟨_, _, _, h⟩ => (ok.hd0 a z).2 (List.mem_of_getElem? h)⟩
structure Step (W W' : Wd) : Prop where
  ρ : ∀ (k : Nat) a, W.ρ[k]? = some a → W'.ρ[k]? = some a
  live : ∀ a, RL W' a → RL W a ∨ W.H a = none
  keep : ∀ a o, W.H a = some o → ¬ RL W a → W'.H a = some o
  hid : W'.hid = W.hid
  still : ∀ a, W.H a ≠ none → W'.H a ≠ none
structure EnvR (K : PySem.W.Frag) (W : Wd) (Γ : G) (σ : St) : Prop where
  len : Γ.length = σ.length
  at_ : ∀ (i : Nat) d, Γ[i]? = some (some d) → ∃ v, σ[i]? = some (some v) ∧ DR K W d v
section
variable {K : PySem.W.Frag} {W W' W'' : Wd} {Γ : G} {σ : St}
theorem Step.refl : Step W W := ⟨fun _ _ h => h, fun _ h => .inl h, fun _ _ h _ => h, rfl, fun _ h => h⟩
theorem Step.nlive (s : Step W W') {a : Addr} {o : HO} (h : W.H a = some o) (n : ¬ RL W a) : ¬ RL W' a := fun z => by
  rcases s.live a z with z | z
  · exact n z
  · rw [h] at z; cases z
theorem Step.trans (s : Step W W') (t : Step W' W'') : Step W W'' where
  ρ k a h := t.ρ k a (s.ρ k a h)
  live a h := by
    rcases t.live a h with z | z
    · exact s.live a z
    · exact .inr (Classical.byContradiction fun n => s.still a n z)
  keep a o h n := t.keep a o (s.keep a o h n) (s.nlive h n)
  hid := t.hid.trans s.hid
  still a h := t.still a (s.still a h)
theorem Step.nLive (s : Step W W') {a : Addr} {o : HO} (h : W.H a = some o) (n : ¬ Live W a) : ¬ Live W' a := fun z => by
  rcases z with z | z
  · exact s.nlive h (fun q => n (.inl q)) z
  · rw [s.hid] at z; exact n (.inr z)
theorem Rd.there {H : Hp} {a : Addr} {u : HO} (r : Rd H a u) : ∃ o, H a = some o := by
  rcases r with h | ⟨o, h⟩
  · exact ⟨_, h⟩
  · exact ⟨_, h⟩
theorem rd_step (s : Step W W') {a : Addr} {u : HO} (n : ¬ RL W a) (r : Rd W.H a u) : Rd W'.H a u := by
  rcases r with h | ⟨o, h⟩
  · exact .inl (s.keep _ _ h n)
  · exact .inr ⟨o, s.keep _ _ h n⟩
theorem Ok.notup (ok : Ok K W) {a : Addr} {vs : List V} (r : Rd W.H a (.tup vs)) : ¬ RL W a := fun ⟨k, o, hk, ha⟩ => by
  obtain ⟨a', ho, h1, h2, h3⟩ := ok.at_ k o hk
  rw [ha] at h1
  cases h1
  rcases r with h | ⟨q, h⟩
  · rw [h2] at h
    cases o with
    | lst ds => obtain ⟨ws, rfl, _⟩ := h3; cases h
    | dK kvs => obtain ⟨ws, rfl, _⟩ := h3; cases h
    | ins C fs => obtain ⟨ws, ⟨dx, rfl⟩, _⟩ := h3; cases h
    | exc C => cases (show _ = _ from h3); cases h
  · rw [h2] at h
    cases o with
    | lst ds => obtain ⟨ws, rfl, _⟩ := h3; cases h
    | dK kvs => obtain ⟨ws, rfl, _⟩ := h3; cases h
    | ins C fs => obtain ⟨ws, ⟨dx, rfl⟩, _⟩ := h3; cases h
    | exc C => cases (show _ = _ from h3); cases h
theorem tp_step (ok : Ok K W) (s : Step W W') {a : Addr} {vs : List V} (h : SqT K W.H a vs) : SqT K W'.H a vs := by
  rcases h with h | h
  · exact .inl (rd_step s (ok.notup h) h)
  · exact .inr h
theorem Ok.nofrz (ok : Ok K W) {a : Addr} {u : HO} {q : Obj} (h : W.H a = some (.frz q u)) : ¬ RL W a := fun ⟨k, o, hk, ha⟩ => by
  obtain ⟨a', ho, h1, h2, h3⟩ := ok.at_ k o hk
  rw [ha] at h1
  cases h1
  rw [h2] at h
  cases o with
  | lst ds => obtain ⟨ws, rfl, _⟩ := h3; cases h
  | dK kvs => obtain ⟨ws, rfl, _⟩ := h3; cases h
  | ins C fs => obtain ⟨ws, ⟨dx, rfl⟩, _⟩ := h3; cases h
  | exc C => cases (show _ = _ from h3); cases h
theorem sf_step (ok : Ok K W) (s : Step W W') {a : Addr} {vs : List V} (h : SqF K W.H a vs) : SqF K W'.H a vs := by
  rcases h with ⟨o, h⟩ | h
  · exact .inl ⟨o, s.keep _ _ h (ok.nofrz h)⟩
  · exact .inr h
mutual
theorem DR.step (ok : Ok K W) (s : Step W W') : ∀ {d : D} {v : V}, DR K W d v → DR K W' d v
  | _, _, .non => .non
  | _, _, .bl b => .bl b
  | _, _, .int i => .int i
  | _, _, .str x => .str x
  | _, _, .ref h => .ref (s.ρ _ _ h)
  | _, _, .lst r n h => .lst (s.keep _ _ r (fun z => n (.inl z))) (s.nLive r n) (DRs.step ok s h)
  | _, _, .scr r h => .scr (sf_step ok s r) (DRs.step ok s h)
  | _, _, .tup r h => .tup (s.keep _ _ r (ok.notup (.inl r))) (DRs.step ok s h)
  | _, _, .gt r h => .gt (tp_step ok s r) (DRs.step ok s h)
theorem DRs.step (ok : Ok K W) (s : Step W W') : ∀ {ds : List D} {vs : List V}, DRs K W ds vs → DRs K W' ds vs
  | _, _, .nil => .nil
  | _, _, .cons h t => .cons (h.step ok s) (DRs.step ok s t)
end
theorem KR.step (ok : Ok K W) (s : Step W W') {kvs : List (Key × D)} {vs : List (Key × V)} (h : KR K W kvs vs) : KR K W' kvs vs := Paired.mapP h fun _ _ ⟨e, q⟩ => ⟨e, q.step ok s⟩
theorem FR.step (ok : Ok K W) (s : Step W W') {kvs : List (Str × D)} {vs : List (Str × V)} (h : FR K W kvs vs) : FR K W' kvs vs := Paired.mapP h fun _ _ ⟨e, q⟩ => ⟨e, q.step ok s⟩
theorem OR.step (ok : Ok K W) (s : Step W W') {a : Addr} {o : O} {ho : HO} (h : OR K W a o ho) : OR K W' a o ho := by
  cases o with
  | lst ds => obtain ⟨vs, e, q⟩ := h; exact ⟨vs, e, q.step ok s⟩
  | dK kvs => obtain ⟨vs, e, q⟩ := h; exact ⟨vs, e, q.step ok s⟩
  | ins C fs => obtain ⟨vs, e, q⟩ := h; exact ⟨vs, e, q.step ok s⟩
  | exc C => exact h
theorem EnvR.step (e : EnvR K W Γ σ) (ok : Ok K W) (s : Step W W') : EnvR K W' Γ σ := ⟨e.len, fun i d h => let ⟨v, a, b⟩ := e.at_ i d h; ⟨v, a, b.step ok s⟩⟩
theorem DRs.length : ∀ {ds : List D} {vs : List V}, DRs K W ds vs → ds.length = vs.length
  | _, _, .nil => rfl
  | _, _, .cons _ t => by simp [t.length]
theorem DRs.get : ∀ {ds : List D} {vs : List V} {i : Nat} {d : D}, DRs K W ds vs → ds[i]? = some d → ∃ v, vs[i]? = some v ∧ DR K W d v
  | _, _, _, _, .nil, e => by simp at e
  | _, _, 0, _, .cons h _, e => by simp at e; subst e; exact ⟨_, rfl, h⟩
  | _, _, i + 1, d, .cons _ t, e => by
    obtain ⟨v, h1, h2⟩ := DRs.get (i := i) (d := d) t (by simpa using e)
    exact ⟨v, by simpa using h1, h2⟩
theorem DRs.append : ∀ {ds es : List D} {vs us : List V}, DRs K W ds vs → DRs K W es us → DRs K W (ds ++ es) (vs ++ us)
  | _, _, _, _, .nil, s => s
  | _, _, _, _, .cons h t, s => .cons h (DRs.append t s)
theorem DRs.take : ∀ {ds : List D} {vs : List V} (n : Nat), DRs K W ds vs → DRs K W (ds.take n) (vs.take n)
  | _, _, 0, _ => .nil
  | _, _, _ + 1, .nil => .nil
  | _, _, n + 1, .cons r t => .cons r (DRs.take n t)
theorem DRs.drop : ∀ {ds : List D} {vs : List V} (n : Nat), DRs K W ds vs → DRs K W (ds.drop n) (vs.drop n)
  | _, _, 0, r => r
  | _, _, _ + 1, .nil => .nil
  | _, _, n + 1, .cons _ t => DRs.drop n t
theorem DRs.set {d : D} {v : V} (r : DR K W d v) : ∀ {ds : List D} {vs : List V} (i : Nat), DRs K W ds vs → DRs K W (ds.set i d) (vs.set i v)
  | _, _, _, .nil => .nil
  | _, _, 0, .cons _ t => .cons r t
  | _, _, i + 1, .cons q t => .cons q (DRs.set r i t)
theorem DRs.erase : ∀ {ds : List D} {vs : List V} (i : Nat), DRs K W ds vs → DRs K W (ds.eraseIdx i) (vs.eraseIdx i)
  | _, _, _, .nil => .nil
  | _, _, 0, .cons _ t => t
  | _, _, i + 1, .cons q t => .cons q (DRs.erase i t)
theorem DRs.reverse {ds : List D} {vs : List V} (h : DRs K W ds vs) : DRs K W ds.reverse vs.reverse := by
  induction ds generalizing vs with
  | nil => cases h; exact .nil
  | cons d r ih =>
    cases h with
    | cons h t => simp only [List.reverse_cons]; exact (ih t).append (.cons h .nil)
theorem DRs.rep {ds : List D} {vs : List V} (h : DRs K W ds vs) : ∀ n, DRs K W (List.replicate n ds).flatten (List.replicate n vs).flatten
  | 0 => .nil
  | n + 1 => by simp only [List.replicate_succ, List.flatten_cons]; exact h.append (DRs.rep h n)
end
section
variable {K : PySem.W.Frag} {W : Wd}
def Wd.lay (W : Wd) (p : Addr) (o : HO) : Wd := { W with H := upd W.H p o }
theorem fresh_nrl (ok : Ok K W) {p : Addr} (h : W.H p = none) : ¬ RL W p := fun ⟨k, o, _, ha⟩ => ok.rs p (List.mem_of_getElem? ha) h
theorem fresh_nhid (ok : Ok K W) {p : Addr} (h : W.H p = none) : ¬ W.hid p := fun z => (ok.hd p z).1 h
theorem fresh_nlive (ok : Ok K W) {p : Addr} (h : W.H p = none) : ¬ Live W p := fun z => z.elim (fresh_nrl ok h) (fresh_nhid ok h)
theorem step_lay {p : Addr} {o : HO} (h : W.H p = none) : Step W (W.lay p o) where
  ρ _ _ h := h
  live _ h := .inl h
  keep a u e _ := by show upd W.H p o a = _; rw [upd_ne (ne_of_none e h)]; exact e
  hid := rfl
  still a n := by
    show upd W.H p o a ≠ none
    by_cases e : a = p
    · subst e; rw [upd_same]; simp
    · rw [upd_ne e]; exact n
theorem ok_lay (ok : Ok K W) {p : Addr} {o : HO} (h : W.H p = none) : Ok K (W.lay p o) where
  len := ok.len
  nd := ok.nd
  rs a m := (step_lay h).still a (ok.rs a m)
  at_ k u e := by
    obtain ⟨a, ho, h1, h2, h3⟩ := ok.at_ k u e
    refine ⟨a, ho, h1, ?_, h3.step ok (step_lay h)⟩
    show upd W.H p o a = _
    rw [upd_ne (ne_of_none h2 h)]; exact h2
  hd0 a z := ⟨(step_lay h).still a (ok.hd a z).1, (ok.hd0 a z).2⟩
theorem nlive_lay (ok : Ok K W) {p : Addr} {o : HO} (h : W.H p = none) : ¬ Live (W.lay p o) p := fresh_nlive ok h
theorem dr_lst (ok : Ok K W) {p : Addr} {ds : List D} {vs : List V} (h : W.H p = none) (r : DRs K W ds vs) : DR K (W.lay p (.lst vs)) (.lst ds) (.ref p) :=
  .lst upd_same (nlive_lay ok h) (r.step ok (step_lay h))
theorem dr_tup (ok : Ok K W) {p : Addr} {ds : List D} {vs : List V} (h : W.H p = none) (r : DRs K W ds vs) : DR K (W.lay p (.tup vs)) (.tup ds) (.ref p) :=
  .tup upd_same (r.step ok (step_lay h))
def Wd.new (W : Wd) (p : Addr) (o : HO) (x : O) : Wd := { W with H := upd W.H p o, ρ := W.ρ ++ [p], μ := W.μ ++ [some x] }
theorem get_snoc {α : Type} {l : List α} {x y : α} {k : Nat} (h : (l ++ [x])[k]? = some y) : l[k]? = some y ∨ (k = l.length ∧ y = x) := by
  by_cases hk : k < l.length
  · rw [List.getElem?_append_left hk] at h; exact .inl h
  · rw [List.getElem?_append_right (by omega)] at h
    have : k - l.length = 0 := by
      cases e : k - l.length with
      | zero => rfl
      | succ n => rw [e] at h; simp at h
    rw [this] at h
    simp at h
    exact .inr ⟨by omega, h.symm⟩
theorem rl_new (ok : Ok K W) {p a : Addr} {o : HO} {x : O} (h : RL (W.new p o x) a) : RL W a ∨ a = p := by
  obtain ⟨k, u, h1, h2⟩ := h
  rcases get_snoc h1 with z | ⟨e, _⟩
  · rcases get_snoc h2 with y | ⟨e, y⟩
    · exact .inl ⟨k, u, z, y⟩
    · have := (List.getElem?_eq_some_iff.mp z).1
      rw [e, ok.len] at this
      omega
  · rcases get_snoc h2 with y | ⟨_, y⟩
    · have := (List.getElem?_eq_some_iff.mp y).1
      rw [e, ← ok.len] at this
      omega
    · exact .inr y
theorem step_new (ok : Ok K W) {p : Addr} {o : HO} {x : O} (h : W.H p = none) : Step W (W.new p o x) where
  ρ k a e := by
    show (W.ρ ++ [p])[k]? = _
    rw [List.getElem?_append_left (List.getElem?_eq_some_iff.mp e).1]; exact e
  live a z := by
    rcases rl_new ok z with z | rfl
    · exact .inl z
    · exact .inr h
  keep a u e _ := by show upd W.H p o a = _; rw [upd_ne (ne_of_none e h)]; exact e
  hid := rfl
  still a n := by
    show upd W.H p o a ≠ none
    by_cases e : a = p
    · subst e; rw [upd_same]; simp
    · rw [upd_ne e]; exact n
theorem ok_new (ok : Ok K W) {p : Addr} {o : HO} {x : O} (h : W.H p = none) (r : OR K W p x o) : Ok K (W.new p o x) where
  len := by show (W.ρ ++ [p]).length = (W.μ ++ [some x]).length; simp [ok.len]
  nd := by
    show (W.ρ ++ [p]).Nodup
    rw [List.nodup_append]
    refine ⟨ok.nd, by simp, fun a ha b hb e => ?_⟩
    simp at hb
    subst hb e
    exact ok.rs _ ha h
  rs a m := by
    rcases List.mem_append.mp m with m | m
    · exact (step_new ok h).still a (ok.rs a m)
    · simp at m
      subst m
      show upd W.H a o a ≠ none
      rw [upd_same]; simp
  at_ k u e := by
    rcases get_snoc e with e | ⟨e, y⟩
    · obtain ⟨a, ho, h1, h2, h3⟩ := ok.at_ k u e
      refine ⟨a, ho, (step_new ok h).ρ k a h1, ?_, h3.step ok (step_new ok h)⟩
      show upd W.H p o a = _
      rw [upd_ne (ne_of_none h2 h)]; exact h2
    · cases y
      rename_i hk
      refine ⟨p, o, ?_, upd_same, r.step ok (step_new ok h)⟩
      show (W.ρ ++ [p])[k]? = _
      rw [hk, ← ok.len]; simp
  hd0 a z := by
    refine ⟨(step_new ok h).still a (ok.hd a z).1, fun q => ?_⟩
    have q : a ∈ W.ρ ++ [p] := q
    rcases List.mem_append.mp q with q | q
    · exact (ok.hd0 a z).2 q
    · simp at q
      subst q
      exact (ok.hd a z).1 h
theorem dr_new (ok : Ok K W) {p : Addr} {o : HO} {x : O} : DR K (W.new p o x) (.ref W.μ.length) (.ref p) := by
  refine .ref ?_
  show (W.ρ ++ [p])[W.μ.length]? = _
  rw [← ok.len]; simp
def Wd.put (W : Wd) (k : Nat) (a : Addr) (o : HO) (x : O) : Wd := { W with H := upd W.H a o, μ := W.μ.set k (some x) }
theorem rl_put {k : Nat} {a b : Addr} {o : HO} {x y : O} (hk : W.μ[k]? = some (some y)) : RL (W.put k a o x) b ↔ RL W b := by
  have hlt := (List.getElem?_eq_some_iff.mp hk).1
  constructor
  · rintro ⟨j, u, h1, h2⟩
    have h1 : (W.μ.set k (some x))[j]? = some (some u) := h1
    by_cases e : j = k
    · subst e; exact ⟨j, y, hk, h2⟩
    · rw [List.getElem?_set_ne (Ne.symm e)] at h1; exact ⟨j, u, h1, h2⟩
  · rintro ⟨j, u, h1, h2⟩
    by_cases e : j = k
    · subst e; exact ⟨j, x, by show (W.μ.set j (some x))[j]? = _; simp [hlt], h2⟩
    · exact ⟨j, u, by show (W.μ.set k (some x))[j]? = _; rw [List.getElem?_set_ne (Ne.symm e)]; exact h1, h2⟩
theorem step_put {k : Nat} {a : Addr} {o : HO} {x y : O} (hk : W.μ[k]? = some (some y)) (ha : W.ρ[k]? = some a) : Step W (W.put k a o x) where
  ρ _ _ h := h
  live b z := .inl ((rl_put hk).mp z)
  keep b u e n := by
    have hne : b ≠ a := fun z => n (by rw [z]; exact ⟨k, y, hk, ha⟩)
    show upd W.H a o b = _
    rw [upd_ne hne]; exact e
  hid := rfl
  still b n := by
    show upd W.H a o b ≠ none
    by_cases e : b = a
    · subst e; rw [upd_same]; simp
    · rw [upd_ne e]; exact n
theorem ok_put (ok : Ok K W) {k : Nat} {a : Addr} {o : HO} {x y : O} (hk : W.μ[k]? = some (some y)) (ha : W.ρ[k]? = some a) (r : OR K W a x o) : Ok K (W.put k a o x) where
  len := by show W.ρ.length = (W.μ.set k (some x)).length; simp [ok.len]
  nd := ok.nd
  rs b m := (step_put hk ha).still b (ok.rs b m)
  at_ j u e := by
    have e : (W.μ.set k (some x))[j]? = some (some u) := e
    by_cases z : j = k
    · subst z
      have hlt := (List.getElem?_eq_some_iff.mp hk).1
      simp [hlt] at e
      subst e
      exact ⟨a, o, ha, upd_same, r.step ok (step_put hk ha)⟩
    · rw [List.getElem?_set_ne (Ne.symm z)] at e
      obtain ⟨b, ho, h1, h2, h3⟩ := ok.at_ j u e
      refine ⟨b, ho, h1, ?_, h3.step ok (step_put hk ha)⟩
      have hne : b ≠ a := fun q => z (nodup_at ok.nd h1 (by rw [q]; exact ha))
      show upd W.H a o b = _
      rw [upd_ne hne]; exact h2
  hd0 b z := ⟨(step_put hk ha).still b (ok.hd b z).1, (ok.hd0 b z).2⟩
def Wd.frz (W : Wd) (k : Nat) : Wd := { W with μ := W.μ.set k none }
def Wd.hide (W : Wd) (p : Addr) (o : HO) : Wd := { W with H := upd W.H p o, hid := fun a => a = p ∨ W.hid a }
end
end L3
set_option Elab.async false
set_option linter.all false
set_option maxRecDepth 100000
namespace L3
open PySem PySem.Spec L2
abbrev EV := G → M → Option (D × M)
abbrev BV := G → M → Option (Bool × M)
abbrev LV := G → M → Option (List D × M)
inductive Out where
  | nx | bk | ct | rt (d : D)
abbrev SV := G → M → Option (Out × G × M)
section
variable (K : PySem.W.Frag)
def tD (ev : EV) : TE := fun σ H Q => ∃ (W : Wd) (Γ : G) (d : D) (μ' : M), W.H = H ∧ Ok K W ∧ EnvR K W Γ σ ∧ ev Γ W.μ = some (d, μ') ∧ ∀ v W', W'.μ = μ' → Ok K W' → Step W W' → DR K W' d v → Q v W'.H
def tDB (ev : BV) : TT := fun σ H Q => ∃ (W : Wd) (Γ : G) (b : Bool) (μ' : M), W.H = H ∧ Ok K W ∧ EnvR K W Γ σ ∧ ev Γ W.μ = some (b, μ') ∧ ∀ W', W'.μ = μ' → Ok K W' → Step W W' → Q b W'.H
def tDL (ev : LV) : TA := fun σ H Q => ∃ (W : Wd) (Γ : G) (ds : List D) (μ' : M), W.H = H ∧ Ok K W ∧ EnvR K W Γ σ ∧ ev Γ W.μ = some (ds, μ') ∧ ∀ vs W', W'.μ = μ' → Ok K W' → Step W W' → DRs K W' ds vs → Q vs W'.H
def fin (D : Ends) (W' : Wd) (σ' : St) : Out → Prop
  | .nx => D.nx σ' W'.H
  | .bk => D.bk σ' W'.H
  | .ct => D.ct σ' W'.H
  | .rt d => ∀ v, DR K W' d v → D.rt v W'.H
def tDS (es : SV) : TS := fun D σ H => ∃ (W : Wd) (Γ : G) (out : Out) (Γ' : G) (μ' : M), W.H = H ∧ Ok K W ∧ EnvR K W Γ σ ∧ es Γ W.μ = some (out, Γ', μ') ∧ ∀ W' σ', W'.μ = μ' → Ok K W' → Step W W' → EnvR K W' Γ' σ' → fin K D W' σ' out
end
section
variable {X : Cx} {e : Expr}
theorem PE_imp {t t' : TE} (h : PE X e t) (hi : ∀ σ H Q, t' σ H Q → t σ H Q) : PE X e t' := fun pins s σ H Q I hw => h pins s σ H Q I (hi _ _ _ hw)
theorem PT_imp {t t' : TT} (h : PT X e t) (hi : ∀ σ H Q, t' σ H Q → t σ H Q) : PT X e t' := fun pins s σ H Q I hw => h pins s σ H Q I (hi _ _ _ hw)
theorem PW_imp {t t' : TT} (h : PW X e t) (hi : ∀ σ H Q, t' σ H Q → t σ H Q) : PW X e t' := fun wh pins s σ H Q I hw => h wh pins s σ H Q I (hi _ _ _ hw)
theorem PA_imp {es : List Expr} {t t' : TA} (h : PA X es t) (hi : ∀ σ H Q, t' σ H Q → t σ H Q) : PA X es t' := fun pos pins s σ H Q I hw => h pos pins s σ H Q I (hi _ _ _ hw)
theorem PS_imp {st : Stmt} {t t' : TS} (h : PS X st t) (hi : ∀ D σ H, t' D σ H → t D σ H) : PS X st t' := fun pins s σ H D I hw => h pins s σ H D I (hi _ _ _ hw)
theorem PSs_imp {st : List Stmt} {t t' : TS} (h : PSs X st t) (hi : ∀ D σ H, t' D σ H → t D σ H) : PSs X st t' := fun pins s σ H D I hw => h pins s σ H D I (hi _ _ _ hw)
end
theorem bnd {α β : Type} {x : Option α} {f : α → Option β} {b : β} (h : x.bind f = some b) : ∃ a, x = some a ∧ f a = some b := Option.bind_eq_some_iff.mp h
def lsOf (μ : M) : D → Option (List D)
  | .lst ds => some ds
  | .scr ds => some ds
  | .ref k => match μ[k]? with
    | some (some (.lst ds)) => some ds
    | _ => none
  | _ => none
def wlOf (μ : M) : D → Option (List D)
  | .lst ds => some ds
  | .ref k => match μ[k]? with
    | some (some (.lst ds)) => some ds
    | _ => none
  | _ => none
def tpOf : D → Option (List D)
  | .tup ds => some ds
  | .gt ds => some ds
  | _ => none
section
variable {K : PySem.W.Frag} {W : Wd} {d : D} {ds : List D} {v : V}
theorem ref_at (ok : Ok K W) {k : Nat} (h : W.μ[k]? = some (some (.lst ds))) (r : DR K W (.ref k) v) : ∃ a vs, v = .ref a ∧ W.ρ[k]? = some a ∧ W.H a = some (.lst vs) ∧ DRs K W ds vs := by
  cases r with
  | ref ha =>
    obtain ⟨a', ho, h1, h2, vs, rfl, r⟩ := ok.at_ k _ h
    rw [ha] at h1
    cases h1
    exact ⟨_, vs, rfl, ha, h2, r⟩
theorem wlOf_at (ok : Ok K W) (h : wlOf W.μ d = some ds) (r : DR K W d v) : ∃ a vs, v = .ref a ∧ W.H a = some (.lst vs) ∧ DRs K W ds vs := by
  cases d with
  | lst xs =>
    cases h
    cases r with
    | lst r n h => exact ⟨_, _, rfl, r, h⟩
  | ref k =>
    simp only [wlOf] at h
    split at h
    · rename_i xs hk
      cases h
      obtain ⟨a, vs, e, _, e2, e3⟩ := ref_at ok hk r
      exact ⟨a, vs, e, e2, e3⟩
    · cases h
  | _ => cases h
theorem lsOf_at (ok : Ok K W) (h : lsOf W.μ d = some ds) (r : DR K W d v) : ∃ a vs, v = .ref a ∧ SqL K W.H a vs ∧ DRs K W ds vs := by
  cases d with
  | lst xs =>
    cases h
    cases r with
    | lst r n h => exact ⟨_, _, rfl, SqL.of r, h⟩
  | scr xs =>
    cases h
    cases r with
    | scr r h => exact ⟨_, _, rfl, r.seq, h⟩
  | ref k =>
    simp only [lsOf] at h
    split at h
    · rename_i xs hk
      cases h
      obtain ⟨a, vs, e, _, e2, e3⟩ := ref_at ok hk r
      exact ⟨a, vs, e, SqL.of e2, e3⟩
    · cases h
  | _ => cases h
theorem tpOf_at (h : tpOf d = some ds) (r : DR K W d v) : ∃ a vs, v = .ref a ∧ SqT K W.H a vs ∧ DRs K W ds vs := by
  cases d with
  | tup xs =>
    cases h
    cases r with
    | tup r h => exact ⟨_, _, rfl, SqT.of r, h⟩
  | gt xs =>
    cases h
    cases r with
    | gt r h => exact ⟨_, _, rfl, r, h⟩
  | _ => cases h
theorem atI_drs {vs : List V} {i : Int} (r : DRs K W ds vs) (h : atI ds i = some d) : ∃ v, atI vs i = some v ∧ DR K W d v := by
  unfold atI at h ⊢
  obtain ⟨j, h1, h2⟩ := bnd h
  rw [r.length] at h1
  obtain ⟨v, e, q⟩ := r.get h2
  exact ⟨v, by rw [h1]; exact e, q⟩
end
def vVar (i : Nat) : EV := fun Γ μ => match Γ[i]? with
  | some (some d) => some (d, μ)
  | _ => none
def vC (d : D) : EV := fun _ μ => some (d, μ)
def v2 (f : D → D → M → Option (D × M)) (ea eb : EV) : EV := fun Γ μ => (ea Γ μ).bind fun p => (eb Γ p.2).bind fun q => f p.1 q.1 q.2
def v1 (f : D → M → Option (D × M)) (ea : EV) : EV := fun Γ μ => (ea Γ μ).bind fun p => f p.1 p.2
def R2A (K : PySem.W.Frag) (r : R2) (f : D → D → M → Option (D × M)) : Prop := ∀ (W : Wd) (x y : V) (d e z : D) (μ' : M) (Q : VK), Ok K W → DR K W d x → DR K W e y → f d e W.μ = some (z, μ') →
  (∀ v W', W'.μ = μ' → Ok K W' → Step W W' → DR K W' z v → Q v W'.H) → r x y W.H Q
def R1A (K : PySem.W.Frag) (r : V → Hp → VK → Prop) (f : D → M → Option (D × M)) : Prop := ∀ (W : Wd) (x : V) (d z : D) (μ' : M) (Q : VK), Ok K W → DR K W d x → f d W.μ = some (z, μ') →
  (∀ v W', W'.μ = μ' → Ok K W' → Step W W' → DR K W' z v → Q v W'.H) → r x W.H Q
def vT (ev : EV) : BV := fun Γ μ => (ev Γ μ).bind fun p => match p.1 with
  | .bl b => some (b, p.2)
  | _ => none
section
variable {X : Cx} {K : PySem.W.Frag} {a b c : Expr} {ea eb ec : EV} {pos : Pos}
theorem x_var (i : Nat) {x : Str} (hN : X.N[i]? = some x := by rfl) (hv : Vis X.env.scope x := by first | exact Or.inl rfl | exact Or.inr (Or.inl rfl) | exact Or.inr (Or.inr rfl)) (hd : (x == ("__debug__" : Str)) = false := by decide)
    (hcd : (x == ("__classdict__" : Str)) = false := by decide) : PE X (.Name x pos) (tD K (vVar i)) := PE_imp (pe_var hN hv hd hcd) fun σ H Q h => by
  obtain ⟨W, Γ, d, μ', rfl, ok, en, e, q⟩ := h
  unfold vVar at e
  split at e
  · rename_i d' hd
    cases e
    obtain ⟨v, hv, r⟩ := en.at_ i _ hd
    exact ⟨v, hv, q v W rfl ok .refl r⟩
  · cases e
theorem tC_imp {d : D} {v : V} (h : ∀ W, DR K W d v) : ∀ σ H Q, tD K (vC d) σ H Q → tC v σ H Q := fun σ H Q hh => by
  obtain ⟨W, Γ, d, μ', rfl, ok, en, e, q⟩ := hh
  cases e
  exact q v W rfl ok .refl (h W)
theorem x_int {i j} : PE X (.Constant (.int i) j pos) (tD K (vC (.int i))) := PE_imp pe_int (tC_imp fun _ => .int i)
theorem x_bl {b j} : PE X (.Constant (.bool b) j pos) (tD K (vC (.bl b))) := PE_imp pe_bl (tC_imp fun _ => .bl b)
theorem x_non {j} : PE X (.Constant .none j pos) (tD K (vC .non)) := PE_imp pe_non (tC_imp fun _ => .non)
theorem x_str {x j} : PE X (.Constant (.str x) j pos) (tD K (vC (.str x))) := PE_imp pe_str (tC_imp fun _ => .str x)
theorem t2_imp {r : R2} {f : D → D → M → Option (D × M)} (ra : R2A K r f) : ∀ σ H Q, tD K (v2 f ea eb) σ H Q → tOp r (tD K ea) (tD K eb) σ H Q := fun σ H Q h => by
  obtain ⟨W, Γ, d, μ', rfl, ok, en, e, q⟩ := h
  obtain ⟨p1, e1, e⟩ := bnd e
  obtain ⟨p2, e2, e⟩ := bnd e
  refine ⟨W, Γ, p1.1, p1.2, rfl, ok, en, e1, fun x W1 hμ ok1 s1 r1 => ⟨W1, Γ, p2.1, p2.2, rfl, ok1, en.step ok s1, by rw [hμ]; exact e2, fun y W2 hμ2 ok2 s2 r2 => ?_⟩⟩
  exact ra W2 x y _ _ _ _ Q ok2 (r1.step ok1 s2) r2 (by rw [hμ2]; exact e) fun v W3 hμ3 ok3 s3 r3 => q v W3 hμ3 ok3 ((s1.trans s2).trans s3) r3
theorem t1_imp {r : V → Hp → VK → Prop} {f : D → M → Option (D × M)} (ra : R1A K r f) : ∀ σ H Q, tD K (v1 f ea) σ H Q → (fun σ H Q => tD K ea σ H fun x H1 => r x H1 Q : TE) σ H Q := fun σ H Q h => by
  obtain ⟨W, Γ, d, μ', rfl, ok, en, e, q⟩ := h
  obtain ⟨p1, e1, e⟩ := bnd e
  refine ⟨W, Γ, p1.1, p1.2, rfl, ok, en, e1, fun x W1 hμ ok1 s1 r1 => ?_⟩
  exact ra W1 x _ _ _ Q ok1 r1 (by rw [hμ]; exact e) fun v W3 hμ3 ok3 s3 r3 => q v W3 hμ3 ok3 (s1.trans s3) r3
theorem x_op {op : Operator} {r : R2} {f : D → D → M → Option (D × M)} (ho : OpR X (binaryOp op) r) (ra : R2A K r f) (ha : PE X a (tD K ea)) (hb : PE X b (tD K eb)) : PE X (.BinOp a op b pos) (tD K (v2 f ea eb)) := PE_imp (pe_op ho ha hb) (t2_imp ra)
theorem x_cmp {op : CmpOp} {r : R2} {f : D → D → M → Option (D × M)} (ho : OpR X (compareOp op) r) (ra : R2A K r f) (ha : PE X a (tD K ea)) (hb : PE X b (tD K eb)) (hm : behindInMarks op b = false) : PE X (.Compare a [op] [b] pos) (tD K (v2 f ea eb)) := PE_imp (pe_cmpR ho ha hb hm) (t2_imp ra)
theorem vT_imp {t : TE} (h : ∀ σ H Q, tD K ea σ H Q → t σ H Q) : ∀ σ H Q, tDB K (vT ea) σ H Q → tTest t σ H Q := fun σ H Q hh => by
  obtain ⟨W, Γ, k, μ', rfl, ok, en, e, q⟩ := hh
  obtain ⟨p1, e1, e⟩ := bnd e
  refine h σ _ _ ⟨W, Γ, p1.1, p1.2, rfl, ok, en, e1, fun x W1 hμ ok1 s1 r1 => ?_⟩
  split at e
  · rename_i k' hk
    cases e
    rw [hk] at r1
    cases r1
    exact ⟨_, rfl, q W1 hμ ok1 s1⟩
  · cases e
theorem x_cmpT {op : CmpOp} {r : R2} {f : D → D → M → Option (D × M)} (ho : OpR X (compareOp op) r) (ra : R2A K r f) (ha : PE X a (tD K ea)) (hb : PE X b (tD K eb)) (hm : behindInMarks op b = false) : PT X (.Compare a [op] [b] pos) (tDB K (vT (v2 f ea eb))) := PT_imp (pt_cmpR ho ha hb hm) (vT_imp (t2_imp ra))
end
def fI0 (g : Int → Int → D) : D → D → M → Option (D × M)
  | .int i, .int j, μ => some (g i j, μ)
  | _, _, _ => none
def fI (C : Int → Int → Prop) [∀ i j, Decidable (C i j)] (g : Int → Int → D) : D → D → M → Option (D × M)
  | .int i, .int j, μ => if C i j then some (g i j, μ) else none
  | _, _, _ => none
section
variable {K : PySem.W.Frag}
theorem ra_I0 {g : Int → Int → V} {h : Int → Int → D} (hh : ∀ W i j, DR K W (h i j) (g i j)) : R2A K (rI0 g) (fI0 h) := by
  intro W x y d e z μ' Q ok r1 r2 hf q
  unfold fI0 at hf
  split at hf
  · cases hf; cases r1; cases r2; exact ⟨_, _, rfl, rfl, q _ W rfl ok .refl (hh W _ _)⟩
  · cases hf
theorem ra_I {C : Int → Int → Prop} [∀ i j, Decidable (C i j)] {g : Int → Int → V} {h : Int → Int → D} (hh : ∀ W i j, DR K W (h i j) (g i j)) : R2A K (rI C g) (fI C h) := by
  intro W x y d e z μ' Q ok r1 r2 hf q
  unfold fI at hf
  split at hf
  · split at hf
    · rename_i hc; cases hf; cases r1; cases r2; exact ⟨_, _, rfl, rfl, hc, q _ W rfl ok .refl (hh W _ _)⟩
    · cases hf
  · cases hf
end
instance {i j : Int} : Decidable (CMul i j) := by unfold CMul; infer_instance
instance {i j : Int} : Decidable (CPow i j) := by unfold CPow; infer_instance
def CDivW (_ j : Int) : Prop := 0 < j ∧ j < 2 ^ 200
def CPos (_ j : Int) : Prop := 0 < j
instance {i j : Int} : Decidable (CDivW i j) := by unfold CDivW; infer_instance
instance {i j : Int} : Decidable (CPos i j) := by unfold CPos; infer_instance
section
variable {X : Cx} {K : PySem.W.Frag} {a b c : Expr} {ea eb ec : EV} {pos : Pos}
abbrev fDiv := fI CDivW fun i j => .int (i / j)
abbrev fMod := fI CPos fun i j => .int (i % j)
abbrev fPow := fI CPow fun i j => .int (i ^ j.toNat)
abbrev fLt := fI0 fun i j => .bl (decide (i < j))
abbrev fGt := fI0 fun i j => .bl (decide (j < i))
abbrev fGe := fI0 fun i j => .bl (decide (j ≤ i))
theorem x_fdiv (ha : PE X a (tD K ea)) (hb : PE X b (tD K eb)) : PE X (.BinOp a .FloorDiv b pos) (tD K (v2 fDiv ea eb)) := x_op op_fdivW (ra_I (C := CDivW) fun _ _ _ => .int _) ha hb
theorem x_mod (ha : PE X a (tD K ea)) (hb : PE X b (tD K eb)) : PE X (.BinOp a .Mod b pos) (tD K (v2 fMod ea eb)) := x_op op_mod (ra_I (C := CPos) fun _ _ _ => .int _) ha hb
theorem x_pow (ha : PE X a (tD K ea)) (hb : PE X b (tD K eb)) : PE X (.BinOp a .Pow b pos) (tD K (v2 fPow ea eb)) := x_op op_pow (ra_I fun _ _ _ => .int _) ha hb
theorem x_ltT (ha : PE X a (tD K ea)) (hb : PE X b (tD K eb)) : PT X (.Compare a [.Lt] [b] pos) (tDB K (vT (v2 fLt ea eb))) := x_cmpT op_lt (ra_I0 fun _ _ _ => .bl _) ha hb (nomark _)
theorem x_gtT (ha : PE X a (tD K ea)) (hb : PE X b (tD K eb)) : PT X (.Compare a [.Gt] [b] pos) (tDB K (vT (v2 fGt ea eb))) := x_cmpT op_gt (ra_I0 fun _ _ _ => .bl _) ha hb (nomark _)
theorem x_geT (ha : PE X a (tD K ea)) (hb : PE X b (tD K eb)) : PT X (.Compare a [.GtE] [b] pos) (tDB K (vT (v2 fGe ea eb))) := x_cmpT op_ge (ra_I0 fun _ _ _ => .bl _) ha hb (nomark _)
def fNeg : D → M → Option (D × M)
  | .int i, μ => some (.int (-i), μ)
  | _, _ => none
theorem x_neg (ha : PE X a (tD K ea)) : PE X (.UnaryOp .USub a pos) (tD K (v1 fNeg ea)) := PE_imp (pe_un un_neg ha) (t1_imp (by
  intro W x d z μ' Q ok r1 hf q
  unfold fNeg at hf
  split at hf
  · cases hf; cases r1; exact ⟨_, rfl, q _ W rfl ok .refl (.int _)⟩
  · cases hf))
def bAnd (t u : BV) : BV := fun Γ μ => (t Γ μ).bind fun p => if p.1 = true then u Γ p.2 else some (false, p.2)
def bOr (t u : BV) : BV := fun Γ μ => (t Γ μ).bind fun p => if p.1 = true then some (true, p.2) else u Γ p.2
def bNot (t : BV) : BV := fun Γ μ => (t Γ μ).bind fun p => some (!p.1, p.2)
variable {ba bb : BV} {rest : List Expr}
theorem bAnd_imp : ∀ σ H Q, tDB K (bAnd ba bb) σ H Q → tAnd (tDB K ba) (tDB K bb) σ H Q := fun σ H Q h => by
  obtain ⟨W, Γ, k, μ', rfl, ok, en, e, q⟩ := h
  obtain ⟨p1, e1, e⟩ := bnd e
  refine ⟨W, Γ, p1.1, p1.2, rfl, ok, en, e1, fun W1 hμ ok1 s1 => ?_⟩
  split at e
  · rename_i hp; rw [if_pos hp]; exact ⟨W1, Γ, k, μ', rfl, ok1, en.step ok s1, by rw [hμ]; exact e, fun W2 hμ2 ok2 s2 => q W2 hμ2 ok2 (s1.trans s2)⟩
  · rename_i hp; cases e; rw [if_neg hp]; exact q W1 hμ ok1 s1
theorem bOr_imp : ∀ σ H Q, tDB K (bOr ba bb) σ H Q → tOr (tDB K ba) (tDB K bb) σ H Q := fun σ H Q h => by
  obtain ⟨W, Γ, k, μ', rfl, ok, en, e, q⟩ := h
  obtain ⟨p1, e1, e⟩ := bnd e
  refine ⟨W, Γ, p1.1, p1.2, rfl, ok, en, e1, fun W1 hμ ok1 s1 => ?_⟩
  split at e
  · rename_i hp; cases e; rw [if_pos hp]; exact q W1 hμ ok1 s1
  · rename_i hp; rw [if_neg hp]; exact ⟨W1, Γ, k, μ', rfl, ok1, en.step ok s1, by rw [hμ]; exact e, fun W2 hμ2 ok2 s2 => q W2 hμ2 ok2 (s1.trans s2)⟩
theorem xw_and1 (ha : PT X a (tDB K ba)) : PW X (.BoolOp .And [a] pos) (tDB K ba) := pw_and1 ha
theorem xw_or1 (ha : PT X a (tDB K ba)) : PW X (.BoolOp .Or [a] pos) (tDB K ba) := pw_or1 ha
theorem xw_and (ha : PT X a (tDB K ba)) (hb : PW X (.BoolOp .And (b :: rest) pos) (tDB K bb)) : PW X (.BoolOp .And (a :: b :: rest) pos) (tDB K (bAnd ba bb)) := PW_imp (pw_and ha hb) bAnd_imp
theorem xw_or (ha : PT X a (tDB K ba)) (hb : PW X (.BoolOp .Or (b :: rest) pos) (tDB K bb)) : PW X (.BoolOp .Or (a :: b :: rest) pos) (tDB K (bOr ba bb)) := PW_imp (pw_or ha hb) bOr_imp
theorem x_notT (ha : PT X a (tDB K ba)) : PT X (.UnaryOp .Not a pos) (tDB K (bNot ba)) := PT_imp (pt_not ha) fun σ H Q h => by
  obtain ⟨W, Γ, k, μ', rfl, ok, en, e, q⟩ := h
  obtain ⟨p1, e1, e⟩ := bnd e
  cases e
  exact ⟨W, Γ, p1.1, p1.2, rfl, ok, en, e1, fun W1 hμ ok1 s1 => q W1 hμ ok1 s1⟩
def vIf (t : BV) (ea eb : EV) : EV := fun Γ μ => (t Γ μ).bind fun p => if p.1 = true then ea Γ p.2 else eb Γ p.2
def vAnd (ea eb : EV) : EV := fun Γ μ => (ea Γ μ).bind fun p => match p.1 with
  | .bl true => eb Γ p.2
  | .bl false => some (.bl false, p.2)
  | _ => none
def vOr (ea eb : EV) : EV := fun Γ μ => (ea Γ μ).bind fun p => match p.1 with
  | .bl true => some (.bl true, p.2)
  | .bl false => eb Γ p.2
  | _ => none
def fNot : D → M → Option (D × M)
  | .bl b, μ => some (.bl (!b), μ)
  | _, _ => none
theorem x_one {op} (h : PE X a (tD K ea)) : PE X (.BoolOp op [a] pos) (tD K ea) := pe_one h
theorem x_and (ha : PE X a (tD K ea)) (hb : PE X (.BoolOp .And (b :: rest) pos) (tD K eb)) : PE X (.BoolOp .And (a :: b :: rest) pos) (tD K (vAnd ea eb)) := PE_imp (pe_and ha hb) fun σ H Q h => by
  obtain ⟨W, Γ, d, μ', rfl, ok, en, e, q⟩ := h
  obtain ⟨p1, e1, e⟩ := bnd e
  refine ⟨W, Γ, p1.1, p1.2, rfl, ok, en, e1, fun x W1 hμ ok1 s1 r1 => ?_⟩
  split at e
  · rename_i hp; rw [hp] at r1; cases r1; exact ⟨true, rfl, iteT ⟨W1, Γ, d, μ', rfl, ok1, en.step ok s1, by rw [hμ]; exact e, fun v W2 hμ2 ok2 s2 r2 => q v W2 hμ2 ok2 (s1.trans s2) r2⟩⟩
  · rename_i hp; rw [hp] at r1; cases r1; cases e; exact ⟨false, rfl, iteF (q _ W1 hμ ok1 s1 (.bl _))⟩
  · cases e
theorem x_not (ha : PE X a (tD K ea)) : PE X (.UnaryOp .Not a pos) (tD K (v1 fNot ea)) := PE_imp (pe_not ha) (t1_imp (by
  intro W x d z μ' Q ok r1 hf q
  unfold fNot at hf
  split at hf
  · cases hf; cases r1; exact ⟨_, rfl, q _ W rfl ok .refl (.bl _)⟩
  · cases hf))
end
end L3
set_option Elab.async false
set_option linter.all false
set_option maxRecDepth 100000
namespace L3
open PySem PySem.Spec L2
def optAll {α β : Type} (f : α → Option β) : List α → Option (List β)
  | [] => some []
  | x :: r => (f x).bind fun y => (optAll f r).bind fun ys => some (y :: ys)
section
variable {X : Cx} {K : PySem.W.Frag} {a b c e : Expr} {ea eb ec : EV} {pos p : Pos} {es : List Expr} {el : LV}
def lNil : LV := fun _ μ => some ([], μ)
def lCons (ea : EV) (el : LV) : LV := fun Γ μ => (ea Γ μ).bind fun p => (el Γ p.2).bind fun q => some (p.1 :: q.1, q.2)
theorem xa_nil : PA X [] (tDL K lNil) := PA_imp pa_nil fun σ H Q h => by
  obtain ⟨W, Γ, ds, μ', rfl, ok, en, e, q⟩ := h
  cases e
  exact q [] W rfl ok .refl .nil
theorem lCons_imp : ∀ σ H Q, tDL K (lCons ea el) σ H Q → tCons (tD K ea) (tDL K el) σ H Q := fun σ H Q h => by
  obtain ⟨W, Γ, ds, μ', rfl, ok, en, e, q⟩ := h
  obtain ⟨p1, e1, e⟩ := bnd e
  obtain ⟨p2, e2, e⟩ := bnd e
  cases e
  exact ⟨W, Γ, p1.1, p1.2, rfl, ok, en, e1, fun x W1 hμ ok1 s1 r1 => ⟨W1, Γ, p2.1, p2.2, rfl, ok1, en.step ok s1, by rw [hμ]; exact e2, fun vs W2 hμ2 ok2 s2 r2 => q _ W2 hμ2 ok2 (s1.trans s2) (.cons (r1.step ok1 s2) r2)⟩⟩
theorem xa_cons (ha : PE X e (tD K ea)) (hr : PA X es (tDL K el)) (hs : starEach (e :: es) X.env = (false, eval e X.env) :: starEach es X.env := by rfl) : PA X (e :: es) (tDL K (lCons ea el)) := PA_imp (pa_cons ha hr hs) lCons_imp
def RLA (K : PySem.W.Frag) (r : List V → Hp → VK → Prop) (f : List D → M → Option (D × M)) : Prop := ∀ (W : Wd) (xs : List V) (ds : List D) (z : D) (μ' : M) (Q : VK), Ok K W → DRs K W ds xs → f ds W.μ = some (z, μ') →
  (∀ v W', W'.μ = μ' → Ok K W' → Step W W' → DR K W' z v → Q v W'.H) → r xs W.H Q
def vL (f : List D → M → Option (D × M)) (el : LV) : EV := fun Γ μ => (el Γ μ).bind fun p => f p.1 p.2
theorem tL_imp {r : List V → Hp → VK → Prop} {f : List D → M → Option (D × M)} (ra : RLA K r f) : ∀ σ H Q, tD K (vL f el) σ H Q → (fun σ H Q => tDL K el σ H fun vs H1 => r vs H1 Q : TE) σ H Q := fun σ H Q h => by
  obtain ⟨W, Γ, d, μ', rfl, ok, en, e, q⟩ := h
  obtain ⟨p1, e1, e⟩ := bnd e
  exact ⟨W, Γ, p1.1, p1.2, rfl, ok, en, e1, fun vs W1 hμ ok1 s1 r1 => ra W1 vs _ _ _ Q ok1 r1 (by rw [hμ]; exact e) fun v W3 hμ3 ok3 s3 r3 => q v W3 hμ3 ok3 (s1.trans s3) r3⟩
def fLst (ds : List D) (μ : M) : Option (D × M) := if ds.length ≤ 1000 then some (.lst ds, μ) else none
def fTup (ds : List D) (μ : M) : Option (D × M) := if ds.length ≤ 1000 then some (.tup ds, μ) else none
def fNew (ds : List D) (μ : M) : Option (D × M) := if ds.length ≤ 1000 then some (.ref μ.length, μ ++ [some (.lst ds)]) else none
theorem ra_lst : RLA K (fun xs H1 Q => xs.length ≤ sizeLine ∧ ∀ p, H1 p = none → Q (.ref p) (upd H1 p (.lst xs))) fLst := by
  intro W xs ds z μ' Q ok r hf q
  unfold fLst at hf
  split at hf
  · rename_i hl
    cases hf
    exact ⟨le_line (by rw [← r.length]; omega), fun p hp => q _ (W.lay p (.lst xs)) rfl (ok_lay ok hp) (step_lay hp) (dr_lst ok hp r)⟩
  · cases hf
theorem ra_tup : RLA K (fun xs H1 Q => xs.length ≤ sizeLine ∧ ∀ p, H1 p = none → Q (.ref p) (upd H1 p (.tup xs))) fTup := by
  intro W xs ds z μ' Q ok r hf q
  unfold fTup at hf
  split at hf
  · rename_i hl
    cases hf
    exact ⟨le_line (by rw [← r.length]; omega), fun p hp => q _ (W.lay p (.tup xs)) rfl (ok_lay ok hp) (step_lay hp) (dr_tup ok hp r)⟩
  · cases hf
theorem ra_new : RLA K (fun xs H1 Q => xs.length ≤ sizeLine ∧ ∀ p, H1 p = none → Q (.ref p) (upd H1 p (.lst xs))) fNew := by
  intro W xs ds z μ' Q ok r hf q
  unfold fNew at hf
  split at hf
  · rename_i hl
    cases hf
    exact ⟨le_line (by rw [← r.length]; omega), fun p hp => q _ (W.new p (.lst xs) (.lst ds)) rfl (ok_new ok hp ⟨xs, rfl, r⟩) (step_new ok hp) (dr_new ok)⟩
  · cases hf
theorem x_lst (h : PA X es (tDL K el)) : PE X (.List es pos) (tD K (vL fLst el)) := PE_imp (pe_lst h) (tL_imp ra_lst)
theorem x_new (h : PA X es (tDL K el)) : PE X (.List es pos) (tD K (vL fNew el)) := PE_imp (pe_lst h) (tL_imp ra_new)
theorem x_tup {k} (h : PA X es (tDL K el)) : PE X (.Tuple es k pos) (tD K (vL fTup el)) := PE_imp (pe_tup h) (tL_imp ra_tup)
def fIx (x y : D) (μ : M) : Option (D × M) := match y with
  | .int i => match lsOf μ x with
    | some ds => (atI ds i).bind fun d => some (d, μ)
    | none => match tpOf x with
      | some ds => (atI ds i).bind fun d => some (d, μ)
      | none => none
  | _ => none
theorem ra_ix : R2A K (rIx K) fIx := by
  intro W x y d e z μ' Q ok r1 r2 hf q
  unfold fIx at hf
  split at hf
  · cases r2
    split at hf
    · rename_i ds hd
      obtain ⟨u, hu, hf⟩ := bnd hf
      cases hf
      obtain ⟨a, vs, rfl, hs, hv⟩ := lsOf_at ok hd r1
      obtain ⟨v, hv1, hv2⟩ := atI_drs hv hu
      exact .inl ⟨a, vs, _, v, rfl, rfl, hs, hv1, q v W rfl ok .refl hv2⟩
    · split at hf
      · rename_i ds hd
        obtain ⟨u, hu, hf⟩ := bnd hf
        cases hf
        obtain ⟨a, vs, rfl, hs, hv⟩ := tpOf_at hd r1
        obtain ⟨v, hv1, hv2⟩ := atI_drs hv hu
        exact .inr (.inl ⟨a, vs, _, v, rfl, rfl, hs, hv1, q v W rfl ok .refl hv2⟩)
      · cases hf
  · cases hf
theorem x_ix (ha : PE X a (tD K ea)) (hb : PE X b (tD K eb)) (hs : PlainIx b := by exact fun _ _ => rfl) (hK : X.K = K := by rfl) : PE X (.Subscript a b pos) (tD K (v2 fIx ea eb)) := by
  subst hK; exact PE_imp (pe_ix ix_seq ha hb hs) (t2_imp ra_ix)
abbrev OV := G → M → Option (Option Int × M)
def oNone : OV := fun _ μ => some (none, μ)
def oSome (ea : EV) : OV := fun Γ μ => (ea Γ μ).bind fun p => match p.1 with
  | .int i => some (some i, p.2)
  | _ => none
def cutD (xs : List D) (lo hi : Option Int) : List D := (xs.drop (HT.sIx xs.length 0 lo)).take (HT.sIx xs.length xs.length hi - HT.sIx xs.length 0 lo)
def fSl (x : D) (lo hi : Option Int) (μ : M) : Option (D × M) := match lsOf μ x with
  | some ds => some (.lst (cutD ds lo hi), μ)
  | none => match tpOf x with
    | some ds => if HT.sIx ds.length 0 lo = 0 ∧ HT.sIx ds.length ds.length hi = ds.length then none else some (.tup (cutD ds lo hi), μ)
    | none => none
def vSl (ea : EV) (lo hi : OV) : EV := fun Γ μ => (ea Γ μ).bind fun p => (lo Γ p.2).bind fun l => (hi Γ l.2).bind fun h => fSl p.1 l.1 h.1 h.2
def fRev (x : D) (μ : M) : Option (D × M) := match lsOf μ x with
  | some ds => some (.lst ds.reverse, μ)
  | none => none
def fCat (x y : D) (μ : M) : Option (D × M) := (wlOf μ x).bind fun xs => (wlOf μ y).bind fun ys => if xs.length + ys.length ≤ 1000000 then some (.lst (xs ++ ys), μ) else none
def fRep (x y : D) (μ : M) : Option (D × M) := (wlOf μ x).bind fun xs => match y with
  | .int k => if -1000000 ≤ k ∧ k ≤ 1000000 ∧ xs.length * k.toNat ≤ 1000000 then some (.lst (List.replicate k.toNat xs).flatten, μ) else none
  | _ => none
def fLen (x : D) (μ : M) : Option (D × M) := match lsOf μ x with
  | some ds => some (.int ds.length, μ)
  | none => match tpOf x with
    | some ds => some (.int ds.length, μ)
    | none => none
theorem x_len (ml : X.mg "len" = none) (ha : PE X a (tD K ea)) (hg : Gl X "len" := by rfl) (hs : starEach [a] X.env = [(false, eval a X.env)] := by rfl) (hK : X.K = K := by rfl) : PE X (.Call (.Name "len" p) [a] [] pos) (tD K (v1 fLen ea)) := PE_imp (eLen K ml ha hg hs hK) (t1_imp (by
  intro W x d z μ' Q ok r1 hf q
  unfold fLen at hf
  split at hf
  · rename_i ds hd
    cases hf
    obtain ⟨a, vs, rfl, hs, hv⟩ := lsOf_at ok hd r1
    exact ⟨a, vs, rfl, .inl hs, by rw [← hv.length]; exact q _ W rfl ok .refl (.int _)⟩
  · split at hf
    · rename_i ds hd
      cases hf
      obtain ⟨a, vs, rfl, hs, hv⟩ := tpOf_at hd r1
      exact ⟨a, vs, rfl, .inr hs, by rw [← hv.length]; exact q _ W rfl ok .refl (.int _)⟩
    · cases hf))
def sqOf (μ : M) (x : D) : Option (List D) := match lsOf μ x with
  | some ds => some ds
  | none => tpOf x
theorem sqOf_at {W : Wd} {d : D} {ds : List D} {v : V} (ok : Ok K W) (h : sqOf W.μ d = some ds) (r : DR K W d v) : ∃ a vs, v = .ref a ∧ (SqL K W.H a vs ∨ SqT K W.H a vs) ∧ DRs K W ds vs := by
  unfold sqOf at h
  split at h
  · rename_i ds' hd
    cases h
    obtain ⟨a, vs, e, hs, hv⟩ := lsOf_at ok hd r
    exact ⟨a, vs, e, .inl hs, hv⟩
  · obtain ⟨a, vs, e, hs, hv⟩ := tpOf_at h r
    exact ⟨a, vs, e, .inr hs, hv⟩
def fList (x : D) (μ : M) : Option (D × M) := (sqOf μ x).bind fun ds => some (.lst ds, μ)
def fListM (x : D) (μ : M) : Option (D × M) := (sqOf μ x).bind fun ds => some (.ref μ.length, μ ++ [some (.lst ds)])
theorem x_listM (ml : X.mg "list" = none) (ha : PE X a (tD K ea)) (hg : Gl X "list" := by rfl) (hs : starEach [a] X.env = [(false, eval a X.env)] := by rfl) (hK : X.K = K := by rfl) : PE X (.Call (.Name "list" p) [a] [] pos) (tD K (v1 fListM ea)) := PE_imp (eList K ml ha hg hs hK) (t1_imp (by
  intro W x d z μ' Q ok r1 hf q
  obtain ⟨ds, hd, hf⟩ := bnd hf
  cases hf
  obtain ⟨a, vs, rfl, hs, hv⟩ := sqOf_at ok hd r1
  exact ⟨a, vs, rfl, hs, fun p hp => q _ (W.new p (.lst vs) (.lst ds)) rfl (ok_new ok hp ⟨vs, rfl, hv⟩) (step_new ok hp) (dr_new ok)⟩))
def fIntB : D → M → Option (D × M)
  | .bl k, μ => some (.int (if k then 1 else 0), μ)
  | _, _ => none
end
end L3
set_option Elab.async false
set_option linter.all false
set_option maxRecDepth 100000
namespace L3
open PySem PySem.Spec L2
def py : Nat → M → D → Option PyData
  | 0, _, _ => none
  | n + 1, μ, d => match d with
    | .non => some .none
    | .bl b => some (.bool b)
    | .int i => some (.int i)
    | .str x => some (.str x)
    | .lst xs => (optAll (py n μ) xs).bind fun ys => some (.list ys)
    | .scr xs => (optAll (py n μ) xs).bind fun ys => some (.list ys)
    | .tup xs => (optAll (py n μ) xs).bind fun ys => some (.tuple ys)
    | .gt xs => (optAll (py n μ) xs).bind fun ys => some (.tuple ys)
    | .ref k => match μ[k]? with
      | some (some (.lst xs)) => (optAll (py n μ) xs).bind fun ys => some (.list ys)
      | _ => none
theorem dps_all {K : PySem.W.Frag} {W : Wd} {f : D → Option PyData} (h : ∀ d v pd, DR K W d v → f d = some pd → Dp K W.H v pd) : ∀ {xs : List D} {vs : List V} {ys : List PyData}, DRs K W xs vs → optAll f xs = some ys → Dps K W.H vs ys
  | _, _, _, .nil, e => by cases e; exact .nil
  | _, _, _, .cons r t, e => by
    obtain ⟨y, e1, e⟩ := bnd e
    obtain ⟨ys, e2, e⟩ := bnd e
    cases e
    exact .cons (h _ _ _ r e1) (dps_all h t e2)
theorem py_dp {K : PySem.W.Frag} {W : Wd} (ok : Ok K W) : ∀ (n : Nat) (d : D) (v : V) (pd : PyData), DR K W d v → py n W.μ d = some pd → Dp K W.H v pd
  | 0, _, _, _, _, e => by cases e
  | n + 1, d, v, pd, r, e => by
    cases d with
    | non => cases e; cases r; exact .non
    | bl b => cases e; cases r; exact .bl b
    | int i => cases e; cases r; exact .int i
    | str x => cases e; cases r; exact .str x
    | lst xs =>
      obtain ⟨ys, e1, e⟩ := bnd e
      cases e
      cases r with
      | lst h _ hs => exact .lst (SqL.of h) (dps_all (py_dp ok n) hs e1)
    | scr xs =>
      obtain ⟨ys, e1, e⟩ := bnd e
      cases e
      cases r with
      | scr h hs => exact .lst h.seq (dps_all (py_dp ok n) hs e1)
    | tup xs =>
      obtain ⟨ys, e1, e⟩ := bnd e
      cases e
      cases r with
      | tup h hs => exact .tup (SqT.of h) (dps_all (py_dp ok n) hs e1)
    | gt xs =>
      obtain ⟨ys, e1, e⟩ := bnd e
      cases e
      cases r with
      | gt h hs => exact .tup h (dps_all (py_dp ok n) hs e1)
    | ref k =>
      simp only [py] at e
      split at e
      · rename_i xs hk
        obtain ⟨ys, e1, e⟩ := bnd e
        cases e
        obtain ⟨a, vs, rfl, _, h, hs⟩ := ref_at ok hk r
        exact .lst (SqL.of h) (dps_all (py_dp ok n) hs e1)
      · cases e
def eqD (x y : D) (μ : M) : Option Bool := match x, y with
  | .int i, .int j => some (decide (i = j))
  | .str a, .str b => if PyData.strOk a && PyData.strOk b then some (decide (a = b)) else none
  | x, y => (py 65 μ x).bind fun d => (py 65 μ y).bind fun e => if (d.canLay0 && e.canLay0 && decide (d.depth ≤ 64)) = true then some (PyData.eqv d e) else none
theorem eqD_at {K : PySem.W.Frag} {W : Wd} {x y : D} {v u : V} {b : Bool} (ok : Ok K W) (rx : DR K W x v) (ry : DR K W y u) (h : eqD x y W.μ = some b) : ∃ d e, Dp K W.H v d ∧ Dp K W.H u e ∧ (d.canLay0 && e.canLay0 && decide (d.depth ≤ 64)) = true ∧ PyData.eqv d e = b := by
  unfold eqD at h
  split at h
  · cases h
    cases rx; cases ry
    exact ⟨_, _, .int _, .int _, by simp [PyData.canLay0, PyData.depth], by simp [PyData.eqv]; rw [Bool.eq_iff_iff]; simp⟩
  · split at h
    · rename_i hs
      cases h
      cases rx; cases ry
      refine ⟨_, _, .str _, .str _, by simpa [PyData.canLay0, PyData.depth] using hs, by simp [PyData.eqv]; rw [Bool.eq_iff_iff]; simp⟩
    · cases h
  · obtain ⟨d, e1, h⟩ := bnd h
    obtain ⟨e, e2, h⟩ := bnd h
    split at h
    · rename_i hc
      cases h
      exact ⟨d, e, py_dp ok _ _ _ _ rx e1, py_dp ok _ _ _ _ ry e2, hc, rfl⟩
    · cases h
def fEq (x y : D) (μ : M) : Option (D × M) := (eqD x y μ).bind fun b => some (.bl b, μ)
def fNe (x y : D) (μ : M) : Option (D × M) := (eqD x y μ).bind fun b => some (.bl (!b), μ)
section
variable {X : Cx} {K : PySem.W.Frag} {a b c e : Expr} {ea eb ec : EV} {ba bb : BV} {pos p : Pos} {es : List Expr} {el : LV} {k : Nat}
theorem ra_eq : R2A K (fun x y H Q => ∃ d e, Dp K H x d ∧ Dp K H y e ∧ (d.canLay0 && e.canLay0 && decide (d.depth ≤ 64)) = true ∧ Q (.bl (PyData.eqv d e)) H) fEq := by
  intro W x y d e z μ' Q ok r1 r2 hf q
  obtain ⟨b, hb, hf⟩ := bnd hf
  cases hf
  obtain ⟨d', e', h1, h2, h3, h4⟩ := eqD_at ok r1 r2 hb
  exact ⟨d', e', h1, h2, h3, by rw [h4]; exact q _ W rfl ok .refl (.bl _)⟩
theorem ra_ne : R2A K (fun x y H Q => ∃ d e, Dp K H x d ∧ Dp K H y e ∧ (d.canLay0 && e.canLay0 && decide (d.depth ≤ 64)) = true ∧ Q (.bl (!PyData.eqv d e)) H) fNe := by
  intro W x y d e z μ' Q ok r1 r2 hf q
  obtain ⟨b, hb, hf⟩ := bnd hf
  cases hf
  obtain ⟨d', e', h1, h2, h3, h4⟩ := eqD_at ok r1 r2 hb
  exact ⟨d', e', h1, h2, h3, by rw [h4]; exact q _ W rfl ok .refl (.bl _)⟩
theorem x_eq (hr : Room k X.A) (ha : PE X a (tD K ea)) (hb : PE X b (tD K eb)) (hK : X.K = K := by rfl) : PE X (.Compare a [.Eq] [b] pos) (tD K (v2 fEq ea eb)) := by
  subst hK; exact x_cmp (op_eqD hr.units) ra_eq ha hb (nomark _)
theorem x_eqT (hr : Room k X.A) (ha : PE X a (tD K ea)) (hb : PE X b (tD K eb)) (hK : X.K = K := by rfl) : PT X (.Compare a [.Eq] [b] pos) (tDB K (vT (v2 fEq ea eb))) := by
  subst hK; exact x_cmpT (op_eqD hr.units) ra_eq ha hb (nomark _)
theorem x_neT (hr : Room k X.A) (ha : PE X a (tD K ea)) (hb : PE X b (tD K eb)) (hK : X.K = K := by rfl) : PT X (.Compare a [.NotEq] [b] pos) (tDB K (vT (v2 fNe ea eb))) := by
  subst hK; exact x_cmpT (op_neD hr.units) ra_ne ha hb (nomark _)
def fIsN (x y : D) (μ : M) : Option (D × M) := match y with
  | .non => some (.bl (match x with | .non => true | _ => false), μ)
  | _ => none
def fNotN (x y : D) (μ : M) : Option (D × M) := match y with
  | .non => some (.bl (match x with | .non => false | _ => true), μ)
  | _ => none
theorem ra_isN : R2A K (fun x y H Q => y = .non ∧ Q (.bl (decide (x = .non))) H) fIsN := by
  intro W x y d e z μ' Q ok r1 r2 hf q
  unfold fIsN at hf
  split at hf
  · cases hf; cases r2
    refine ⟨rfl, ?_⟩
    have h := q _ W rfl ok .refl (.bl _)
    cases r1 <;> exact h
  · cases hf
theorem ra_notN : R2A K (fun x y H Q => y = .non ∧ Q (.bl (!decide (x = .non))) H) fNotN := by
  intro W x y d e z μ' Q ok r1 r2 hf q
  unfold fNotN at hf
  split at hf
  · cases hf; cases r2
    refine ⟨rfl, ?_⟩
    have h := q _ W rfl ok .refl (.bl _)
    cases r1 <;> exact h
  · cases hf
theorem x_isN (ha : PE X a (tD K ea)) (hb : PE X b (tD K eb)) : PE X (.Compare a [.Is] [b] pos) (tD K (v2 fIsN ea eb)) := x_cmp op_isN ra_isN ha hb (nomark _)
theorem x_isNT (ha : PE X a (tD K ea)) (hb : PE X b (tD K eb)) : PT X (.Compare a [.Is] [b] pos) (tDB K (vT (v2 fIsN ea eb))) := x_cmpT op_isN ra_isN ha hb (nomark _)
theorem x_notNT (ha : PE X a (tD K ea)) (hb : PE X b (tD K eb)) : PT X (.Compare a [.IsNot] [b] pos) (tDB K (vT (v2 fNotN ea eb))) := x_cmpT op_notN ra_notN ha hb (nomark _)
def flV : D → Option V
  | .non => some .non
  | .bl b => some (.bl b)
  | .int i => some (.int i)
  | .str x => some (.str x)
  | _ => none
theorem flV_at {W : Wd} {d : D} {v u : V} (h : flV d = some u) (r : DR K W d v) : v = u ∧ flatV u = true := by
  cases d <;> cases h <;> cases r <;> exact ⟨rfl, rfl⟩
theorem flVs_at {W : Wd} : ∀ {ds : List D} {vs us : List V}, optAll flV ds = some us → DRs K W ds vs → vs = us ∧ us.all flatV = true
  | _, _, _, h, .nil => by cases h; exact ⟨rfl, rfl⟩
  | _, _, _, h, .cons r t => by
    obtain ⟨u, h1, h⟩ := bnd h
    obtain ⟨us, h2, h⟩ := bnd h
    cases h
    obtain ⟨e1, f1⟩ := flV_at h1 r
    obtain ⟨e2, f2⟩ := flVs_at h2 t
    exact ⟨by rw [e1, e2], by simp [f1, f2]⟩
def fIn (neg : Bool) (x y : D) (μ : M) : Option (D × M) := (flV x).bind fun v => (sqOf μ y).bind fun ds => (optAll flV ds).bind fun us => some (.bl (if neg then !inV v us else inV v us), μ)
theorem ra_in {neg : Bool} : R2A K (rIn K neg) (fIn neg) := by
  intro W x y d e z μ' Q ok r1 r2 hf q
  obtain ⟨v, h1, hf⟩ := bnd hf
  obtain ⟨ds, h2, hf⟩ := bnd hf
  obtain ⟨us, h3, hf⟩ := bnd hf
  cases hf
  obtain ⟨rfl, f1⟩ := flV_at h1 r1
  obtain ⟨a, vs, rfl, hs, hv⟩ := sqOf_at ok h2 r2
  obtain ⟨rfl, f2⟩ := flVs_at h3 hv
  exact ⟨a, _, rfl, hs, f1, f2, q _ W rfl ok .refl (.bl _)⟩
theorem x_inT (ha : PE X a (tD K ea)) (hb : PE X b (tD K eb)) (hm : behindInMarks .In b = false := by rfl) (hK : X.K = K := by rfl) : PT X (.Compare a [.In] [b] pos) (tDB K (vT (v2 (fIn false) ea eb))) := PT_imp (tIn K ha hb hm hK) (vT_imp (t2_imp ra_in))
def tru (μ : M) : D → Option Bool
  | .non => some false
  | .bl b => some b
  | .int i => some (i != 0)
  | .tup ds => some (!ds.isEmpty)
  | .gt ds => some (!ds.isEmpty)
  | .lst ds => some (!ds.isEmpty)
  | .scr ds => some (!ds.isEmpty)
  | .ref k => match μ[k]? with
    | some (some (.lst ds)) => some (!ds.isEmpty)
    | some (some (.dK kvs)) => some (!kvs.isEmpty)
    | _ => none
  | .str _ => none
theorem DRs.empty {W : Wd} {ds : List D} {vs : List V} (r : DRs K W ds vs) : ds.isEmpty = vs.isEmpty := by cases r <;> rfl
theorem tru_at {W : Wd} {d : D} {v : V} {b : Bool} (ok : Ok K W) (h : tru W.μ d = some b) (r : DR K W d v) : TruV K v W.H b := by
  cases d with
  | non => cases h; cases r; rfl
  | bl k => cases h; cases r; rfl
  | int i => cases h; cases r; rfl
  | str x => cases h
  | tup ds =>
    cases h
    cases r with
    | tup h hs => exact .inr (.inl ⟨_, SqT.of h, by rw [DRs.empty hs]⟩)
  | gt ds =>
    cases h
    cases r with
    | gt h hs => exact .inr (.inl ⟨_, h, by rw [DRs.empty hs]⟩)
  | lst ds =>
    cases h
    cases r with
    | lst h _ hs => exact .inl ⟨_, SqL.of h, by rw [DRs.empty hs]⟩
  | scr ds =>
    cases h
    cases r with
    | scr h hs => exact .inl ⟨_, h.seq, by rw [DRs.empty hs]⟩
  | ref k =>
    simp only [tru] at h
    split at h
    · rename_i ds hk
      cases h
      obtain ⟨a, vs, rfl, _, hh, hs⟩ := ref_at ok hk r
      exact .inl ⟨_, SqL.of hh, by rw [DRs.empty hs]⟩
    · rename_i kvs hk
      cases h
      cases r with
      | ref ha =>
        obtain ⟨a', ho, h1, h2, vs, rfl, r⟩ := ok.at_ k _ hk
        rw [ha] at h1
        cases h1
        exact .inr (.inr ⟨vs, h2, by cases r <;> rfl⟩)
    · cases h
def bTru (ea : EV) : BV := fun Γ μ => (ea Γ μ).bind fun p => (tru p.2 p.1).bind fun b => some (b, p.2)
theorem x_truth (ha : PE X a (tD K ea)) (he : ∀ whole, isTrue a X.env whole = (do let v ← whole; standAt a.pos; holding [v] (truthy v)) := by intro _; rfl) (hK : X.K = K := by rfl) : PT X a (tDB K (bTru ea)) := by
  subst hK
  refine PT_imp (pt_truth ha he) fun σ H Q h => ?_
  obtain ⟨W, Γ, b, μ', rfl, ok, en, e, q⟩ := h
  obtain ⟨p1, e1, e⟩ := bnd e
  obtain ⟨b1, e2, e⟩ := bnd e
  cases e
  exact ⟨W, Γ, p1.1, p1.2, rfl, ok, en, e1, fun x W1 hμ ok1 s1 r1 => ⟨b, tru_at ok1 (by rw [hμ]; exact e2) r1, q W1 hμ ok1 s1⟩⟩
def vFrz (ea : EV) : EV := fun Γ μ => (ea Γ μ).bind fun p => match p.1 with
  | .ref k => match p.2[k]? with
    | some (some (.lst ds)) => some (.lst ds, p.2.set k none)
    | _ => none
  | _ => none
def spM (K : PySem.W.Frag) (f : List D → M → Option (D × M)) : Sp := fun vs H Q _ => ∃ (W : Wd) (ds : List D) (d : D) (μ' : M), W.H = H ∧ Ok K W ∧ DRs K W ds vs ∧ f ds W.μ = some (d, μ') ∧ ∀ v W', W'.μ = μ' → Ok K W' → Step W W' → DR K W' d v → Q v W'.H
theorem x_df {x : Str} {ps : List Str} {f : List D → M → Option (D × M)} {e : Expr} (Df' : Df X.prog X.w X.K X.mg X.base k x ps (spM K f)) (hr : Room k X.A) (ha : PA X (e :: es) (tDL K el)) (hg : Gl X x := by rfl) (hdb : (x == ("__debug__" : Str)) = false := by decide)
    (he : starEach (e :: es) X.env = (false, eval e X.env) :: starEach es X.env := by rfl) (hpl : (backTo pos (starEach es X.env)).any (·.1) = false := by rfl) : PE X (.Call (.Name x p) (e :: es) [] pos) (tD K (vL f el)) := PE_imp (pe_df Df' hr ha hg hdb he hpl) (tL_imp (by
  intro W xs ds z μ' Q ok r hf q
  exact ⟨W, ds, z, μ', rfl, ok, r, hf, q⟩))
def v2l (f : D → D → M → Option (D × M)) (ea eb : EV) : EV := fun Γ μ => (ea Γ μ).bind fun p => (lsOf p.2 p.1).bind fun _ => (eb Γ p.2).bind fun q => f p.1 q.1 q.2
def v1l (f : D → M → Option (D × M)) (ea : EV) : EV := fun Γ μ => (ea Γ μ).bind fun p => (lsOf p.2 p.1).bind fun _ => f p.1 p.2
theorem ty_list {W : Wd} {d : D} {ds : List D} {v : V} (ok : Ok K W) (h : lsOf W.μ d = some ds) (r : DR K W d v) : tyV K "list" v W.H := by
  obtain ⟨a, vs, rfl, hs, _⟩ := lsOf_at ok h r
  exact .inl ⟨rfl, vs, hs⟩
def RMA (K : PySem.W.Frag) (r : V → List V → Hp → VK → Prop) (f : D → D → M → Option (D × M)) : Prop := ∀ (W : Wd) (x y : V) (d e z : D) (μ' : M) (Q : VK), Ok K W → DR K W d x → DR K W e y → f d e W.μ = some (z, μ') →
  (∀ v W', W'.μ = μ' → Ok K W' → Step W W' → DR K W' z v → Q v W'.H) → r x [y] W.H Q
theorem tM_imp {eo : EV} {r : V → List V → Hp → VK → Prop} {f : D → D → M → Option (D × M)} (ra : RMA K r f) : ∀ σ H Q, tD K (v2l f eo ea) σ H Q → tBM K "list" r (tD K eo) (tCons (tD K ea) tNil) σ H Q := fun σ H Q h => by
  obtain ⟨W, Γ, d, μ', rfl, ok, en, e, q⟩ := h
  obtain ⟨p1, e1, e⟩ := bnd e
  obtain ⟨ds, e0, e⟩ := bnd e
  obtain ⟨p2, e2, e⟩ := bnd e
  refine ⟨W, Γ, p1.1, p1.2, rfl, ok, en, e1, fun x W1 hμ ok1 s1 r1 => ⟨ty_list ok1 (by rw [hμ]; exact e0) r1, W1, Γ, p2.1, p2.2, rfl, ok1, en.step ok s1, by rw [hμ]; exact e2, fun y W2 hμ2 ok2 s2 r2 => ?_⟩⟩
  exact ra W2 x y _ _ _ _ Q ok2 (r1.step ok1 s2) r2 (by rw [hμ2]; exact e) fun v W3 hμ3 ok3 s3 r3 => q v W3 hμ3 ok3 ((s1.trans s2).trans s3) r3
def onL (x : D) (μ : M) (g : List D → Option (D × List D)) : Option (D × M) := match x with
  | .ref k => match μ[k]? with
    | some (some (.lst ds)) => (g ds).bind fun r => some (r.1, μ.set k (some (.lst r.2)))
    | _ => none
  | _ => none
theorem onL_at {W : Wd} {x z : D} {v : V} {μ' : M} {g : List D → Option (D × List D)} (ok : Ok K W) (h : onL x W.μ g = some (z, μ')) (r : DR K W x v) :
    ∃ k a ds vs ds', x = .ref k ∧ v = .ref a ∧ W.μ[k]? = some (some (.lst ds)) ∧ W.ρ[k]? = some a ∧ W.H a = some (.lst vs) ∧ DRs K W ds vs ∧ g ds = some (z, ds') ∧ μ' = W.μ.set k (some (.lst ds')) := by
  unfold onL at h
  split at h
  · rename_i k
    split at h
    · rename_i ds hk
      obtain ⟨p, e1, e⟩ := bnd h
      cases e
      obtain ⟨a, vs, rfl, ha, hh, hs⟩ := ref_at ok hk r
      exact ⟨k, a, ds, vs, p.2, rfl, rfl, hk, ha, hh, hs, e1, rfl⟩
    · cases h
  · cases h
theorem put_lst {W : Wd} {k : Nat} {a : Addr} {ds ds' : List D} {vs vs' : List V} (ok : Ok K W) (hk : W.μ[k]? = some (some (.lst ds))) (ha : W.ρ[k]? = some a) (hs : DRs K W ds' vs') :
    Ok K (W.put k a (.lst vs') (.lst ds')) ∧ Step W (W.put k a (.lst vs') (.lst ds')) := ⟨ok_put ok hk ha ⟨vs', rfl, hs⟩, step_put hk ha⟩
def fApp (x y : D) (μ : M) : Option (D × M) := onL x μ fun ds => if ds.length < 1000000 then some (.non, ds ++ [y]) else none
theorem x_app {o : Expr} {eo : EV} {apos : Pos} (ho : PE X o (tD K eo)) (ha : PE X a (tD K ea)) (hs : starEach [a] X.env = [(false, eval a X.env)] := by rfl)
    (hbase : attributeBase o "append" X.env (eval o X.env) = eval o X.env := by rfl) (hline : (apos.endLine == pos.line) = true := by rfl) (hK : X.K = K := by rfl)
    (hfew : ((backTo pos (starEach [a] X.env)).all (fun x => !x.1) && (backToKw pos (keywordEach [] X.env)).all (fun x => x.1.isSome)
      && decide ([a].length + ([] : List Keyword).length + (if ([] : List Keyword).isEmpty then 0 else 1) < 30)) = true := by rfl) :
    PE X (.Call (.Attribute o "append" apos) [a] [] pos) (tD K (v2l fApp eo ea)) := PE_imp (eApp K ho ha hs hbase hline hK hfew) (tM_imp (by
  intro W x y d e z μ' Q ok r1 r2 hf q
  obtain ⟨k, a, ds, vs, ds', rfl, rfl, hk, ha, hh, hs, hg, rfl⟩ := onL_at ok hf r1
  split at hg
  · rename_i hl
    cases hg
    obtain ⟨o1, s1⟩ := put_lst (vs := vs) (vs' := vs ++ [y]) ok hk ha (hs.append (.cons r2 .nil))
    exact ⟨a, vs, y, rfl, rfl, hh, lt_line (by rw [← hs.length]; omega), q _ _ rfl o1 s1 .non⟩
  · cases hg))
end
end L3
set_option Elab.async false
set_option linter.all false
set_option maxRecDepth 100000
namespace L3
open PySem PySem.Spec L2
open Classical in
noncomputable def chk {α : Type} (c : Prop) (x : Option α) : Option α := if c then x else none
theorem chk_some {α : Type} {c : Prop} {x : Option α} {a : α} (h : chk c x = some a) : c ∧ x = some a := by
  unfold chk at h
  split at h
  · exact ⟨by assumption, h⟩
  · cases h
theorem chk_pos {α : Type} {c : Prop} {x : Option α} (h : c) : chk c x = x := by unfold chk; rw [if_pos h]
abbrev GV := D → G → M → Option (G × M)
abbrev GsV := List D → G → M → Option (G × M)
def tDG (K : PySem.W.Frag) (gv : GV) : TG := fun v σ H Q => ∃ (W : Wd) (Γ : G) (d : D) (Γ' : G) (μ' : M), W.H = H ∧ Ok K W ∧ EnvR K W Γ σ ∧ DR K W d v ∧ gv d Γ W.μ = some (Γ', μ') ∧ ∀ W' σ', W'.μ = μ' → Ok K W' → Step W W' → EnvR K W' Γ' σ' → Q σ' W'.H
def tDGs (K : PySem.W.Frag) (gv : GsV) : TGs := fun vs σ H Q => ∃ (W : Wd) (Γ : G) (ds : List D) (Γ' : G) (μ' : M), W.H = H ∧ Ok K W ∧ EnvR K W Γ σ ∧ DRs K W ds vs ∧ gv ds Γ W.μ = some (Γ', μ') ∧ ∀ W' σ', W'.μ = μ' → Ok K W' → Step W W' → EnvR K W' Γ' σ' → Q σ' W'.H
section
variable {X : Cx} {K : PySem.W.Frag} {pos : Pos}
theorem PG_imp {tg : Expr} {t t' : TG} (h : PG X tg t) (hi : ∀ v σ H Q, t' v σ H Q → t v σ H Q) : PG X tg t' := fun pins s σ H v u Q I r hw => h pins s σ H v u Q I r (hi _ _ _ _ hw)
theorem PGs_imp {tg : List Expr} {t t' : TGs} (h : PGs X tg t) (hi : ∀ v σ H Q, t' v σ H Q → t v σ H Q) : PGs X tg t' := fun pins s σ H v u Q I r hw => h pins s σ H v u Q I r (hi _ _ _ _ hw)
theorem EnvR.set {W : Wd} {Γ : G} {σ : St} (e : EnvR K W Γ σ) {d : D} {v : V} (r : DR K W d v) (i : Nat) : EnvR K W (Γ.set i (some d)) (σ.set i (some v)) where
  len := by simp [e.len]
  at_ j d' h := by
    by_cases hj : j = i
    · subst hj
      have hlt : j < Γ.length := by have := (List.getElem?_eq_some_iff.mp h).1; simpa using this
      simp [hlt] at h
      subst h
      exact ⟨v, by have := e.len; simp [show j < σ.length by omega], r⟩
    · rw [List.getElem?_set_ne (Ne.symm hj)] at h
      obtain ⟨u, hu, q⟩ := e.at_ j d' h
      exact ⟨u, by rw [List.getElem?_set_ne (Ne.symm hj)]; exact hu, q⟩
def gvName (i : Nat) : GV := fun d Γ μ => some (Γ.set i (some d), μ)
theorem gvName_imp {i : Nat} : ∀ v σ H Q, tDG K (gvName i) v σ H Q → gName i v σ H Q := fun v σ H Q h => by
  obtain ⟨W, Γ, d, Γ', μ', rfl, ok, en, r, e, q⟩ := h
  cases e
  exact q W _ rfl ok .refl (en.set r i)
theorem xg_name {i : Nat} {x : Str} (hN : X.N.Nodup) (hi : X.N[i]? = some x) (hx : Loc X.env.scope x) (hf : X.fn x = true ∨ X.env.scope.names.lookup x = some .local := by first | exact .inl rfl | exact .inr rfl | assumption) : PG X (.Name x pos) (tDG K (gvName i)) := PG_imp (pg_name hN hi hx hf) gvName_imp
def gvNil : GsV := fun ds Γ μ => match ds with
  | [] => some (Γ, μ)
  | _ :: _ => none
def gvCons (g : GV) (gs : GsV) : GsV := fun ds Γ μ => match ds with
  | [] => none
  | d :: r => (g d Γ μ).bind fun p => gs r p.1 p.2
theorem xgs_nil : PGs X [] (tDGs K gvNil) := PGs_imp pgs_nil fun v σ H Q h => by
  obtain ⟨W, Γ, d, Γ', μ', rfl, ok, en, r, e, q⟩ := h
  cases r with
  | nil => cases e; exact ⟨rfl, q W _ rfl ok .refl en⟩
  | cons _ _ => cases e
theorem xgs_cons {e : Expr} {es : List Expr} {g : GV} {gs : GsV} (h1 : PG X e (tDG K g)) (h2 : PGs X es (tDGs K gs))
    (hs : (assignEach (e :: es) X.env).map (·.2) = assign e X.env :: (assignEach es X.env).map (·.2) := by rfl) : PGs X (e :: es) (tDGs K (gvCons g gs)) := PGs_imp (pgs_cons h1 h2 hs) fun v σ H Q h => by
  obtain ⟨W, Γ, d, Γ', μ', rfl, ok, en, r, e, q⟩ := h
  cases r with
  | nil => cases e
  | cons r rs =>
    obtain ⟨p1, e1, e⟩ := bnd e
    exact ⟨_, _, rfl, W, Γ, _, p1.1, p1.2, rfl, ok, en, r, e1, fun W1 σ1 hμ ok1 s1 en1 => ⟨W1, p1.1, _, Γ', μ', rfl, ok1, en1, rs.step ok s1, by rw [hμ]; exact e, fun W2 σ2 hμ2 ok2 s2 en2 => q W2 σ2 hμ2 ok2 (s1.trans s2) en2⟩⟩
def gvTup (n : Nat) (gs : GsV) : GV := fun d Γ μ => (tpOf d).bind fun ds => if ds.length = n then gs ds Γ μ else none
def gvLst (n : Nat) (gs : GsV) : GV := fun d Γ μ => (lsOf μ d).bind fun ds => if ds.length = n then gs ds Γ μ else none
theorem xg_tup {es : List Expr} {k : Nat} {gs : GsV} {n : Nat} (h : PGs X es (tDGs K gs)) (hc : X.calm = true := by rfl) (hn : (assignEach es X.env).length = n := by rfl) (hst : (assignEach es X.env).findIdx? (·.1) = none := by rfl) (hK : X.K = K := by rfl) : PG X (.Tuple es k pos) (tDG K (gvTup n gs)) := PG_imp (gT K h hc hn hst hK) fun v σ H Q hh => by
  obtain ⟨W, Γ, d, Γ', μ', rfl, ok, en, r, e, q⟩ := hh
  obtain ⟨ds, e1, e⟩ := bnd e
  split at e
  · rename_i hl
    obtain ⟨a, vs, rfl, hs, hv⟩ := tpOf_at e1 r
    exact ⟨a, vs, rfl, hs, by rw [← hv.length]; exact hl, W, Γ, ds, Γ', μ', rfl, ok, en, hv, e, q⟩
  · cases e
def gvSub (eo ei : EV) : GV := fun d Γ μ => (eo Γ μ).bind fun p => (ei Γ p.2).bind fun q => match q.1 with
  | .int j => (onL p.1 q.2 fun ds => (ixN ds.length j).bind fun jj => some (.non, ds.set jj d)).bind fun r => some (Γ, r.2)
  | _ => none
end
section
variable {X : Cx} {K : PySem.W.Frag} {pos : Pos} {e : Expr} {ea : EV} {st : Stmt} {rest : List Stmt} {sa sb : SV}
def sNx : SV := fun Γ μ => some (.nx, Γ, μ)
def sSeq (a b : SV) : SV := fun Γ μ => (a Γ μ).bind fun o => match o.1 with
  | .nx => b o.2.1 o.2.2
  | .bk => some (.bk, o.2)
  | .ct => some (.ct, o.2)
  | .rt d => some (.rt d, o.2)
theorem xs_nil : PSs X [] (tDS K sNx) := PSs_imp pss_nil fun D σ H h => by
  obtain ⟨W, Γ, o, Γ', μ', rfl, ok, en, e, q⟩ := h
  cases e
  exact q W σ rfl ok .refl en
theorem xs_one (h1 : PS X st (tDS K sa)) : PSs X [st] (tDS K sa) := pss_one h1
theorem xs_cons (h1 : PS X st (tDS K sa)) (h2 : PSs X rest (tDS K sb)) : PSs X (st :: rest) (tDS K (sSeq sa sb)) := PSs_imp (pss_cons h1 h2) fun D σ H h => by
  obtain ⟨W, Γ, o, Γ', μ', rfl, ok, en, e, q⟩ := h
  obtain ⟨⟨o1, Γ1, μ1⟩, e1, e⟩ := bnd e
  refine ⟨W, Γ, o1, Γ1, μ1, rfl, ok, en, e1, fun W1 σ1 hμ ok1 s1 en1 => ?_⟩
  cases o1 with
  | nx => exact ⟨W1, Γ1, o, Γ', μ', rfl, ok1, en1, by rw [hμ]; exact e, fun W2 σ2 hμ2 ok2 s2 en2 => q W2 σ2 hμ2 ok2 (s1.trans s2) en2⟩
  | bk => cases e; exact q W1 σ1 hμ ok1 s1 en1
  | ct => cases e; exact q W1 σ1 hμ ok1 s1 en1
  | rt d => cases e; exact q W1 σ1 hμ ok1 s1 en1
def sBk : SV := fun Γ μ => some (.bk, Γ, μ)
def sCt : SV := fun Γ μ => some (.ct, Γ, μ)
def sExpr (ea : EV) : SV := fun Γ μ => (ea Γ μ).bind fun p => some (.nx, Γ, p.2)
theorem xs_expr (he : PE X e (tD K ea)) (hs : swapsWith e none pos.line X.env = pure false := by rfl) : PS X (.Expr e pos) (tDS K (sExpr ea)) := PS_imp (ps_expr he hs) fun D σ H h => by
  obtain ⟨W, Γ, o, Γ', μ', rfl, ok, en, e, q⟩ := h
  obtain ⟨p1, e1, e⟩ := bnd e
  cases e
  exact ⟨W, Γ, p1.1, p1.2, rfl, ok, en, e1, fun v W1 hμ ok1 s1 r1 => q W1 σ hμ ok1 s1 (en.step ok s1)⟩
def sRet (ea : EV) : SV := fun Γ μ => (ea Γ μ).bind fun p => some (.rt p.1, Γ, p.2)
theorem xs_ret (he : PE X e (tD K ea)) : PS X (.Return (some e) pos) (tDS K (sRet ea)) := PS_imp (ps_ret he) fun D σ H h => by
  obtain ⟨W, Γ, o, Γ', μ', rfl, ok, en, e, q⟩ := h
  obtain ⟨p1, e1, e⟩ := bnd e
  cases e
  exact ⟨W, Γ, p1.1, p1.2, rfl, ok, en, e1, fun v W1 hμ ok1 s1 r1 => q W1 σ hμ ok1 s1 (en.step ok s1) v r1⟩
def sIf (t : BV) (a b : SV) : SV := fun Γ μ => (t Γ μ).bind fun p => if p.1 = true then a Γ p.2 else b Γ p.2
theorem xs_if {c : Expr} {a b : List Stmt} {bc : BV} (hc : PT X c (tDB K bc)) (ha : PSs X a (tDS K sa)) (hb : PSs X b (tDS K sb)) : PS X (.If c a b pos) (tDS K (sIf bc sa sb)) := PS_imp (ps_if hc ha hb) fun D σ H h => by
  obtain ⟨W, Γ, o, Γ', μ', rfl, ok, en, e, q⟩ := h
  obtain ⟨p1, e1, e⟩ := bnd e
  refine ⟨W, Γ, p1.1, p1.2, rfl, ok, en, e1, fun W1 hμ ok1 s1 => ?_⟩
  split at e
  · rename_i hp; rw [if_pos hp]; exact ⟨W1, Γ, o, Γ', μ', rfl, ok1, en.step ok s1, by rw [hμ]; exact e, fun W2 σ2 hμ2 ok2 s2 en2 => q W2 σ2 hμ2 ok2 (s1.trans s2) en2⟩
  · rename_i hp; rw [if_neg hp]; exact ⟨W1, Γ, o, Γ', μ', rfl, ok1, en.step ok s1, by rw [hμ]; exact e, fun W2 σ2 hμ2 ok2 s2 en2 => q W2 σ2 hμ2 ok2 (s1.trans s2) en2⟩
def sAsg (ea : EV) (g : GV) : SV := fun Γ μ => (ea Γ μ).bind fun p => (g p.1 Γ p.2).bind fun q => some (.nx, q.1, q.2)
theorem sAsg_imp {g : GV} : ∀ D σ H, tDS K (sAsg ea g) D σ H → tAsg (tD K ea) (tDG K g) D σ H := fun D σ H h => by
  obtain ⟨W, Γ, o, Γ', μ', rfl, ok, en, e, q⟩ := h
  obtain ⟨p1, e1, e⟩ := bnd e
  obtain ⟨p2, e2, e⟩ := bnd e
  cases e
  exact ⟨W, Γ, p1.1, p1.2, rfl, ok, en, e1, fun v W1 hμ ok1 s1 r1 => ⟨W1, Γ, p1.1, p2.1, p2.2, rfl, ok1, en.step ok s1, r1, by rw [hμ]; exact e2, fun W2 σ2 hμ2 ok2 s2 en2 => q W2 σ2 hμ2 ok2 (s1.trans s2) en2⟩⟩
theorem xs_asg {tg : Expr} {g : GV} (he : PE X e (tD K ea)) (hg : PG X tg (tDG K g)) (hs : swapsWithSole [tg] e pos.line X.env = pure false := by rfl) (hw : swappedStores [tg] e X.env = pure none := by rfl)
    (h1 : (assignEach [tg] X.env).map (·.2) = [assign tg X.env] := by rfl) : PS X (.Assign [tg] e pos) (tDS K (sAsg ea g)) := PS_imp (ps_asg he hg hs hw h1) sAsg_imp
theorem xs_set {i : Nat} {x : Str} {pos' : Pos} (hN : X.N.Nodup) (hi : X.N[i]? = some x) (hx : Loc X.env.scope x) (he : PE X e (tD K ea)) (hs : swapsWith e (some (.Name x pos')) pos.line X.env = pure false := by rfl) (hf : X.fn x = true ∨ X.env.scope.names.lookup x = some .local := by first | exact .inl rfl | exact .inr rfl | assumption) :
    PS X (.Assign [.Name x pos'] e pos) (tDS K (sAsg ea (gvName i))) := PS_imp (ps_set hN hi hx he hs hf) fun D σ H h => by
  obtain ⟨W, Γ, o, Γ', μ', rfl, ok, en, e, q⟩ := h
  obtain ⟨p1, e1, e⟩ := bnd e
  cases e
  exact ⟨W, Γ, p1.1, p1.2, rfl, ok, en, e1, fun v W1 hμ ok1 s1 r1 => q W1 _ hμ ok1 s1 ((en.step ok s1).set r1 i)⟩
def sPar (i j : Nat) (el : LV) : SV := fun Γ μ => (el Γ μ).bind fun p => match p.1 with
  | [v, w] => some (.nx, (Γ.set i (some v)).set j (some w), p.2)
  | _ => none
def sAug (i : Nat) (f : D → D → M → Option (D × M)) (ea : EV) : SV := fun Γ μ => match Γ[i]? with
  | some (some x) => (ea Γ μ).bind fun p => (f x p.1 p.2).bind fun q => some (.nx, Γ.set i (some q.1), q.2)
  | _ => none
def whileG (c : BV) (body : SV) : Nat → SV
  | 0, _, _ => none
  | n + 1, Γ, μ => (c Γ μ).bind fun p => if p.1 = true then (body Γ p.2).bind fun o => match o.1 with
      | .nx => whileG c body n o.2.1 o.2.2
      | .ct => whileG c body n o.2.1 o.2.2
      | .bk => some (.nx, o.2)
      | .rt d => some (.rt d, o.2)
    else some (.nx, Γ, p.2)
theorem xs_while {c : Expr} {body : List Stmt} {bc : BV} (n : Nat) (hp : PassesOwn (model X.prog X.w) X.A X.env X.xe) (hc : PT X c (tDB K bc)) (hb : PSs X body (tDS K sb)) : PS X (.While c body [] pos) (tDS K (whileG bc sb n)) := PS_imp (ps_while hp hc hb) fun D σ H h => by
  obtain ⟨W, Γ, o, Γ', μ', rfl, ok, en, e, q⟩ := h
  refine ⟨fun m σ1 H1 => ∃ W1 Γ1, W1.H = H1 ∧ Ok K W1 ∧ Step W W1 ∧ EnvR K W1 Γ1 σ1 ∧ whileG bc sb m Γ1 W1.μ = some (o, Γ', μ'), ⟨n, W, Γ, rfl, ok, .refl, en, e⟩, ?_⟩
  rintro m σ1 H1 ⟨W1, Γ1, rfl, ok1, s1, en1, e1⟩
  cases m with
  | zero => cases e1
  | succ m =>
    obtain ⟨p1, ec, e1⟩ := bnd e1
    refine ⟨W1, Γ1, p1.1, p1.2, rfl, ok1, en1, ec, fun W2 hμ2 ok2 s2 => ?_⟩
    split at e1
    · rename_i hp1
      rw [if_pos hp1]
      obtain ⟨⟨o3, Γ3, μ3⟩, e3, e1⟩ := bnd e1
      refine ⟨_, fun σ' H' h' => ⟨m, Nat.lt_succ_self m, h'⟩, W2, Γ1, o3, Γ3, μ3, rfl, ok2, en1.step ok1 s2, by rw [hμ2]; exact e3, fun W3 σ3 hμ3 ok3 s3 en3 => ?_⟩
      cases o3 with
      | nx => exact ⟨W3, Γ3, rfl, ok3, (s1.trans s2).trans s3, en3, by rw [hμ3]; exact e1⟩
      | ct => exact ⟨W3, Γ3, rfl, ok3, (s1.trans s2).trans s3, en3, by rw [hμ3]; exact e1⟩
      | bk => cases e1; exact q W3 σ3 hμ3 ok3 ((s1.trans s2).trans s3) en3
      | rt d => cases e1; exact q W3 σ3 hμ3 ok3 ((s1.trans s2).trans s3) en3
    · rename_i hp1
      cases e1
      rw [if_neg hp1]
      exact q W2 σ1 hμ2 ok2 (s1.trans s2) (en1.step ok1 s2)
abbrev Ck := Option (Nat × List D)
def ckOf : Ck → M → Prop
  | none, _ => True
  | some (k, raw), μ => μ[k]? = some (some (.lst raw))
abbrev IV := G → M → Option ((List D × Ck) × M)
def JR (K : PySem.W.Frag) (W : Wd) (J : It) (its : List D) (c : Ck) : Prop := ckOf c W.μ ∧ ∃ ds vs, DRs K W ds vs ∧ ∀ (W2 : Wd) (i : Nat), Ok K W2 → ckOf c W2.μ → DRs K W2 ds vs →
  (its.length ≤ i → J.stop i W2.H) ∧ ∀ d, its[i]? = some d → J.go i W2.H ∧ ∀ x H', J.yld i W2.H x H' → ∃ W3, W3.H = H' ∧ W3.μ = W2.μ ∧ Ok K W3 ∧ Step W2 W3 ∧ DR K W3 d x
def tDI (K : PySem.W.Frag) (iv : IV) : TI := fun σ H R => ∃ (W : Wd) (Γ : G) (its : List D) (c : Ck) (μ' : M), W.H = H ∧ Ok K W ∧ EnvR K W Γ σ ∧ iv Γ W.μ = some ((its, c), μ') ∧ ∀ J W', W'.μ = μ' → Ok K W' → Step W W' → JR K W' J its c → R J W'.H
theorem PI_imp {tg iter : Expr} {t t' : TI} (h : PI X tg iter t) (hi : ∀ σ H R, t' σ H R → t σ H R) : PI X tg iter t' := fun pins s σ H R I hw => h pins s σ H R I (hi _ _ _ hw)
def lsC (μ : M) : D → Option (List D × Ck)
  | .lst ds => some (ds, none)
  | .scr ds => some (ds, none)
  | .ref k => match μ[k]? with
    | some (some (.lst ds)) => some (ds, some (k, ds))
    | _ => none
  | _ => none
theorem lsC_at {W : Wd} {d : D} {ds : List D} {c : Ck} {v : V} (ok : Ok K W) (h : lsC W.μ d = some (ds, c)) (r : DR K W d v) :
    ckOf c W.μ ∧ ∃ a, v = .ref a ∧ ∀ W2, Ok K W2 → ckOf c W2.μ → DR K W2 d v → ∃ vs, SqL K W2.H a vs ∧ DRs K W2 ds vs := by
  cases d with
  | lst xs =>
    cases h
    cases r with
    | lst h n hs =>
      refine ⟨trivial, _, rfl, fun W2 _ _ r2 => ?_⟩
      cases r2 with
      | lst h n hs => exact ⟨_, SqL.of h, hs⟩
  | scr xs =>
    cases h
    cases r with
    | scr h hs =>
      refine ⟨trivial, _, rfl, fun W2 _ _ r2 => ?_⟩
      cases r2 with
      | scr h hs => exact ⟨_, h.seq, hs⟩
  | ref k =>
    simp only [lsC] at h
    split at h
    · rename_i xs hk
      cases h
      refine ⟨hk, ?_⟩
      cases r with
      | ref ha =>
        refine ⟨_, rfl, fun W2 ok2 c2 r2 => ?_⟩
        obtain ⟨a', vs, e, _, hh, hs⟩ := ref_at ok2 c2 r2
        cases e
        exact ⟨vs, SqL.of hh, hs⟩
    · cases h
  | _ => cases h
def ivL (ea : EV) : IV := fun Γ μ => (ea Γ μ).bind fun p => (lsC p.2 p.1).bind fun s => some (s, p.2)
theorem xi_list {tg a : Expr} (ha : PE X a (tD K ea)) (hK : X.K = K := by rfl) : PI X tg a (tDI K (ivL ea)) := PI_imp (iL K ha hK) fun σ H R h => by
  obtain ⟨W, Γ, its, c, μ', rfl, ok, en, e, q⟩ := h
  obtain ⟨p1, e1, e⟩ := bnd e
  obtain ⟨s, e2, e⟩ := bnd e
  cases e
  refine ⟨W, Γ, p1.1, p1.2, rfl, ok, en, e1, fun v W1 hμ ok1 s1 r1 => ?_⟩
  obtain ⟨c0, a, rfl, hh⟩ := lsC_at ok1 (by rw [hμ]; exact e2) r1
  obtain ⟨vs0, h0, _⟩ := hh W1 ok1 c0 r1
  refine ⟨a, rfl, ⟨_, h0⟩, q (Itl K a) W1 hμ ok1 s1 ⟨c0, [p1.1], [.ref a], .cons r1 .nil, fun W2 i ok2 c2 r2 => ?_⟩⟩
  cases r2 with
  | cons r2 _ =>
    obtain ⟨vs, hs, hv⟩ := hh W2 ok2 c2 r2
    refine ⟨fun hi => ⟨vs, hs, by rw [← hv.length]; exact hi⟩, fun d hd => ?_⟩
    obtain ⟨v, hv1, hv2⟩ := hv.get hd
    refine ⟨⟨vs, v, hs, hv1⟩, fun x H' y => ?_⟩
    obtain ⟨rfl, y⟩ := y
    have := y vs hs
    rw [hv1] at this
    cases this
    exact ⟨W2, rfl, rfl, ok2, .refl, hv2⟩
def ivT (ea : EV) : IV := fun Γ μ => (ea Γ μ).bind fun p => (tpOf p.1).bind fun ds => some ((ds, none), p.2)
def rngD (lo : Int) (n : Nat) : List D := (List.range n).map fun k : Nat => D.int (lo + k)
theorem jr_range {W : Wd} {lo : Int} {n : Nat} : JR K W (Itr lo n) (rngD lo n) none := by
  refine ⟨trivial, [], [], .nil, fun W2 i ok2 _ _ => ⟨fun hi => ?_, fun d hd => ?_⟩⟩
  · show n ≤ i
    simpa [rngD] using hi
  · have hlt := (List.getElem?_eq_some_iff.mp hd).1
    simp [rngD] at hlt
    simp [rngD, hlt] at hd
    subst hd
    refine ⟨hlt, fun x H' y => ?_⟩
    obtain ⟨rfl, rfl⟩ := y
    exact ⟨W2, rfl, rfl, ok2, .refl, .int _⟩
def ivR (ea : EV) : IV := fun Γ μ => (ea Γ μ).bind fun p => match p.1 with
  | .int j => if -1000000000 ≤ j ∧ j ≤ 1000000000 then some ((rngD 0 j.toNat, none), p.2) else none
  | _ => none
theorem xi_range (mr : X.mg "range" = none) {tg a : Expr} {p : Pos} (ha : PE X a (tD K ea)) (hg : Gl X "range" := by rfl) (hs : starEach [a] X.env = [(false, eval a X.env)] := by rfl) : PI X tg (.Call (.Name "range" p) [a] [] pos) (tDI K (ivR ea)) := PI_imp (iR mr ha hg hs) fun σ H R h => by
  obtain ⟨W, Γ, its, c, μ', rfl, ok, en, e, q⟩ := h
  obtain ⟨p1, e1, e⟩ := bnd e
  split at e
  · rename_i j hj
    split at e
    · rename_i hb
      cases e
      refine ⟨W, Γ, p1.1, p1.2, rfl, ok, en, e1, fun v W1 hμ ok1 s1 r1 => ?_⟩
      rw [hj] at r1
      cases r1
      exact ⟨j, rfl, by omega, by omega, q _ W1 hμ ok1 s1 jr_range⟩
    · cases e
  · cases e
def ivR2 (ea eb : EV) : IV := fun Γ μ => (ea Γ μ).bind fun p => (eb Γ p.2).bind fun r => match p.1, r.1 with
  | .int i, .int j => if (-1000000000 ≤ i ∧ i ≤ 1000000000) ∧ -1000000000 ≤ j ∧ j ≤ 1000000000 then some ((rngD i (j - i).toNat, none), r.2) else none
  | _, _ => none
noncomputable def forG (c : Ck) (g : GV) (body : SV) : List D → SV
  | [], Γ, μ => some (.nx, Γ, μ)
  | d :: r, Γ, μ => (g d Γ μ).bind fun p => (body p.1 p.2).bind fun o => match o.1 with
    | .nx => chk (ckOf c o.2.2) (forG c g body r o.2.1 o.2.2)
    | .ct => chk (ckOf c o.2.2) (forG c g body r o.2.1 o.2.2)
    | .bk => some (.nx, o.2)
    | .rt d => some (.rt d, o.2)
noncomputable def sFor (iv : IV) (g : GV) (body : SV) : SV := fun Γ μ => (iv Γ μ).bind fun s => forG s.1.2 g body s.1.1 Γ s.2
theorem xs_for {tg iter : Expr} {body : List Stmt} {iv : IV} {g : GV} (hp : PassesOwn (model X.prog X.w) X.A X.env X.xe) (hc : X.calm = true) (hi : PI X tg iter (tDI K iv)) (hg : PG X tg (tDG K g)) (hb : PSs X body (tDS K sb))
    (hs : ∀ x, foldedSetIterable iter X.env x = pure x := by intro _; rfl) : PS X (.For tg iter body [] pos) (tDS K (sFor iv g sb)) := PS_imp (ps_for hp hc hi hg hb hs) fun D σ H h => by
  obtain ⟨W, Γ, o, Γ', μ', rfl, ok, en, e, q⟩ := h
  obtain ⟨⟨⟨its, c⟩, μ1⟩, e1, e⟩ := bnd e
  refine ⟨W, Γ, its, c, μ1, rfl, ok, en, e1, fun J W1 hμ1 ok1 s1 jr => ?_⟩
  obtain ⟨c1, ds, vs, r1, hj⟩ := jr
  refine ⟨fun i m σ2 H2 => m = its.length - i ∧ i ≤ its.length ∧ ∃ W2 Γ2, W2.H = H2 ∧ Ok K W2 ∧ Step W1 W2 ∧ EnvR K W2 Γ2 σ2 ∧ ckOf c W2.μ ∧ forG c g sb (its.drop i) Γ2 W2.μ = some (o, Γ', μ'), ⟨its.length, by simp, Nat.zero_le _, W1, Γ, rfl, ok1, .refl, en.step ok s1, c1, by rw [hμ1]; exact e⟩, ?_⟩
  rintro i m σ2 H2 ⟨rfl, hi, W2, Γ2, rfl, ok2, s2, en2, c2, e2⟩
  obtain ⟨hstop, hgo⟩ := hj W2 i ok2 c2 (r1.step ok1 s2)
  by_cases hlt : i < its.length
  · refine .inr ?_
    have hd : its[i]? = some its[i] := List.getElem?_eq_getElem hlt
    obtain ⟨h1, h2⟩ := hgo _ hd
    rw [List.drop_eq_getElem_cons hlt] at e2
    obtain ⟨p, e3, e2⟩ := bnd e2
    obtain ⟨⟨o4, Γ4, μ4⟩, e4, e2⟩ := bnd e2
    refine ⟨h1, fun σ' H' => i + 1 ≤ its.length ∧ ∃ W2 Γ2, W2.H = H' ∧ Ok K W2 ∧ Step W1 W2 ∧ EnvR K W2 Γ2 σ' ∧ ckOf c W2.μ ∧ forG c g sb (its.drop (i + 1)) Γ2 W2.μ = some (o, Γ', μ'), fun σ' H' hN => ⟨its.length - (i + 1), by omega, rfl, hN⟩, fun x H' hy => ?_⟩
    obtain ⟨W3, rfl, hμ3, ok3, s3, r3⟩ := h2 x H' hy
    refine ⟨W3, Γ2, its[i], p.1, p.2, rfl, ok3, en2.step ok2 s3, r3, by rw [hμ3]; exact e3, fun W4 σ4 hμ4 ok4 s4 en4 => ⟨W4, p.1, o4, Γ4, μ4, rfl, ok4, en4, by rw [hμ4]; exact e4, fun W5 σ5 hμ5 ok5 s5 en5 => ?_⟩⟩
    have st := s2.trans (s3.trans (s4.trans s5))
    cases o4 with
    | nx => obtain ⟨hc5, e2⟩ := chk_some e2; exact ⟨hlt, W5, Γ4, rfl, ok5, st, en5, by rw [hμ5]; exact hc5, by rw [hμ5]; exact e2⟩
    | ct => obtain ⟨hc5, e2⟩ := chk_some e2; exact ⟨hlt, W5, Γ4, rfl, ok5, st, en5, by rw [hμ5]; exact hc5, by rw [hμ5]; exact e2⟩
    | bk => cases e2; exact q W5 σ5 hμ5 ok5 (s1.trans st) en5
    | rt d => cases e2; exact q W5 σ5 hμ5 ok5 (s1.trans st) en5
  · have e' : i = its.length := by omega
    subst e'
    rw [List.drop_eq_nil_of_le (Nat.le_refl _)] at e2
    cases e2
    exact .inl ⟨hstop (Nat.le_refl _), q W2 σ2 rfl ok2 (s1.trans s2) en2⟩
end
end L3
set_option Elab.async false
set_option linter.all false
set_option maxRecDepth 100000
namespace L3
open PySem PySem.Spec L2
structure StepB (p : Addr) (W W' : Wd) : Prop where
  ρ : ∀ (k : Nat) a, W.ρ[k]? = some a → W'.ρ[k]? = some a
  live : ∀ a, RL W' a → RL W a ∨ W.H a = none
  keep : ∀ a o, a ≠ p → W.H a = some o → ¬ RL W a → W'.H a = some o
  hid : W'.hid = W.hid
  still : ∀ a, W.H a ≠ none → W'.H a ≠ none
section
variable {K : PySem.W.Frag} {W W' W'' : Wd} {p : Addr}
theorem Step.b (s : Step W W') : StepB p W W' := ⟨s.ρ, s.live, fun a o _ h n => s.keep a o h n, s.hid, s.still⟩
theorem StepB.nlive (s : StepB p W W') {a : Addr} {o : HO} (h : W.H a = some o) (n : ¬ RL W a) : ¬ RL W' a := fun z => by
  rcases s.live a z with z | z
  · exact n z
  · rw [h] at z; cases z
theorem StepB.trans (s : StepB p W W') (t : StepB p W' W'') : StepB p W W'' where
  ρ k a h := t.ρ k a (s.ρ k a h)
  live a h := by
    rcases t.live a h with z | z
    · exact s.live a z
    · exact .inr (Classical.byContradiction fun n => s.still a n z)
  keep a o hp h n := t.keep a o hp (s.keep a o hp h n) (s.nlive h n)
  hid := t.hid.trans s.hid
  still a h := t.still a (s.still a h)
mutual
theorem DR.stepB (ok : Ok K W) (hp : W.hid p) (hl : ∃ ys, W.H p = some (.lst ys)) (s : StepB p W W') : ∀ {d : D} {v : V}, DR K W d v → DR K W' d v
  | _, _, .non => .non
  | _, _, .bl b => .bl b
  | _, _, .int i => .int i
  | _, _, .str x => .str x
  | _, _, .ref h => .ref (s.ρ _ _ h)
  | _, _, .lst r n h => .lst (s.keep _ _ (fun z => n (.inr (by rw [z]; exact hp))) r (fun z => n (.inl z))) (fun z => z.elim (s.nlive r (fun z => n (.inl z))) (fun z => n (.inr (by rw [s.hid] at z; exact z)))) (DRs.stepB ok hp hl s h)
  | _, _, .scr r h => .scr (by
      rcases r with ⟨o, r⟩ | r
      · obtain ⟨ys, hl⟩ := hl
        exact .inl ⟨o, s.keep _ _ (fun z => by rw [z, hl] at r; cases r) r (ok.nofrz r)⟩
      · exact .inr r) (DRs.stepB ok hp hl s h)
  | _, _, .tup r h => .tup (by
      obtain ⟨ys, hl⟩ := hl
      exact s.keep _ _ (fun z => by rw [z, hl] at r; cases r) r (ok.notup (.inl r))) (DRs.stepB ok hp hl s h)
  | _, _, .gt r h => .gt (by
      rcases r with r | r
      · have n := ok.notup r
        obtain ⟨ys, hl⟩ := hl
        rcases r with r | ⟨o, r⟩
        · exact .inl (.inl (s.keep _ _ (fun z => by rw [z, hl] at r; cases r) r n))
        · exact .inl (.inr ⟨o, s.keep _ _ (fun z => by rw [z, hl] at r; cases r) r n⟩)
      · exact .inr r) (DRs.stepB ok hp hl s h)
theorem DRs.stepB (ok : Ok K W) (hp : W.hid p) (hl : ∃ ys, W.H p = some (.lst ys)) (s : StepB p W W') : ∀ {ds : List D} {vs : List V}, DRs K W ds vs → DRs K W' ds vs
  | _, _, .nil => .nil
  | _, _, .cons h t => .cons (h.stepB ok hp hl s) (DRs.stepB ok hp hl s t)
end
theorem OR.stepB (ok : Ok K W) (hp : W.hid p) (hl : ∃ ys, W.H p = some (.lst ys)) (s : StepB p W W') {a : Addr} {o : O} {ho : HO} (h : OR K W a o ho) : OR K W' a o ho := by
  cases o with
  | lst ds => obtain ⟨vs, e, q⟩ := h; exact ⟨vs, e, q.stepB ok hp hl s⟩
  | dK kvs => obtain ⟨vs, e, q⟩ := h; exact ⟨vs, e, Paired.mapP q fun _ _ ⟨e, q⟩ => ⟨e, q.stepB ok hp hl s⟩⟩
  | ins C fs => obtain ⟨vs, e, q⟩ := h; exact ⟨vs, e, Paired.mapP q fun _ _ ⟨e, q⟩ => ⟨e, q.stepB ok hp hl s⟩⟩
  | exc C => exact h
theorem EnvR.stepB {Γ : G} {σ : St} (e : EnvR K W Γ σ) (ok : Ok K W) (hp : W.hid p) (hl : ∃ ys, W.H p = some (.lst ys)) (s : StepB p W W') : EnvR K W' Γ σ := ⟨e.len, fun i d h => let ⟨v, a, b⟩ := e.at_ i d h; ⟨v, a, b.stepB ok hp hl s⟩⟩
def Wd.re (W : Wd) (p : Addr) (o : HO) : Wd := { W with H := upd W.H p o }
theorem stepB_re {o : HO} : StepB p W (W.re p o) where
  ρ _ _ h := h
  live _ h := .inl h
  keep a u hp e _ := by show upd W.H p o a = _; rw [upd_ne hp]; exact e
  hid := rfl
  still a n := by
    show upd W.H p o a ≠ none
    by_cases e : a = p
    · subst e; rw [upd_same]; simp
    · rw [upd_ne e]; exact n
theorem ok_re (ok : Ok K W) (hp : W.hid p) (hl : ∃ ys, W.H p = some (.lst ys)) {o : HO} : Ok K (W.re p o) where
  len := ok.len
  nd := ok.nd
  rs a m := (stepB_re (W := W) (p := p) (o := o)).still a (ok.rs a m)
  at_ k u e := by
    obtain ⟨a, ho, h1, h2, h3⟩ := ok.at_ k u e
    have hne : a ≠ p := fun z => (ok.hd p hp).2 (z ▸ ⟨k, u, e, h1⟩)
    exact ⟨a, ho, h1, by show upd W.H p o a = _; rw [upd_ne hne]; exact h2, h3.stepB ok hp hl stepB_re⟩
  hd0 a z := ⟨(stepB_re (W := W) (p := p) (o := o)).still a (ok.hd a z).1, (ok.hd0 a z).2⟩
mutual
theorem DR.hide (hp : W.H p = none) (ok : Ok K W) {o : HO} : ∀ {d : D} {v : V}, DR K W d v → DR K (W.hide p o) d v
  | _, _, .non => .non
  | _, _, .bl b => .bl b
  | _, _, .int i => .int i
  | _, _, .str x => .str x
  | _, _, .ref h => .ref h
  | _, _, .lst r n h => .lst (by show upd W.H p o _ = _; rw [upd_ne (ne_of_none r hp)]; exact r) (fun z => z.elim (fun z => n (.inl z)) (fun z => z.elim (fun z => by rw [z, hp] at r; cases r) (fun z => n (.inr z)))) (DRs.hide hp ok h)
  | _, _, .scr r h => .scr (sf_step ok (step_lay hp) r) (DRs.hide hp ok h)
  | _, _, .tup r h => .tup (by show upd W.H p o _ = _; rw [upd_ne (ne_of_none r hp)]; exact r) (DRs.hide hp ok h)
  | _, _, .gt r h => .gt (tp_step ok (step_lay hp) r) (DRs.hide hp ok h)
theorem DRs.hide (hp : W.H p = none) (ok : Ok K W) {o : HO} : ∀ {ds : List D} {vs : List V}, DRs K W ds vs → DRs K (W.hide p o) ds vs
  | _, _, .nil => .nil
  | _, _, .cons h t => .cons (h.hide hp ok) (DRs.hide hp ok t)
end
theorem OR.hide (hp : W.H p = none) (ok : Ok K W) {o : HO} {a : Addr} {x : O} {ho : HO} (h : OR K W a x ho) : OR K (W.hide p o) a x ho := by
  cases x with
  | lst ds => obtain ⟨vs, e, q⟩ := h; exact ⟨vs, e, q.hide hp ok⟩
  | dK kvs => obtain ⟨vs, e, q⟩ := h; exact ⟨vs, e, Paired.mapP q fun _ _ ⟨e, q⟩ => ⟨e, q.hide hp ok⟩⟩
  | ins C fs => obtain ⟨vs, e, q⟩ := h; exact ⟨vs, e, Paired.mapP q fun _ _ ⟨e, q⟩ => ⟨e, q.hide hp ok⟩⟩
  | exc C => exact h
theorem EnvR.hide {Γ : G} {σ : St} (e : EnvR K W Γ σ) (hp : W.H p = none) (ok : Ok K W) {o : HO} : EnvR K (W.hide p o) Γ σ := ⟨e.len, fun i d h => let ⟨v, a, b⟩ := e.at_ i d h; ⟨v, a, b.hide hp ok⟩⟩
theorem ok_hide (ok : Ok K W) (hp : W.H p = none) {o : HO} : Ok K (W.hide p o) where
  len := ok.len
  nd := ok.nd
  rs a m := (step_lay (o := o) hp).still a (ok.rs a m)
  at_ k u e := by
    obtain ⟨a, ho, h1, h2, h3⟩ := ok.at_ k u e
    exact ⟨a, ho, h1, by show upd W.H p o a = _; rw [upd_ne (ne_of_none h2 hp)]; exact h2, h3.hide hp ok⟩
  hd0 a z := by
    rcases z with rfl | z
    · exact ⟨by show upd W.H a o a ≠ none; rw [upd_same]; simp, fun m => ok.rs a m hp⟩
    · exact ⟨(step_lay (o := o) hp).still a (ok.hd a z).1, (ok.hd0 a z).2⟩
def Wd.show (W : Wd) (h : Addr → Prop) : Wd := { W with hid := h }
mutual
theorem DR.show {h : Addr → Prop} (hs : ∀ a, h a → W.hid a) : ∀ {d : D} {v : V}, DR K W d v → DR K (W.show h) d v
  | _, _, .non => .non
  | _, _, .bl b => .bl b
  | _, _, .int i => .int i
  | _, _, .str x => .str x
  | _, _, .ref h => .ref h
  | _, _, .lst r n h => .lst r (fun z => n (z.elim .inl (fun z => .inr (hs _ z)))) (DRs.show hs h)
  | _, _, .scr r h => .scr r (DRs.show hs h)
  | _, _, .tup r h => .tup r (DRs.show hs h)
  | _, _, .gt r h => .gt r (DRs.show hs h)
theorem DRs.show {h : Addr → Prop} (hs : ∀ a, h a → W.hid a) : ∀ {ds : List D} {vs : List V}, DRs K W ds vs → DRs K (W.show h) ds vs
  | _, _, .nil => .nil
  | _, _, .cons h t => .cons (h.show hs) (DRs.show hs t)
end
theorem ok_show (ok : Ok K W) {h : Addr → Prop} (hs : ∀ a, h a → W.hid a) : Ok K (W.show h) where
  len := ok.len
  nd := ok.nd
  rs := ok.rs
  at_ k u e := by
    obtain ⟨a, ho, h1, h2, h3⟩ := ok.at_ k u e
    refine ⟨a, ho, h1, h2, ?_⟩
    cases u with
    | lst ds => obtain ⟨vs, e, q⟩ := h3; exact ⟨vs, e, q.show hs⟩
    | dK kvs => obtain ⟨vs, e, q⟩ := h3; exact ⟨vs, e, Paired.mapP q fun _ _ ⟨e, q⟩ => ⟨e, q.show hs⟩⟩
    | ins C fs => obtain ⟨vs, e, q⟩ := h3; exact ⟨vs, e, Paired.mapP q fun _ _ ⟨e, q⟩ => ⟨e, q.show hs⟩⟩
    | exc C => exact h3
  hd0 a z := ok.hd0 a (hs a z)
theorem step_around {o : HO} (hp : W.H p = none) (s : StepB p (W.hide p o) W') : Step W (W'.show W.hid) where
  ρ k a h := s.ρ k a h
  live a z := by
    rcases s.live a z with z | z
    · exact .inl z
    · have z : upd W.H p o a = none := z
      by_cases e : a = p
      · subst e; rw [upd_same] at z; cases z
      · rw [upd_ne e] at z; exact .inr z
  keep a u e n := s.keep a u (ne_of_none e hp) (by show upd W.H p o a = _; rw [upd_ne (ne_of_none e hp)]; exact e) n
  hid := rfl
  still a n := s.still a (by
    show upd W.H p o a ≠ none
    by_cases e : a = p
    · subst e; rw [upd_same]; simp
    · rw [upd_ne e]; exact n)
theorem nrl_hid (ok : Ok K W) (hp : W.hid p) : ¬ RL W p := (ok.hd p hp).2
end
def capG (own : List Str) (cap : List (Str × Nat)) (Γ : G) : G := own.map (fun _ => none) ++ cap.map fun p => (Γ[p.2]?).join
theorem EnvR.cap {K : PySem.W.Frag} {W : Wd} {Γ : G} {σ : St} (e : EnvR K W Γ σ) (own : List Str) (cap : List (Str × Nat)) : EnvR K W (capG own cap Γ) (capSt own cap σ) where
  len := by simp [capG, capSt]
  at_ i d h := by
    unfold capG at h
    unfold capSt
    by_cases hi : i < own.length
    · rw [List.getElem?_append_left (by simpa using hi)] at h
      simp [hi] at h
    · rw [List.getElem?_append_right (by simpa using hi)] at h ⊢
      simp only [List.length_map, List.getElem?_map] at h ⊢
      cases hc : cap[i - own.length]? with
      | none => rw [hc] at h; cases h
      | some p =>
        rw [hc] at h
        simp only [Option.map_some] at h ⊢
        cases hg : Γ[p.2]? with
        | none => rw [hg] at h; cases h
        | some x =>
          rw [hg] at h
          cases x with
          | none => cases h
          | some d' =>
            cases h
            obtain ⟨v, hv, r⟩ := e.at_ _ _ hg
            exact ⟨v, by rw [hv]; rfl, r⟩
noncomputable def compG (c : Ck) (g : GV) (tc : BV) (te : EV) : List D → G → M → Option (List D × M)
  | [], _, μ => some ([], μ)
  | d :: r, Γ, μ => (g d Γ μ).bind fun p => (tc p.1 p.2).bind fun t => if t.1 = true then (te p.1 t.2).bind fun v => chk (ckOf c v.2) ((compG c g tc te r p.1 v.2).bind fun q => some (v.1 :: q.1, q.2)) else chk (ckOf c t.2) (compG c g tc te r p.1 t.2)
def bYes : BV := fun _ μ => some (true, μ)
section
variable {X : Cx} {K : PySem.W.Frag} {N' own : List Str} {cap : List (Str × Nat)} {scope : Scope} {tg iter elt : Expr} {ifs : List Expr} {pos : Pos} {iv : IV} {g : GV} {tc : BV} {te : EV}
theorem PIf_imp {t t' : TT} (h : PIf X ifs t) (hi : ∀ σ H Q, t' σ H Q → t σ H Q) : PIf X ifs t' := fun pins s σ H Q I hw => h pins s σ H Q I (hi _ _ _ hw)
theorem xif_nil : PIf X [] (tDB K bYes) := PIf_imp pif_nil fun σ H Q h => by
  obtain ⟨W, Γ, b, μ', rfl, ok, en, e, q⟩ := h
  cases e
  exact q W rfl ok .refl
theorem xif_one {c : Expr} (h : PT X c (tDB K tc)) : PIf X [c] (tDB K tc) := pif_one h
theorem comp_turns {W1 : Wd} {J : It} {its : List D} {c : Ck} {Γ0 : G} {σ0 : St} {rs : List D} {μ' : M} {p : Addr} {Z : Hp → Prop} (ok1 : Ok K W1) (hp : W1.H p = none) (jr : JR K W1 J its c) (en : EnvR K W1 Γ0 σ0) (hl : its.length ≤ 1000000)
    (e : compG c g tc te its Γ0 W1.μ = some (rs, μ')) (hZ : ∀ W' ys, W'.μ = μ' → Ok K W' → StepB p (W1.hide p (.lst [])) W' → W'.hid p → W'.H p = some (.lst ys) → DRs K W' rs ys → Z W'.H) :
    CompTurns J (tDG K g) (tDB K tc) (tD K te) p σ0 W1.H Z := by
  obtain ⟨c1, ds, vs, r1, hj⟩ := jr
  refine ⟨fun i m σ2 H2 => m = its.length - i ∧ i ≤ its.length ∧ ∃ W2 Γ2 done rest ys, W2.H = H2 ∧ Ok K W2 ∧ StepB p (W1.hide p (.lst [])) W2 ∧ W2.hid p ∧ W2.H p = some (.lst ys) ∧ DRs K W2 done ys ∧ ys.length ≤ i ∧ EnvR K W2 Γ2 σ2 ∧ ckOf c W2.μ ∧ compG c g tc te (its.drop i) Γ2 W2.μ = some (rest, μ') ∧ done ++ rest = rs, ?_, ?_⟩
  · exact ⟨its.length, by simp, Nat.zero_le _, W1.hide p (.lst []), Γ0, [], rs, [], rfl, ok_hide ok1 hp, ⟨fun _ _ h => h, fun _ h => .inl h, fun _ _ _ h _ => h, rfl, fun _ h => h⟩, .inl rfl, upd_same, .nil, Nat.le_refl _, en.hide hp ok1, c1, e, rfl⟩
  rintro i m σ2 H2 ⟨rfl, hi, W2, Γ2, done, rest, ys, rfl, ok2, s2, hp2, hy2, rd, hyl, en2, c2, e2, ed⟩
  have rj : DRs K W2 ds vs := (r1.hide hp ok1).stepB (ok_hide ok1 hp) (.inl rfl) ⟨[], upd_same⟩ s2
  obtain ⟨hstop, hgo⟩ := hj W2 i ok2 c2 rj
  by_cases hlt : i < its.length
  · refine .inr ?_
    have hd : its[i]? = some its[i] := List.getElem?_eq_getElem hlt
    obtain ⟨h1, h2⟩ := hgo _ hd
    rw [List.drop_eq_getElem_cons hlt] at e2
    obtain ⟨pg, e3, e2⟩ := bnd e2
    obtain ⟨pt, e4, e2⟩ := bnd e2
    refine ⟨h1, fun σ' H' => i + 1 ≤ its.length ∧ ∃ W2 Γ2 done rest ys, W2.H = H' ∧ Ok K W2 ∧ StepB p (W1.hide p (.lst [])) W2 ∧ W2.hid p ∧ W2.H p = some (.lst ys) ∧ DRs K W2 done ys ∧ ys.length ≤ i + 1 ∧ EnvR K W2 Γ2 σ' ∧ ckOf c W2.μ ∧ compG c g tc te (its.drop (i + 1)) Γ2 W2.μ = some (rest, μ') ∧ done ++ rest = rs, fun σ' H' hN => ⟨its.length - (i + 1), by omega, rfl, hN⟩, fun x H' hy => ?_⟩
    obtain ⟨W3, rfl, hμ3, ok3, s3, r3⟩ := h2 x H' hy
    refine ⟨W3, Γ2, its[i], pg.1, pg.2, rfl, ok3, en2.step ok2 s3, r3, by rw [hμ3]; exact e3, fun W4 σ4 hμ4 ok4 s4 en4 => ⟨W4, pg.1, pt.1, pt.2, rfl, ok4, en4, by rw [hμ4]; exact e4, fun W5 hμ5 ok5 s5 => ?_⟩⟩
    have s25 := s3.trans (s4.trans s5)
    split at e2
    · rename_i ht
      obtain ⟨pv, e5, e2⟩ := bnd e2
      obtain ⟨c5, e2⟩ := chk_some e2
      obtain ⟨pq, e6, e2⟩ := bnd e2
      cases e2
      refine ite2 (fun _ => ?_) (fun n => absurd ht n)
      refine ⟨W5, pg.1, pv.1, pv.2, rfl, ok5, en4.step ok4 s5, by rw [hμ5]; exact e5, fun v W6 hμ6 ok6 s6 r6 => ?_⟩
      have s26 := s25.trans s6
      have hp6 : W6.hid p := by rw [s26.hid]; exact hp2
      have hy6 : W6.H p = some (.lst ys) := s26.keep _ _ hy2 (nrl_hid ok2 hp2)
      have rd6 := rd.step ok2 s26
      refine ⟨ys, hy6, lt_line (by omega), hlt, W6.re p (.lst (ys ++ [v])), pg.1, done ++ [pv.1], pq.1, ys ++ [v], rfl, ok_re ok6 hp6 ⟨_, hy6⟩, (s2.trans s26.b).trans stepB_re, hp6, upd_same, ?_, by simp; omega, (((en4.step ok4 s5).step ok5 s6).stepB ok6 hp6 ⟨_, hy6⟩ stepB_re), by show ckOf c W6.μ; rw [hμ6]; exact c5, by show compG c g tc te _ _ W6.μ = _; rw [hμ6]; exact e6, by simpa using ed⟩
      exact (rd6.append (.cons r6 .nil)).stepB ok6 hp6 ⟨_, hy6⟩ stepB_re
    · rename_i ht
      obtain ⟨c5, e2⟩ := chk_some e2
      refine ite2 (fun n => absurd n ht) (fun _ => ?_)
      exact ⟨hlt, W5, pg.1, done, rest, ys, rfl, ok5, s2.trans s25.b, by rw [s25.hid]; exact hp2, s25.keep _ _ hy2 (nrl_hid ok2 hp2), rd.step ok2 s25, by omega, en4.step ok4 s5, by rw [hμ5]; exact c5, by rw [hμ5]; exact e2, ed⟩
  · have e' : i = its.length := by omega
    subst e'
    rw [List.drop_eq_nil_of_le (Nat.le_refl _)] at e2
    cases e2
    rw [List.append_nil] at ed
    subst ed
    exact .inl ⟨hstop (Nat.le_refl _), hZ W2 ys rfl ok2 s2 hp2 hy2 rd⟩
noncomputable def vComp (own : List Str) (cap : List (Str × Nat)) (iv : IV) (g : GV) (tc : BV) (te : EV) : EV := fun Γ μ => (iv Γ μ).bind fun s => if s.1.1.length ≤ 1000000 then (compG s.1.2 g tc te s.1.1 (capG own cap Γ) s.2).bind fun q => some (.lst q.1, q.2) else none
theorem comp_data {W W1 W' : Wd} {p : Addr} {rs : List D} {ys : List V} (s1 : Step W W1) (hp : W1.H p = none) (ok1 : Ok K W1) (ok' : Ok K W') (s : StepB p (W1.hide p (.lst [])) W') (hp' : W'.hid p) (hy : W'.H p = some (.lst ys)) (r : DRs K W' rs ys) :
    Ok K (W'.show W1.hid) ∧ Step W (W'.show W1.hid) ∧ DR K (W'.show W1.hid) (.lst rs) (.ref p) := by
  have hs : ∀ a, W1.hid a → W'.hid a := fun a z => by rw [s.hid]; exact .inr z
  refine ⟨ok_show ok' hs, s1.trans (step_around hp s), .lst hy (fun z => ?_) (r.show hs)⟩
  rcases z with z | z
  · exact nrl_hid ok' hp' z
  · exact fresh_nhid ok1 hp z
theorem vComp_at {W : Wd} {Γ : G} {σ : St} {d : D} {μ' : M} (ok : Ok K W) (en : EnvR K W Γ σ) (e : vComp own cap iv g tc te Γ W.μ = some (d, μ')) {Z : Addr → Hp → Prop} (q : ∀ v W', W'.μ = μ' → Ok K W' → Step W W' → DR K W' d v → ∀ p, v = .ref p → Z p W'.H) :
    tDI K iv σ W.H fun J H1 => ∀ p, H1 p = none → CompTurns J (tDG K g) (tDB K tc) (tD K te) p (capSt own cap σ) H1 (Z p) := by
  obtain ⟨⟨⟨its, c⟩, μ1⟩, e1, e⟩ := bnd e
  refine ⟨W, Γ, its, c, μ1, rfl, ok, en, e1, fun J W1 hμ1 ok1 s1 jr p hp => ?_⟩
  split at e
  · rename_i hl
    obtain ⟨⟨rs, μ2⟩, e2, e⟩ := bnd e
    cases e
    refine comp_turns ok1 hp jr ((en.step ok s1).cap own cap) hl (by rw [hμ1]; exact e2) fun W' ys hμ' ok' s' hp' hy r => ?_
    obtain ⟨a1, a2, a3⟩ := comp_data s1 hp ok1 ok' s' hp' hy r
    exact q _ (W'.show W1.hid) hμ' a1 a2 a3 p rfl
  · cases e
theorem x_comp (S : CompScope X N' own cap scope) (hi : PI X tg iter (tDI K iv))
    (hg : ∀ cl C s₀ H₀ ex, PG (compCx X N' scope cl C s₀ H₀ ex) tg (tDG K g)) (ht : ∀ cl C s₀ H₀ ex, PIf (compCx X N' scope cl C s₀ H₀ ex) ifs (tDB K tc)) (he : ∀ cl C s₀ H₀ ex, PE (compCx X N' scope cl C s₀ H₀ ex) elt (tD K te))
    (hx : ∀ e s, X.xe e s → False := by exact fun _ _ z => z) (hc : X.calm = true := by rfl) (hs : ∀ x, foldedSetIterable iter X.env x = pure x := by intro _; rfl) :
    PE X (.ListComp elt [⟨tg, iter, ifs, 0⟩] scope pos) (tD K (vComp own cap iv g tc te)) := PE_imp (pe_comp S hi hg ht he hx hc hs) fun σ H Q h => by
  obtain ⟨W, Γ, d, μ', rfl, ok, en, e, q⟩ := h
  exact vComp_at ok en e fun v W' h1 h2 h3 h4 p hv => by subst hv; exact q _ W' h1 h2 h3 h4
end
end L3
set_option Elab.async false
set_option linter.all false
set_option maxRecDepth 100000
namespace L3
open PySem PySem.Spec L2
open PyProof.Rows (envOfC)
def runF (n m : Nat) (es : SV) : List D → M → Option (D × M) := fun ds μ => if ds.length = m then (es (ds.map some ++ List.replicate (n - ds.length) none) μ).bind fun o => match o.1 with
    | .rt d => some (d, o.2.2)
    | .nx => some (.non, o.2.2)
    | _ => none
  else none
section
variable {P : Program} {w : World} {K : PySem.W.Frag} {mg : Str → Option Value} {base : Heap}
theorem env_start {W : Wd} {ds : List D} {vs : List V} {n : Nat} (r : DRs K W ds vs) : EnvR K W (ds.map some ++ List.replicate (n - ds.length) none) (vs.map some ++ List.replicate (n - vs.length) none) where
  len := by simp [r.length]
  at_ i d h := by
    by_cases hi : i < ds.length
    · rw [List.getElem?_append_left (by simpa using hi)] at h
      rw [List.getElem?_append_left (by simpa using r.length ▸ hi)]
      simp only [List.getElem?_map] at h ⊢
      cases hd : ds[i]? with
      | none => rw [hd] at h; cases h
      | some d' =>
        rw [hd] at h
        cases h
        obtain ⟨v, hv, q⟩ := r.get hd
        exact ⟨v, by rw [hv]; rfl, q⟩
    · rw [List.getElem?_append_right (by simpa using hi)] at h
      simp [List.getElem?_replicate] at h
theorem fn_m {x qual : Str} {st : Stmt} {f : Addr} {fd : FuncData} {N ps : List Str} {k : Nat} {es : SV} (F : Fun K x qual st f fd) (S : FnScope N ps (defScope st))
    (hb : ∀ (cdv : Value) (A : Around) (outer : List Env) (s : Shared) (H : Hp) (E : XK), Room k (A.deeper (envOfC qual (defScope st) s.heap.objs.size f cdv)) → PSs (cxOf CX0 P w K mg base N qual (defScope st) f cdv A outer s H E).nox (defBody st) (tDS K es)) :
    FnOk P w K mg base CX0 (k + 1) f fd ps (spM K (runF N.length ps.length es)) := by
  refine F.ok S (fun vs H Q E h => ?_) (fun cdv A outer s H vs Q E hr h => ?_)
  · obtain ⟨W, ds, d, μ', _, _, r, e, _⟩ := h
    unfold runF at e
    split at e
    · rename_i hl; rw [← r.length]; exact hl
    · cases e
  · obtain ⟨W, ds, d, μ', rfl, ok, r, e, q⟩ := h
    refine ⟨_, hb cdv A outer s W.H E hr, ?_⟩
    unfold runF at e
    split at e
    · obtain ⟨⟨o, Γ', μ2⟩, e1, e⟩ := bnd e
      refine ⟨W, _, o, Γ', μ2, rfl, ok, env_start r, e1, fun W' σ' hμ ok' s' en' => ?_⟩
      cases o with
      | rt z => cases e; exact fun v rv => q v W' hμ ok' s' rv
      | nx => cases e; exact q _ W' hμ ok' s' .non
      | bk => cases e
      | ct => cases e
    · cases e
end
section
variable {K : PySem.W.Frag} {W W' : Wd} {n : Nat}
end
end L3
set_option Elab.async false
set_option linter.all false
set_option maxRecDepth 100000
namespace L3
open PySem PySem.Spec L2
section
variable {X : Cx} {K : PySem.W.Frag} {a b c e : Expr} {ea eb ec : EV} {pos p : Pos}
theorem R2A.or {r r' : R2} {f g h : D → D → M → Option (D × M)} (ra : R2A K r f) (rb : R2A K r' g) (hh : ∀ x y μ z, h x y μ = some z → f x y μ = some z ∨ g x y μ = some z) : R2A K (fun x y H Q => r x y H Q ∨ r' x y H Q) h := by
  intro W x y d e z μ' Q ok r1 r2 hf q
  rcases hh _ _ _ _ hf with hf | hf
  · exact .inl (ra W x y d e z μ' Q ok r1 r2 hf q)
  · exact .inr (rb W x y d e z μ' Q ok r1 r2 hf q)
theorem ra_cat : R2A K rCat fCat := by
  intro W x y d e z μ' Q ok r1 r2 hf q
  obtain ⟨xs, hx, hf⟩ := bnd hf
  obtain ⟨ys, hy, hf⟩ := bnd hf
  split at hf
  · rename_i hl
    cases hf
    obtain ⟨a, vs, rfl, ha, hv⟩ := wlOf_at ok hx r1
    obtain ⟨b, us, rfl, hb, hu⟩ := wlOf_at ok hy r2
    exact ⟨a, b, vs, us, rfl, rfl, ha, hb, le_line (by rw [← hv.length, ← hu.length]; omega), fun p hp => q _ (W.lay p (.lst (vs ++ us))) rfl (ok_lay ok hp) (step_lay hp) (dr_lst ok hp (hv.append hu))⟩
  · cases hf
theorem ra_rep : R2A K rRep fRep := by
  intro W x y d e z μ' Q ok r1 r2 hf q
  obtain ⟨xs, hx, hf⟩ := bnd hf
  split at hf
  · split at hf
    · rename_i hl
      cases hf
      cases r2
      obtain ⟨a, vs, rfl, ha, hv⟩ := wlOf_at ok hx r1
      exact ⟨a, _, vs, rfl, rfl, ha, by omega, by omega, le_line (by rw [← hv.length]; omega), fun p hp => q _ (W.lay p _) rfl (ok_lay ok hp) (step_lay hp) (dr_lst ok hp (hv.rep _))⟩
    · cases hf
  · cases hf
def fCatT (x y : D) (μ : M) : Option (D × M) := match x with
  | .tup xs => (tpOf y).bind fun ys => if xs ≠ [] ∧ xs.length + ys.length ≤ 1000000 then some (.tup (xs ++ ys), μ) else none
  | _ => none
instance {α : Type} {xs : List α} : Decidable (xs ≠ []) := by cases xs <;> simp <;> infer_instance
theorem ra_catT : R2A K (rCatT K) fCatT := by
  intro W x y d e z μ' Q ok r1 r2 hf q
  unfold fCatT at hf
  split at hf
  · rename_i xs
    obtain ⟨ys, hy, hf⟩ := bnd hf
    split at hf
    case isFalse => cases hf
    rename_i hl
    cases hf
    have rr := r1
    obtain ⟨a, vs, rfl, ha, hv⟩ := tpOf_at (ds := xs) rfl r1
    obtain ⟨b, us, rfl, hb, hu⟩ := tpOf_at hy r2
    refine ⟨a, b, vs, us, rfl, rfl, ha, hb, fun z => ?_, le_line (by rw [← hv.length, ← hu.length]; omega), fun z => ?_, fun _ p hp => q _ (W.lay p (.tup (vs ++ us))) rfl (ok_lay ok hp) (step_lay hp) (dr_tup ok hp (hv.append hu))⟩
    · have := hv.length
      rw [z] at this
      exact hl.1 (List.length_eq_zero_iff.mp this)
    · have h0 := hu.length
      rw [z] at h0
      have h1 := List.length_eq_zero_iff.mp h0
      subst h1
      refine q _ W rfl ok .refl ?_
      rw [List.append_nil]
      exact rr
  · cases hf
def fPlus (x y : D) (μ : M) : Option (D × M) := match x with
  | .int i => match y with
    | .int j => some (.int (i + j), μ)
    | _ => none
  | .tup _ => fCatT x y μ
  | _ => fCat x y μ
theorem x_plus (ha : PE X a (tD K ea)) (hb : PE X b (tD K eb)) (hK : X.K = K := by rfl) : PE X (.BinOp a .Add b pos) (tD K (v2 fPlus ea eb)) := by
  subst hK
  refine x_op (op_add.or (op_cat.or op_catT)) ((ra_I0 (h := fun i j => .int (i + j)) fun _ _ _ => .int _).or (ra_cat.or ra_catT (h := fun x y μ => match x with | .tup _ => fCatT x y μ | _ => fCat x y μ) fun x y μ z h => ?_) fun x y μ z h => ?_) ha hb
  · split at h
    · exact .inr h
    · exact .inl h
  · unfold fPlus at h
    split at h
    · split at h
      · exact .inl h
      · cases h
    · exact .inr h
    · rename_i h1 h2
      refine .inr ?_
      split
      · exact absurd rfl (h2 _)
      · exact h
def fTimes (x y : D) (μ : M) : Option (D × M) := match x with
  | .int i => match y with
    | .int j => if CMul i j then some (.int (i * j), μ) else none
    | _ => none
  | _ => fRep x y μ
theorem x_times (ha : PE X a (tD K ea)) (hb : PE X b (tD K eb)) : PE X (.BinOp a .Mult b pos) (tD K (v2 fTimes ea eb)) := by
  refine x_op (op_mul.or op_rep) ((ra_I (C := CMul) (h := fun i j => .int (i * j)) fun _ _ _ => .int _).or ra_rep fun x y μ z h => ?_) ha hb
  unfold fTimes at h
  split at h
  · split at h
    · exact .inl h
    · cases h
  · exact .inr h
def vChain (f g : D → D → M → Option (D × M)) (ea eb ec : EV) : EV := fun Γ μ => (ea Γ μ).bind fun p => (eb Γ p.2).bind fun q => (f p.1 q.1 q.2).bind fun t => match t.1 with
  | .bl true => (ec Γ t.2).bind fun r => g q.1 r.1 r.2
  | .bl false => some (.bl false, t.2)
  | _ => none
end
section
variable {X : Cx} {K : PySem.W.Frag} {ea eb : EV} {pos p : Pos}
def enumD (ds : List D) : List D := ds.zipIdx.map fun x => D.tup [.int (x.2 : Nat), x.1]
def ivEn (ea : EV) : IV := fun Γ μ => (ea Γ μ).bind fun p => (lsC p.2 p.1).bind fun s => some ((enumD s.1, s.2), p.2)
def zipD : List D → List D → List D
  | x :: xs, y :: ys => .tup [x, y] :: zipD xs ys
  | _, _ => []
def ivZ (ea eb : EV) : IV := fun Γ μ => (ea Γ μ).bind fun p => (eb Γ p.2).bind fun q => match p.1, q.1 with
  | .lst xs, .lst ys => some ((zipD xs ys, none), q.2)
  | _, _ => none
end
end L3
set_option Elab.async false
set_option linter.all false
set_option maxRecDepth 100000
namespace L3
open PySem PySem.Spec L2
noncomputable def innerG (c : Ck) (g : GV) (tc : BV) (te : EV) : List D → G → M → Option (List D × G × M)
  | [], Γ, μ => some ([], Γ, μ)
  | d :: r, Γ, μ => (g d Γ μ).bind fun p => (tc p.1 p.2).bind fun t => if t.1 = true then (te p.1 t.2).bind fun v => chk (ckOf c v.2) ((innerG c g tc te r p.1 v.2).bind fun q => some (v.1 :: q.1, q.2)) else chk (ckOf c t.2) (innerG c g tc te r p.1 t.2)
noncomputable def compG2 (c : Ck) (g : GV) (tc : BV) (iv2 : IV) (g2 : GV) (tc2 : BV) (te : EV) : List D → G → M → Option (List D × M)
  | [], _, μ => some ([], μ)
  | d :: r, Γ, μ => (g d Γ μ).bind fun p => (tc p.1 p.2).bind fun t => if t.1 = true then (iv2 p.1 t.2).bind fun s => (innerG s.1.2 g2 tc2 te s.1.1 p.1 s.2).bind fun q => chk (ckOf c q.2.2) ((compG2 c g tc iv2 g2 tc2 te r q.2.1 q.2.2).bind fun z => some (q.1 ++ z.1, z.2)) else chk (ckOf c t.2) (compG2 c g tc iv2 g2 tc2 te r p.1 t.2)
section
variable {X : Cx} {K : PySem.W.Frag} {N' own : List Str} {cap : List (Str × Nat)} {scope : Scope} {tg iter elt tg2 iter2 : Expr} {ifs ifs2 : List Expr} {pos : Pos} {iv iv2 : IV} {g g2 : GV} {tc tc2 : BV} {te : EV}
noncomputable def vComp2 (own : List Str) (cap : List (Str × Nat)) (iv : IV) (g : GV) (tc : BV) (iv2 : IV) (g2 : GV) (tc2 : BV) (te : EV) : EV := fun Γ μ => (iv Γ μ).bind fun s => (compG2 s.1.2 g tc iv2 g2 tc2 te s.1.1 (capG own cap Γ) s.2).bind fun q => if q.1.length ≤ 1000000 then some (.lst q.1, q.2) else none
end
end L3
set_option Elab.async false
set_option linter.all false
set_option maxRecDepth 100000
namespace L3
open PySem PySem.Spec L2
section
variable {n : Nat} {μ : M}
theorem py_int {i : Int} : py (n + 1) μ (.int i) = some (.int i) := rfl
theorem py_lst {xs : List D} : py (n + 1) μ (.lst xs) = (optAll (py n μ) xs).bind fun ys => some (.list ys) := rfl
theorem py_tup {xs : List D} : py (n + 1) μ (.tup xs) = (optAll (py n μ) xs).bind fun ys => some (.tuple ys) := rfl
theorem bs {α β : Type} {a : α} {f : α → Option β} : (some a).bind f = f a := rfl
theorem optAll_map {α β γ : Type} {f : β → Option γ} {g : α → β} {h : α → γ} : ∀ {l : List α}, (∀ x ∈ l, f (g x) = some (h x)) → optAll f (l.map g) = some (l.map h)
  | [], _ => rfl
  | x :: r, e => by
    have e1 := e x (by simp)
    have e2 := optAll_map (l := r) fun y hy => e y (by simp [hy])
    simp only [List.map_cons, optAll, e1, e2, bs]
end
section
variable {Γ : G} {μ μ1 μ2 : M} {ea eb : EV} {x y d : D} {f : D → D → M → Option (D × M)} {f1 : D → M → Option (D × M)} {sa sb : SV} {i : Nat}
theorem e_var (h : Γ[i]? = some (some d)) : vVar i Γ μ = some (d, μ) := by unfold vVar; rw [h]
theorem e_2 (h1 : ea Γ μ = some (x, μ1)) (h2 : eb Γ μ1 = some (y, μ2)) : v2 f ea eb Γ μ = f x y μ2 := by unfold v2; rw [h1, bs, h2, bs]
end
def kSeq (b : SV) : Option (Out × G × M) → Option (Out × G × M)
  | some (.nx, Γ, μ) => b Γ μ
  | x => x
@[simp] theorem kSeq_nx {b : SV} {Γ : G} {μ : M} : kSeq b (some (.nx, Γ, μ)) = b Γ μ := rfl
@[simp] theorem kSeq_rt {b : SV} {d : D} {Γ : G} {μ : M} : kSeq b (some (.rt d, Γ, μ)) = some (.rt d, Γ, μ) := rfl
@[simp] theorem kSeq_bk {b : SV} {Γ : G} {μ : M} : kSeq b (some (.bk, Γ, μ)) = some (.bk, Γ, μ) := rfl
@[simp] theorem kSeq_ct {b : SV} {Γ : G} {μ : M} : kSeq b (some (.ct, Γ, μ)) = some (.ct, Γ, μ) := rfl
@[simp] theorem sSeq_eq {a b : SV} {Γ : G} {μ : M} : sSeq a b Γ μ = kSeq b (a Γ μ) := by
  unfold sSeq kSeq
  cases h : a Γ μ with
  | none => rfl
  | some o => obtain ⟨o1, Γ1, μ1⟩ := o; cases o1 <;> rfl
section
variable {Γ : G} {μ μ1 : M} {ea eb ec : EV} {ba bb : BV} {el : LV} {sa sb : SV} {i j : Nat} {d x y : D} {ds : List D} {b : Bool}
@[simp] theorem vVar_eq : vVar i Γ μ = match Γ[i]? with
  | some (some d) => some (d, μ)
  | _ => none := rfl
@[simp] theorem vC_eq : vC d Γ μ = some (d, μ) := rfl
def kV1 (f : D → M → Option (D × M)) : Option (D × M) → Option (D × M)
  | some (x, μ) => f x μ
  | none => none
@[simp] theorem kV1_s {f : D → M → Option (D × M)} : kV1 f (some (x, μ)) = f x μ := rfl
@[simp] theorem v1_eq {f : D → M → Option (D × M)} : v1 f ea Γ μ = kV1 f (ea Γ μ) := by
  unfold v1 kV1; cases ea Γ μ <;> rfl
def kV2b (f : D → D → M → Option (D × M)) (x : D) : Option (D × M) → Option (D × M)
  | some (y, μ) => f x y μ
  | none => none
@[simp] theorem kV2b_s {f : D → D → M → Option (D × M)} : kV2b f x (some (y, μ)) = f x y μ := rfl
def kV2 (f : D → D → M → Option (D × M)) (eb : EV) (Γ : G) : Option (D × M) → Option (D × M)
  | some (x, μ) => kV2b f x (eb Γ μ)
  | none => none
@[simp] theorem kV2_s {f : D → D → M → Option (D × M)} : kV2 f eb Γ (some (x, μ)) = kV2b f x (eb Γ μ) := rfl
@[simp] theorem v2_eq {f : D → D → M → Option (D × M)} : v2 f ea eb Γ μ = kV2 f eb Γ (ea Γ μ) := by
  unfold v2 kV2
  cases ea Γ μ with
  | none => rfl
  | some p => show (eb Γ p.2).bind _ = kV2b f p.1 (eb Γ p.2); cases eb Γ p.2 <;> rfl
def kT : Option (D × M) → Option (Bool × M)
  | some (.bl b, μ) => some (b, μ)
  | _ => none
@[simp] theorem kT_s : kT (some (.bl b, μ)) = some (b, μ) := rfl
@[simp] theorem vT_eq : vT ea Γ μ = kT (ea Γ μ) := by
  unfold vT kT
  cases ea Γ μ with
  | none => rfl
  | some p => obtain ⟨p1, p2⟩ := p; cases p1 <;> rfl
def kAnd (bb : BV) (Γ : G) : Option (Bool × M) → Option (Bool × M)
  | some (c, μ) => if c = true then bb Γ μ else some (false, μ)
  | none => none
@[simp] theorem kAnd_s {c : Bool} : kAnd bb Γ (some (c, μ)) = if c = true then bb Γ μ else some (false, μ) := rfl
@[simp] theorem bAnd_eq : bAnd ba bb Γ μ = kAnd bb Γ (ba Γ μ) := by unfold bAnd kAnd; cases ba Γ μ <;> rfl
def kOr (bb : BV) (Γ : G) : Option (Bool × M) → Option (Bool × M)
  | some (c, μ) => if c = true then some (true, μ) else bb Γ μ
  | none => none
@[simp] theorem kOr_s {c : Bool} : kOr bb Γ (some (c, μ)) = if c = true then some (true, μ) else bb Γ μ := rfl
@[simp] theorem bOr_eq : bOr ba bb Γ μ = kOr bb Γ (ba Γ μ) := by unfold bOr kOr; cases ba Γ μ <;> rfl
def kNot : Option (Bool × M) → Option (Bool × M)
  | some (c, μ) => some (!c, μ)
  | none => none
@[simp] theorem kNot_s {c : Bool} : kNot (some (c, μ)) = some (!c, μ) := rfl
@[simp] theorem bNot_eq : bNot ba Γ μ = kNot (ba Γ μ) := by unfold bNot kNot; cases ba Γ μ <;> rfl
def kIf (ea eb : EV) (Γ : G) : Option (Bool × M) → Option (D × M)
  | some (c, μ) => if c = true then ea Γ μ else eb Γ μ
  | none => none
@[simp] theorem kIf_s {c : Bool} : kIf ea eb Γ (some (c, μ)) = if c = true then ea Γ μ else eb Γ μ := rfl
@[simp] theorem vIf_eq : vIf ba ea eb Γ μ = kIf ea eb Γ (ba Γ μ) := by unfold vIf kIf; cases ba Γ μ <;> rfl
def kSIf (sa sb : SV) (Γ : G) : Option (Bool × M) → Option (Out × G × M)
  | some (c, μ) => if c = true then sa Γ μ else sb Γ μ
  | none => none
@[simp] theorem kSIf_s {c : Bool} : kSIf sa sb Γ (some (c, μ)) = if c = true then sa Γ μ else sb Γ μ := rfl
@[simp] theorem sIf_eq : sIf ba sa sb Γ μ = kSIf sa sb Γ (ba Γ μ) := by unfold sIf kSIf; cases ba Γ μ <;> rfl
def kVAnd (eb : EV) (Γ : G) : Option (D × M) → Option (D × M)
  | some (.bl c, μ) => if c = true then eb Γ μ else some (.bl false, μ)
  | _ => none
@[simp] theorem kVAnd_s {c : Bool} : kVAnd eb Γ (some (.bl c, μ)) = if c = true then eb Γ μ else some (.bl false, μ) := rfl
@[simp] theorem vAnd_eq : vAnd ea eb Γ μ = kVAnd eb Γ (ea Γ μ) := by
  unfold vAnd kVAnd
  cases ea Γ μ with
  | none => rfl
  | some p =>
    obtain ⟨p1, p2⟩ := p
    cases p1 with
    | bl c => cases c <;> rfl
    | _ => rfl
def kVOr (eb : EV) (Γ : G) : Option (D × M) → Option (D × M)
  | some (.bl c, μ) => if c = true then some (.bl true, μ) else eb Γ μ
  | _ => none
@[simp] theorem kVOr_s {c : Bool} : kVOr eb Γ (some (.bl c, μ)) = if c = true then some (.bl true, μ) else eb Γ μ := rfl
@[simp] theorem vOr_eq : vOr ea eb Γ μ = kVOr eb Γ (ea Γ μ) := by
  unfold vOr kVOr
  cases ea Γ μ with
  | none => rfl
  | some p =>
    obtain ⟨p1, p2⟩ := p
    cases p1 with
    | bl c => cases c <;> rfl
    | _ => rfl
@[simp] theorem lNil_eq : lNil Γ μ = some ([], μ) := rfl
def kLc2 (x : D) : Option (List D × M) → Option (List D × M)
  | some (r, μ) => some (x :: r, μ)
  | none => none
@[simp] theorem kLc2_s {r : List D} : kLc2 x (some (r, μ)) = some (x :: r, μ) := rfl
def kLc (el : LV) (Γ : G) : Option (D × M) → Option (List D × M)
  | some (x, μ) => kLc2 x (el Γ μ)
  | none => none
@[simp] theorem kLc_s : kLc el Γ (some (x, μ)) = kLc2 x (el Γ μ) := rfl
@[simp] theorem lCons_eq : lCons ea el Γ μ = kLc el Γ (ea Γ μ) := by
  unfold lCons kLc
  cases ea Γ μ with
  | none => rfl
  | some p => show (el Γ p.2).bind _ = kLc2 p.1 (el Γ p.2); cases el Γ p.2 <;> rfl
def kL (f : List D → M → Option (D × M)) : Option (List D × M) → Option (D × M)
  | some (r, μ) => f r μ
  | none => none
@[simp] theorem kL_s {f : List D → M → Option (D × M)} {r : List D} : kL f (some (r, μ)) = f r μ := rfl
@[simp] theorem vL_eq {f : List D → M → Option (D × M)} : vL f el Γ μ = kL f (el Γ μ) := by unfold vL kL; cases el Γ μ <;> rfl
@[simp] theorem sNx_eq : sNx Γ μ = some (.nx, Γ, μ) := rfl
@[simp] theorem sBk_eq : sBk Γ μ = some (.bk, Γ, μ) := rfl
@[simp] theorem sCt_eq : sCt Γ μ = some (.ct, Γ, μ) := rfl
def kEx (Γ : G) : Option (D × M) → Option (Out × G × M)
  | some (_, μ) => some (.nx, Γ, μ)
  | none => none
@[simp] theorem kEx_s : kEx Γ (some (x, μ)) = some (.nx, Γ, μ) := rfl
@[simp] theorem sExpr_eq : sExpr ea Γ μ = kEx Γ (ea Γ μ) := by unfold sExpr kEx; cases ea Γ μ <;> rfl
def kRt (Γ : G) : Option (D × M) → Option (Out × G × M)
  | some (x, μ) => some (.rt x, Γ, μ)
  | none => none
@[simp] theorem kRt_s : kRt Γ (some (x, μ)) = some (.rt x, Γ, μ) := rfl
@[simp] theorem sRet_eq : sRet ea Γ μ = kRt Γ (ea Γ μ) := by unfold sRet kRt; cases ea Γ μ <;> rfl
def kG : Option (G × M) → Option (Out × G × M)
  | some (Γ, μ) => some (.nx, Γ, μ)
  | none => none
@[simp] theorem kG_s : kG (some (Γ, μ)) = some (.nx, Γ, μ) := rfl
def kAs (g : GV) (Γ : G) : Option (D × M) → Option (Out × G × M)
  | some (x, μ) => kG (g x Γ μ)
  | none => none
@[simp] theorem kAs_s {g : GV} : kAs g Γ (some (x, μ)) = kG (g x Γ μ) := rfl
@[simp] theorem sAsg_eq {g : GV} : sAsg ea g Γ μ = kAs g Γ (ea Γ μ) := by
  unfold sAsg kAs
  cases ea Γ μ with
  | none => rfl
  | some p => show (g p.1 Γ p.2).bind _ = kG (g p.1 Γ p.2); cases g p.1 Γ p.2 <;> rfl
def kPar (i j : Nat) (Γ : G) : Option (List D × M) → Option (Out × G × M)
  | some ([v, w], μ) => some (.nx, (Γ.set i (some v)).set j (some w), μ)
  | _ => none
@[simp] theorem kPar_s : kPar i j Γ (some ([x, y], μ)) = some (.nx, (Γ.set i (some x)).set j (some y), μ) := rfl
@[simp] theorem sPar_eq : sPar i j el Γ μ = kPar i j Γ (el Γ μ) := by
  unfold sPar kPar
  cases el Γ μ with
  | none => rfl
  | some p =>
    obtain ⟨p1, p2⟩ := p
    match p1 with
    | [] => rfl
    | [_] => rfl
    | [_, _] => rfl
    | _ :: _ :: _ :: _ => rfl
def kAu2 (i : Nat) (Γ : G) : Option (D × M) → Option (Out × G × M)
  | some (x, μ) => some (.nx, Γ.set i (some x), μ)
  | none => none
@[simp] theorem kAu2_s : kAu2 i Γ (some (x, μ)) = some (.nx, Γ.set i (some x), μ) := rfl
def kAu (f : D → D → M → Option (D × M)) (i : Nat) (Γ : G) (x : D) : Option (D × M) → Option (Out × G × M)
  | some (y, μ) => kAu2 i Γ (f x y μ)
  | none => none
@[simp] theorem kAu_s {f : D → D → M → Option (D × M)} : kAu f i Γ x (some (y, μ)) = kAu2 i Γ (f x y μ) := rfl
@[simp] theorem sAug_eq {f : D → D → M → Option (D × M)} : sAug i f ea Γ μ = match Γ[i]? with
  | some (some x) => kAu f i Γ x (ea Γ μ)
  | _ => none := by
  unfold sAug
  cases hg : Γ[i]? with
  | none => rfl
  | some o =>
    cases o with
    | none => rfl
    | some x =>
      show (ea Γ μ).bind _ = kAu f i Γ x (ea Γ μ)
      cases ea Γ μ with
      | none => rfl
      | some p => show (f x p.1 p.2).bind _ = kAu2 i Γ (f x p.1 p.2); cases f x p.1 p.2 <;> rfl
@[simp] theorem gvName_eq : gvName i d Γ μ = some (Γ.set i (some d), μ) := rfl
@[simp] theorem gvNil_eq : gvNil [] Γ μ = some (Γ, μ) := rfl
def kGs (gs : GsV) (ds : List D) : Option (G × M) → Option (G × M)
  | some (Γ, μ) => gs ds Γ μ
  | none => none
@[simp] theorem kGs_s {gs : GsV} : kGs gs ds (some (Γ, μ)) = gs ds Γ μ := rfl
@[simp] theorem gvCons_eq {g : GV} {gs : GsV} : gvCons g gs (d :: ds) Γ μ = kGs gs ds (g d Γ μ) := by
  show (g d Γ μ).bind _ = _
  unfold kGs; cases g d Γ μ <;> rfl
@[simp] theorem gvTup_eq {n : Nat} {gs : GsV} : gvTup n gs (.tup ds) Γ μ = if ds.length = n then gs ds Γ μ else none := rfl
@[simp] theorem gvLst_eq {n : Nat} {gs : GsV} : gvLst n gs (.lst ds) Γ μ = if ds.length = n then gs ds Γ μ else none := rfl
def kOn (μ : M) (k : Nat) : Option (D × List D) → Option (D × M)
  | some (d, l) => some (d, μ.set k (some (.lst l)))
  | none => none
@[simp] theorem kOn_s {l : List D} : kOn μ i (some (d, l)) = some (d, μ.set i (some (.lst l))) := rfl
def kSb3 (Γ : G) : Option (D × M) → Option (G × M)
  | some (_, μ) => some (Γ, μ)
  | none => none
@[simp] theorem kSb3_s : kSb3 Γ (some (x, μ)) = some (Γ, μ) := rfl
def sbF (d : D) (j : Int) (ds : List D) : Option (D × List D) := (ixN ds.length j).bind fun jj => some (.non, ds.set jj d)
theorem sbF_at {j : Int} {jj : Nat} (h : ixN ds.length j = some jj) : sbF d j ds = some (.non, ds.set jj d) := by unfold sbF; rw [h]; rfl
@[simp] theorem sbF_0 : sbF d 0 (x :: ds) = some (.non, d :: ds) := by
  refine sbF_at (jj := 0) ?_
  unfold ixN; rw [if_pos (by omega), if_pos (by simp only [List.length_cons]; omega)]; rfl
@[simp] theorem sbF_1 : sbF d 1 (x :: y :: ds) = some (.non, x :: d :: ds) := by
  refine sbF_at (jj := 1) ?_
  unfold ixN; rw [if_pos (by omega), if_pos (by simp only [List.length_cons]; omega)]; rfl
@[simp] theorem sbF_2 {z : D} : sbF d 2 (x :: y :: z :: ds) = some (.non, x :: y :: d :: ds) := by
  refine sbF_at (jj := 2) ?_
  unfold ixN; rw [if_pos (by omega), if_pos (by simp only [List.length_cons]; omega)]; rfl
def kSb2 (d : D) (Γ : G) (o : D) : Option (D × M) → Option (G × M)
  | some (.int j, μ) => kSb3 Γ (onL o μ (sbF d j))
  | _ => none
@[simp] theorem kSb2_s {j : Int} : kSb2 d Γ x (some (.int j, μ)) = kSb3 Γ (onL x μ (sbF d j)) := rfl
def kSb (d : D) (ei : EV) (Γ : G) : Option (D × M) → Option (G × M)
  | some (o, μ) => kSb2 d Γ o (ei Γ μ)
  | none => none
@[simp] theorem kSb_s {ei : EV} : kSb d ei Γ (some (x, μ)) = kSb2 d Γ x (ei Γ μ) := rfl
@[simp] theorem gvSub_eq {eo ei : EV} : gvSub eo ei d Γ μ = kSb d ei Γ (eo Γ μ) := by
  unfold gvSub kSb
  cases eo Γ μ with
  | none => rfl
  | some p =>
    show (ei Γ p.2).bind _ = kSb2 d Γ p.1 (ei Γ p.2)
    cases ei Γ p.2 with
    | none => rfl
    | some q =>
      obtain ⟨q1, q2⟩ := q
      cases q1 with
      | int j =>
        show (onL p.1 q2 _).bind _ = kSb3 Γ (onL p.1 q2 (sbF d j))
        have e : (fun ds => (ixN ds.length j).bind fun jj => some (D.non, ds.set jj d)) = sbF d j := rfl
        rw [e]
        unfold kSb3; cases onL p.1 q2 (sbF d j) <;> rfl
      | _ => rfl
@[simp] theorem oNone_eq : oNone Γ μ = some (none, μ) := rfl
def kO : Option (D × M) → Option (Option Int × M)
  | some (.int i, μ) => some (some i, μ)
  | _ => none
@[simp] theorem kO_s {i : Int} : kO (some (.int i, μ)) = some (some i, μ) := rfl
@[simp] theorem oSome_eq : oSome ea Γ μ = kO (ea Γ μ) := by
  unfold oSome kO
  cases ea Γ μ with
  | none => rfl
  | some p => obtain ⟨p1, p2⟩ := p; cases p1 <;> rfl
def kSl3 (x : D) (l : Option Int) : Option (Option Int × M) → Option (D × M)
  | some (h, μ) => fSl x l h μ
  | none => none
@[simp] theorem kSl3_s {l h : Option Int} : kSl3 x l (some (h, μ)) = fSl x l h μ := rfl
def kSl2 (hi : OV) (Γ : G) (x : D) : Option (Option Int × M) → Option (D × M)
  | some (l, μ) => kSl3 x l (hi Γ μ)
  | none => none
@[simp] theorem kSl2_s {hi : OV} {l : Option Int} : kSl2 hi Γ x (some (l, μ)) = kSl3 x l (hi Γ μ) := rfl
def kSl (lo hi : OV) (Γ : G) : Option (D × M) → Option (D × M)
  | some (x, μ) => kSl2 hi Γ x (lo Γ μ)
  | none => none
@[simp] theorem kSl_s {lo hi : OV} : kSl lo hi Γ (some (x, μ)) = kSl2 hi Γ x (lo Γ μ) := rfl
@[simp] theorem vSl_eq {lo hi : OV} : vSl ea lo hi Γ μ = kSl lo hi Γ (ea Γ μ) := by
  unfold vSl kSl
  cases ea Γ μ with
  | none => rfl
  | some p =>
    show (lo Γ p.2).bind _ = kSl2 hi Γ p.1 (lo Γ p.2)
    cases lo Γ p.2 with
    | none => rfl
    | some q =>
      show (hi Γ q.2).bind _ = kSl3 p.1 q.1 (hi Γ q.2)
      cases hi Γ q.2 <;> rfl
def kTr (μ : M) : Option Bool → Option (Bool × M)
  | some b => some (b, μ)
  | none => none
@[simp] theorem kTr_s : kTr μ (some b) = some (b, μ) := rfl
def kTru : Option (D × M) → Option (Bool × M)
  | some (x, μ) => kTr μ (tru μ x)
  | none => none
@[simp] theorem kTru_s : kTru (some (x, μ)) = kTr μ (tru μ x) := rfl
@[simp] theorem bTru_eq : bTru ea Γ μ = kTru (ea Γ μ) := by
  unfold bTru kTru
  cases ea Γ μ with
  | none => rfl
  | some p => show (tru p.2 p.1).bind _ = kTr p.2 (tru p.2 p.1); cases tru p.2 p.1 <;> rfl
def kFrz : Option (D × M) → Option (D × M)
  | some (.ref k, μ) => match μ[k]? with
    | some (some (.lst ds)) => some (.lst ds, μ.set k none)
    | _ => none
  | _ => none
@[simp] theorem vFrz_eq : vFrz ea Γ μ = kFrz (ea Γ μ) := by
  unfold vFrz kFrz
  cases ea Γ μ with
  | none => rfl
  | some p => obtain ⟨p1, p2⟩ := p; cases p1 <;> rfl
def kM2 (f : D → D → M → Option (D × M)) (eb : EV) (Γ : G) (x : D) (μ : M) : Option (List D) → Option (D × M)
  | some _ => kV2b f x (eb Γ μ)
  | none => none
@[simp] theorem kM2_s {f : D → D → M → Option (D × M)} : kM2 f eb Γ x μ (some ds) = kV2b f x (eb Γ μ) := rfl
def kM (f : D → D → M → Option (D × M)) (eb : EV) (Γ : G) : Option (D × M) → Option (D × M)
  | some (x, μ) => kM2 f eb Γ x μ (lsOf μ x)
  | none => none
@[simp] theorem kM_s {f : D → D → M → Option (D × M)} : kM f eb Γ (some (x, μ)) = kM2 f eb Γ x μ (lsOf μ x) := rfl
@[simp] theorem v2l_eq {f : D → D → M → Option (D × M)} : v2l f ea eb Γ μ = kM f eb Γ (ea Γ μ) := by
  unfold v2l kM
  cases ea Γ μ with
  | none => rfl
  | some p =>
    show (lsOf p.2 p.1).bind _ = kM2 f eb Γ p.1 p.2 (lsOf p.2 p.1)
    cases lsOf p.2 p.1 with
    | none => rfl
    | some l => show (eb Γ p.2).bind _ = kV2b f p.1 (eb Γ p.2); cases eb Γ p.2 <;> rfl
def kM0b (f : D → M → Option (D × M)) (x : D) (μ : M) : Option (List D) → Option (D × M)
  | some _ => f x μ
  | none => none
@[simp] theorem kM0b_s {f : D → M → Option (D × M)} : kM0b f x μ (some ds) = f x μ := rfl
def kM0 (f : D → M → Option (D × M)) : Option (D × M) → Option (D × M)
  | some (x, μ) => kM0b f x μ (lsOf μ x)
  | none => none
@[simp] theorem kM0_s {f : D → M → Option (D × M)} : kM0 f (some (x, μ)) = kM0b f x μ (lsOf μ x) := rfl
@[simp] theorem v1l_eq {f : D → M → Option (D × M)} : v1l f ea Γ μ = kM0 f (ea Γ μ) := by
  unfold v1l kM0
  cases ea Γ μ with
  | none => rfl
  | some p => show (lsOf p.2 p.1).bind _ = kM0b f p.1 p.2 (lsOf p.2 p.1); cases lsOf p.2 p.1 <;> rfl
noncomputable def kFor (g : GV) (body : SV) (Γ : G) : Option ((List D × Ck) × M) → Option (Out × G × M)
  | some ((its, c), μ) => forG c g body its Γ μ
  | none => none
@[simp] theorem kFor_s {g : GV} {c : Ck} : kFor g sa Γ (some ((ds, c), μ)) = forG c g sa ds Γ μ := rfl
@[simp] theorem sFor_eq {iv : IV} {g : GV} : sFor iv g sa Γ μ = kFor g sa Γ (iv Γ μ) := by unfold sFor kFor; cases iv Γ μ <;> rfl
def kI2 (μ : M) : Option (List D × Ck) → Option ((List D × Ck) × M)
  | some s => some (s, μ)
  | none => none
@[simp] theorem kI2_s {s : List D × Ck} : kI2 μ (some s) = some (s, μ) := rfl
def kI : Option (D × M) → Option ((List D × Ck) × M)
  | some (x, μ) => kI2 μ (lsC μ x)
  | none => none
@[simp] theorem kI_s : kI (some (x, μ)) = kI2 μ (lsC μ x) := rfl
@[simp] theorem ivL_eq : ivL ea Γ μ = kI (ea Γ μ) := by
  unfold ivL kI
  cases ea Γ μ with
  | none => rfl
  | some p => show (lsC p.2 p.1).bind _ = kI2 p.2 (lsC p.2 p.1); cases lsC p.2 p.1 <;> rfl
def kIT2 (μ : M) : Option (List D) → Option ((List D × Ck) × M)
  | some ds => some ((ds, none), μ)
  | none => none
@[simp] theorem kIT2_s : kIT2 μ (some ds) = some ((ds, none), μ) := rfl
def kIT : Option (D × M) → Option ((List D × Ck) × M)
  | some (x, μ) => kIT2 μ (tpOf x)
  | none => none
@[simp] theorem kIT_s : kIT (some (x, μ)) = kIT2 μ (tpOf x) := rfl
@[simp] theorem ivT_eq : ivT ea Γ μ = kIT (ea Γ μ) := by
  unfold ivT kIT
  cases ea Γ μ with
  | none => rfl
  | some p => show (tpOf p.1).bind _ = kIT2 p.2 (tpOf p.1); cases tpOf p.1 <;> rfl
def kIE2 (μ : M) : Option (List D × Ck) → Option ((List D × Ck) × M)
  | some s => some ((enumD s.1, s.2), μ)
  | none => none
@[simp] theorem kIE2_s {s : List D × Ck} : kIE2 μ (some s) = some ((enumD s.1, s.2), μ) := rfl
def kIE : Option (D × M) → Option ((List D × Ck) × M)
  | some (x, μ) => kIE2 μ (lsC μ x)
  | none => none
@[simp] theorem kIE_s : kIE (some (x, μ)) = kIE2 μ (lsC μ x) := rfl
@[simp] theorem ivEn_eq : ivEn ea Γ μ = kIE (ea Γ μ) := by
  unfold ivEn kIE
  cases ea Γ μ with
  | none => rfl
  | some p => show (lsC p.2 p.1).bind _ = kIE2 p.2 (lsC p.2 p.1); cases lsC p.2 p.1 <;> rfl
def kIZ2 (x : D) : Option (D × M) → Option ((List D × Ck) × M)
  | some (y, μ) => match x, y with
    | .lst xs, .lst ys => some ((zipD xs ys, none), μ)
    | _, _ => none
  | none => none
@[simp] theorem kIZ2_s {xs ys : List D} : kIZ2 (.lst xs) (some (.lst ys, μ)) = some ((zipD xs ys, none), μ) := rfl
def kIZ (eb : EV) (Γ : G) : Option (D × M) → Option ((List D × Ck) × M)
  | some (x, μ) => kIZ2 x (eb Γ μ)
  | none => none
@[simp] theorem kIZ_s : kIZ eb Γ (some (x, μ)) = kIZ2 x (eb Γ μ) := rfl
@[simp] theorem ivZ_eq : ivZ ea eb Γ μ = kIZ eb Γ (ea Γ μ) := by
  unfold ivZ kIZ
  cases ea Γ μ with
  | none => rfl
  | some p => show (eb Γ p.2).bind _ = kIZ2 p.1 (eb Γ p.2); cases eb Γ p.2 <;> rfl
def kIR : Option (D × M) → Option ((List D × Ck) × M)
  | some (.int j, μ) => if -1000000000 ≤ j ∧ j ≤ 1000000000 then some ((rngD 0 j.toNat, none), μ) else none
  | _ => none
@[simp] theorem kIR_s {j : Int} : kIR (some (.int j, μ)) = if -1000000000 ≤ j ∧ j ≤ 1000000000 then some ((rngD 0 j.toNat, none), μ) else none := rfl
@[simp] theorem ivR_eq : ivR ea Γ μ = kIR (ea Γ μ) := by
  unfold ivR kIR
  cases ea Γ μ with
  | none => rfl
  | some p => obtain ⟨p1, p2⟩ := p; cases p1 <;> rfl
def kIR2b (x : D) : Option (D × M) → Option ((List D × Ck) × M)
  | some (y, μ) => match x, y with
    | .int i, .int j => if (-1000000000 ≤ i ∧ i ≤ 1000000000) ∧ -1000000000 ≤ j ∧ j ≤ 1000000000 then some ((rngD i (j - i).toNat, none), μ) else none
    | _, _ => none
  | none => none
@[simp] theorem kIR2b_s {i j : Int} : kIR2b (.int i) (some (.int j, μ)) = if (-1000000000 ≤ i ∧ i ≤ 1000000000) ∧ -1000000000 ≤ j ∧ j ≤ 1000000000 then some ((rngD i (j - i).toNat, none), μ) else none := rfl
def kIR2 (eb : EV) (Γ : G) : Option (D × M) → Option ((List D × Ck) × M)
  | some (x, μ) => kIR2b x (eb Γ μ)
  | none => none
@[simp] theorem kIR2_s : kIR2 eb Γ (some (x, μ)) = kIR2b x (eb Γ μ) := rfl
@[simp] theorem ivR2_eq : ivR2 ea eb Γ μ = kIR2 eb Γ (ea Γ μ) := by
  unfold ivR2 kIR2
  cases ea Γ μ with
  | none => rfl
  | some p => show (eb Γ p.2).bind _ = kIR2b p.1 (eb Γ p.2); cases eb Γ p.2 <;> rfl
@[simp] theorem bYes_eq : bYes Γ μ = some (true, μ) := rfl
def kCh3 (g : D → D → M → Option (D × M)) (ec : EV) (Γ : G) (y : D) : Option (D × M) → Option (D × M)
  | some (.bl c, μ) => if c = true then kV2b g y (ec Γ μ) else some (.bl false, μ)
  | _ => none
@[simp] theorem kCh3_s {g : D → D → M → Option (D × M)} {c : Bool} : kCh3 g ec Γ y (some (.bl c, μ)) = if c = true then kV2b g y (ec Γ μ) else some (.bl false, μ) := rfl
def kCh2 (f g : D → D → M → Option (D × M)) (ec : EV) (Γ : G) (x : D) : Option (D × M) → Option (D × M)
  | some (y, μ) => kCh3 g ec Γ y (f x y μ)
  | none => none
@[simp] theorem kCh2_s {f g : D → D → M → Option (D × M)} : kCh2 f g ec Γ x (some (y, μ)) = kCh3 g ec Γ y (f x y μ) := rfl
def kCh (f g : D → D → M → Option (D × M)) (eb ec : EV) (Γ : G) : Option (D × M) → Option (D × M)
  | some (x, μ) => kCh2 f g ec Γ x (eb Γ μ)
  | none => none
@[simp] theorem kCh_s {f g : D → D → M → Option (D × M)} : kCh f g eb ec Γ (some (x, μ)) = kCh2 f g ec Γ x (eb Γ μ) := rfl
@[simp] theorem vChain_eq {f g : D → D → M → Option (D × M)} : vChain f g ea eb ec Γ μ = kCh f g eb ec Γ (ea Γ μ) := by
  unfold vChain kCh
  cases ea Γ μ with
  | none => rfl
  | some p =>
    show (eb Γ p.2).bind _ = kCh2 f g ec Γ p.1 (eb Γ p.2)
    cases eb Γ p.2 with
    | none => rfl
    | some q =>
      show (f p.1 q.1 q.2).bind _ = kCh3 g ec Γ q.1 (f p.1 q.1 q.2)
      cases f p.1 q.1 q.2 with
      | none => rfl
      | some t =>
        obtain ⟨t1, t2⟩ := t
        cases t1 with
        | bl c =>
          cases c with
          | true => show (ec Γ t2).bind _ = kV2b g q.1 (ec Γ t2); cases ec Γ t2 <;> rfl
          | false => rfl
        | _ => rfl
def kB (μ : M) : Option Bool → Option (D × M)
  | some b => some (.bl b, μ)
  | none => none
@[simp] theorem kB_s : kB μ (some b) = some (.bl b, μ) := rfl
def kNB (μ : M) : Option Bool → Option (D × M)
  | some b => some (.bl (!b), μ)
  | none => none
@[simp] theorem kNB_s : kNB μ (some b) = some (.bl (!b), μ) := rfl
def kD (μ : M) : Option D → Option (D × M)
  | some d => some (d, μ)
  | none => none
@[simp] theorem kD_s : kD μ (some d) = some (d, μ) := rfl
@[simp] theorem fI0_eq {g : Int → Int → D} {i j : Int} : fI0 g (.int i) (.int j) μ = some (g i j, μ) := rfl
@[simp] theorem fI_eq {C : Int → Int → Prop} [∀ i j, Decidable (C i j)] {g : Int → Int → D} {i j : Int} : fI C g (.int i) (.int j) μ = if C i j then some (g i j, μ) else none := rfl
@[simp] theorem fNeg_eq {i : Int} : fNeg (.int i) μ = some (.int (-i), μ) := rfl
@[simp] theorem fNot_eq {b : Bool} : fNot (.bl b) μ = some (.bl (!b), μ) := rfl
@[simp] theorem fPlus_int {i j : Int} : fPlus (.int i) (.int j) μ = some (.int (i + j), μ) := rfl
@[simp] theorem fTimes_int {i j : Int} : fTimes (.int i) (.int j) μ = if CMul i j then some (.int (i * j), μ) else none := rfl
@[simp] theorem fIntB_eq {b : Bool} : fIntB (.bl b) μ = some (.int (if b then 1 else 0), μ) := rfl
@[simp] theorem fEq_eq : fEq x y μ = kB μ (eqD x y μ) := by unfold fEq kB; cases eqD x y μ <;> rfl
@[simp] theorem fNe_eq : fNe x y μ = kNB μ (eqD x y μ) := by unfold fNe kNB; cases eqD x y μ <;> rfl
@[simp] theorem eqD_int {i j : Int} : eqD (.int i) (.int j) μ = some (decide (i = j)) := rfl
@[simp] theorem eqD_str {a b : Str} : eqD (.str a) (.str b) μ = if PyData.strOk a && PyData.strOk b then some (decide (a = b)) else none := rfl
@[simp] theorem lsOf_lst : lsOf μ (.lst ds) = some ds := rfl
@[simp] theorem lsOf_scr : lsOf μ (.scr ds) = some ds := rfl
@[simp] theorem lsOf_tup : lsOf μ (.tup ds) = none := rfl
@[simp] theorem tpOf_tup : tpOf (.tup ds) = some ds := rfl
@[simp] theorem wlOf_lst : wlOf μ (.lst ds) = some ds := rfl
@[simp] theorem lsC_lst : lsC μ (.lst ds) = some (ds, none) := rfl
@[simp] theorem lsC_scr : lsC μ (.scr ds) = some (ds, none) := rfl
@[simp] theorem fLst_eq : fLst ds μ = if ds.length ≤ 1000 then some (.lst ds, μ) else none := rfl
@[simp] theorem fTup_eq : fTup ds μ = if ds.length ≤ 1000 then some (.tup ds, μ) else none := rfl
@[simp] theorem fNew_eq : fNew ds μ = if ds.length ≤ 1000 then some (.ref μ.length, μ ++ [some (.lst ds)]) else none := rfl
@[simp] theorem fIx_lst {i : Int} : fIx (.lst ds) (.int i) μ = kD μ (atI ds i) := by
  show (atI ds i).bind _ = _
  unfold kD; cases atI ds i <;> rfl
@[simp] theorem fIx_scr {i : Int} : fIx (.scr ds) (.int i) μ = kD μ (atI ds i) := by
  show (atI ds i).bind _ = _
  unfold kD; cases atI ds i <;> rfl
@[simp] theorem fIx_tup {i : Int} : fIx (.tup ds) (.int i) μ = kD μ (atI ds i) := by
  show (atI ds i).bind _ = _
  unfold kD; cases atI ds i <;> rfl
@[simp] theorem fLen_lst : fLen (.lst ds) μ = some (.int ds.length, μ) := rfl
@[simp] theorem fLen_tup : fLen (.tup ds) μ = some (.int ds.length, μ) := rfl
@[simp] theorem fCat_lst {es : List D} : fPlus (.lst ds) (.lst es) μ = if ds.length + es.length ≤ 1000000 then some (.lst (ds ++ es), μ) else none := rfl
@[simp] theorem fList_lst : fList (.lst ds) μ = some (.lst ds, μ) := rfl
@[simp] theorem fSl_lst {lo hi : Option Int} : fSl (.lst ds) lo hi μ = some (.lst (cutD ds lo hi), μ) := rfl
@[simp] theorem fSl_tup {lo hi : Option Int} : fSl (.tup ds) lo hi μ = if HT.sIx ds.length 0 lo = 0 ∧ HT.sIx ds.length ds.length hi = ds.length then none else some (.tup (cutD ds lo hi), μ) := rfl
@[simp] theorem tru_bl {b : Bool} : tru μ (.bl b) = some b := rfl
@[simp] theorem tru_lst : tru μ (.lst ds) = some (!ds.isEmpty) := rfl
@[simp] theorem fRev_lst : fRev (.lst ds) μ = some (.lst ds.reverse, μ) := rfl
theorem atI_n {α : Type} {xs : List α} {j : Nat} {v : α} (h : xs[j]? = some v) : atI xs (j : Int) = some v := by
  have hlt := (List.getElem?_eq_some_iff.mp h).1
  unfold atI ixN
  rw [if_pos (by omega), if_pos (by omega)]
  simpa using h
@[simp] theorem atI_0 {α : Type} {a : α} {l : List α} : atI (a :: l) 0 = some a := atI_n (j := 0) rfl
@[simp] theorem atI_1 {α : Type} {a b : α} {l : List α} : atI (a :: b :: l) 1 = some b := atI_n (j := 1) rfl
@[simp] theorem atI_2 {α : Type} {a b c : α} {l : List α} : atI (a :: b :: c :: l) 2 = some c := atI_n (j := 2) rfl
@[simp] theorem atI_3 {α : Type} {a b c d : α} {l : List α} : atI (a :: b :: c :: d :: l) 3 = some d := atI_n (j := 3) rfl
end
end L3
set_option Elab.async false
set_option linter.all false
set_option maxRecDepth 100000
namespace L3
open PySem PySem.Spec L2
def inI : D → Option Int
  | .int i => some i
  | _ => none
section
variable {K : PySem.W.Frag} {W : Wd}
theorem ints_at : ∀ {ds : List D} {vs : List V} {ns : List Int}, optAll inI ds = some ns → DRs K W ds vs → vs = ns.map V.int
  | _, _, _, h, .nil => by cases h; rfl
  | d :: _, _, _, h, .cons r t => by
    obtain ⟨u, h1, h⟩ := bnd h
    obtain ⟨us, h2, h⟩ := bnd h
    cases h
    cases d <;> cases h1
    cases r
    rw [ints_at h2 t]; rfl
end
section
variable {X : Cx} {K : PySem.W.Frag} {a b : Expr} {ea eb : EV} {pos p kp : Pos}
end
theorem chk_none {α : Type} {μ : M} {x : Option α} : chk (ckOf none μ) x = x := chk_pos trivial
theorem compG_pure {g : GV} {tc : BV} {te : EV} {α : Type} {dn : α → D} {keep : α → Bool} {val : α → D} (Pv : G → Prop) {μ : M} : ∀ (l : List α) (Γ : G), Pv Γ →
    (∀ x ∈ l, ∀ Γ, Pv Γ → ∃ Γ1, g (dn x) Γ μ = some (Γ1, μ) ∧ tc Γ1 μ = some (keep x, μ) ∧ (keep x = true → te Γ1 μ = some (val x, μ)) ∧ Pv Γ1) →
    compG none g tc te (l.map dn) Γ μ = some ((l.filter keep).map val, μ)
  | [], _, _, _ => rfl
  | x :: r, Γ, h, hs => by
    obtain ⟨Γ1, h1, h2, h3, h4⟩ := hs x (by simp) Γ h
    have ih := compG_pure Pv r Γ1 h4 fun x hx => hs x (by simp [hx])
    simp only [List.map_cons, compG, h1, bs, h2]
    cases hk : keep x with
    | true => simp only [if_true, h3 hk, bs, chk_none, ih, List.filter_cons_of_pos hk, List.map_cons]
    | false => simp only [Bool.false_eq_true, if_false, chk_none, ih, List.filter_cons, hk]
section
variable {μ : M} {k : Nat} {ds : List D}
def kRun : Option (Out × G × M) → Option (D × M)
  | some (.rt d, _, μ) => some (d, μ)
  | some (.nx, _, μ) => some (.non, μ)
  | _ => none
@[simp] theorem kRun_rt {d : D} {Γ : G} : kRun (some (.rt d, Γ, μ)) = some (d, μ) := rfl
@[simp] theorem kRun_nx {Γ : G} : kRun (some (.nx, Γ, μ)) = some (.non, μ) := rfl
@[simp] theorem runF_eq {n m : Nat} {es : SV} : runF n m es ds μ = if ds.length = m then kRun (es (ds.map some ++ List.replicate (n - ds.length) none) μ) else none := by
  unfold runF
  split
  · unfold kRun
    cases es (ds.map some ++ List.replicate (n - ds.length) none) μ with
    | none => rfl
    | some o => obtain ⟨o1, o2, o3⟩ := o; cases o1 <;> rfl
  · rfl
theorem set_get {x y : Option O} (h : μ[k]? = some x) : (μ.set k y)[k]? = some y := by
  have hlt := (List.getElem?_eq_some_iff.mp h).1
  simp [hlt]
theorem set_get_ne {j : Nat} {y : Option O} (h : j ≠ k) : (μ.set k y)[j]? = μ[j]? := List.getElem?_set_ne (Ne.symm h)
theorem lsOf_ref (h : μ[k]? = some (some (.lst ds))) : lsOf μ (.ref k) = some ds := by simp only [lsOf, h]
theorem fIx_ref {i : Int} (h : μ[k]? = some (some (.lst ds))) : fIx (.ref k) (.int i) μ = kD μ (atI ds i) := by
  simp only [fIx, lsOf_ref h]
  unfold kD; cases atI ds i <;> rfl
theorem fLen_ref (h : μ[k]? = some (some (.lst ds))) : fLen (.ref k) μ = some (.int ds.length, μ) := by simp only [fLen, lsOf_ref h]
theorem onL_ref {g : List D → Option (D × List D)} (h : μ[k]? = some (some (.lst ds))) : onL (.ref k) μ g = kOn μ k (g ds) := by
  simp only [onL, h]
  unfold kOn; cases g ds <;> rfl
theorem lsC_ref (h : μ[k]? = some (some (.lst ds))) : lsC μ (.ref k) = some (ds, some (k, ds)) := by simp only [lsC, h]
@[simp] theorem ixN_0 {n : Nat} : ixN (n + 1) 0 = some 0 := by unfold ixN; rw [if_pos (by omega), if_pos (by omega)]; rfl
@[simp] theorem ixN_1 {n : Nat} : ixN (n + 2) 1 = some 1 := by unfold ixN; rw [if_pos (by omega), if_pos (by omega)]; rfl
@[simp] theorem ixN_2 {n : Nat} : ixN (n + 3) 2 = some 2 := by unfold ixN; rw [if_pos (by omega), if_pos (by omega)]; rfl
end
end L3
set_option Elab.async false
set_option linter.all false
set_option maxRecDepth 100000
namespace L3
open PySem PySem.Spec L2
section
variable {P : Program} {w : World} {K : PySem.W.Frag} {mg : Str → Option Value} {base : Heap} {f : Addr} {fd : FuncData} {k : Nat}
def spLaw (K : PySem.W.Frag) : Sp := fun vs H Q _ => ∃ (a : Addr) (ns : List Int), vs = [.ref a] ∧ Only H ∧ SqL K H a (ns.map V.int) ∧ ns.length ≤ 63 ∧ ∀ H', Q (.bl true) H'
def W0 (H : Hp) : Wd := ⟨[], [], H, fun _ => False⟩
theorem ok_W0 {H : Hp} : Ok K (W0 H) where
  len := rfl
  nd := by simp [W0]
  rs a h := by simp [W0] at h
  at_ k o h := by simp [W0] at h
  hd0 a h := h.elim
theorem drs_ints {W : Wd} : ∀ ns : List Int, DRs K W (ns.map D.int) (ns.map V.int)
  | [] => .nil
  | n :: r => .cons (.int n) (drs_ints r)
theorem law_of {g : List D → M → Option (D × M)} (F : FnOk P w K mg base CX0 k f fd ["script"] (spM K g)) (h : ∀ ns : List Int, ns.length ≤ 63 → ∃ μ', g [.scr (ns.map D.int)] [] = some (.bl true, μ')) : FnOk P w K mg base CX0 k f fd ["script"] (spLaw K) := F.imp fun vs H Q E hh => by
  obtain ⟨a, ns, rfl, hO, hS, hl, q⟩ := hh
  obtain ⟨μ', e⟩ := h ns hl
  have hF : SqF K H a (ns.map V.int) := by
    rcases hS with (hS | hS) | hS
    · rcases hO a with z | ⟨o, xs, z⟩
      · rw [z] at hS; cases hS
      · rw [z] at hS; cases hS
    · exact .inl hS
    · exact .inr hS
  exact ⟨W0 H, [.scr (ns.map D.int)], .bl true, μ', rfl, ok_W0, .cons (.scr hF (drs_ints ns)) .nil, e, fun v W' _ _ _ r => by cases r; exact q _⟩
end
theorem forG_ix {c : Ck} {g : GV} {body : SV} (Pv : Nat → G → M → Prop) : ∀ (its : List D) (i : Nat) (Γ : G) (μ : M), Pv i Γ μ →
    (∀ j d Γ μ, its[j]? = some d → Pv (i + j) Γ μ → ∃ Γ1 μ1 Γ2 μ2, g d Γ μ = some (Γ1, μ1) ∧ body Γ1 μ1 = some (.nx, Γ2, μ2) ∧ ckOf c μ2 ∧ Pv (i + j + 1) Γ2 μ2) → ∃ Γ' μ', forG c g body its Γ μ = some (.nx, Γ', μ') ∧ Pv (i + its.length) Γ' μ'
  | [], i, Γ, μ, h, _ => ⟨Γ, μ, rfl, h⟩
  | d :: r, i, Γ, μ, h, hs => by
    obtain ⟨Γ1, μ1, Γ2, μ2, h1, h2, h3, h4⟩ := hs 0 d Γ μ rfl h
    obtain ⟨Γ', μ', h5, h6⟩ := forG_ix Pv r (i + 1) Γ2 μ2 h4 fun j d Γ μ hj hp => by
      have := hs (j + 1) d Γ μ (by simpa using hj) (by rw [show i + (j + 1) = i + 1 + j by omega]; exact hp)
      rw [show i + (j + 1) + 1 = i + 1 + j + 1 by omega] at this
      exact this
    refine ⟨Γ', μ', ?_, by rw [List.length_cons, show i + (r.length + 1) = i + 1 + r.length by omega]; exact h6⟩
    simp only [forG, h1, bs, h2]
    rw [chk_pos h3, h5]
theorem rngD_get {lo : Int} {n j : Nat} {d : D} (h : (rngD lo n)[j]? = some d) : j < n ∧ d = .int (lo + j) := by
  have hlt := (List.getElem?_eq_some_iff.mp h).1
  simp [rngD] at hlt
  simp [rngD, hlt] at h
  exact ⟨hlt, h.symm⟩
def kLst : Option (List D × M) → Option (D × M)
  | some (rs, μ) => some (.lst rs, μ)
  | none => none
@[simp] theorem kLst_s {rs : List D} {μ : M} : kLst (some (rs, μ)) = some (.lst rs, μ) := rfl
noncomputable def kComp (own : List Str) (cap : List (Str × Nat)) (g : GV) (tc : BV) (te : EV) (Γ : G) : Option ((List D × Ck) × M) → Option (D × M)
  | some ((its, c), μ) => if its.length ≤ 1000000 then kLst (compG c g tc te its (capG own cap Γ) μ) else none
  | none => none
@[simp] theorem kComp_s {own : List Str} {cap : List (Str × Nat)} {g : GV} {tc : BV} {te : EV} {Γ : G} {its : List D} {c : Ck} {μ : M} : kComp own cap g tc te Γ (some ((its, c), μ)) = if its.length ≤ 1000000 then kLst (compG c g tc te its (capG own cap Γ) μ) else none := rfl
@[simp] theorem vComp_eq {own : List Str} {cap : List (Str × Nat)} {iv : IV} {g : GV} {tc : BV} {te : EV} {Γ : G} {μ : M} : vComp own cap iv g tc te Γ μ = kComp own cap g tc te Γ (iv Γ μ) := by
  unfold vComp kComp
  cases iv Γ μ with
  | none => rfl
  | some s =>
    obtain ⟨⟨its, c⟩, μ1⟩ := s
    show (if its.length ≤ 1000000 then (compG c g tc te its (capG own cap Γ) μ1).bind _ else none) = if its.length ≤ 1000000 then kLst (compG c g tc te its (capG own cap Γ) μ1) else none
    split
    · cases compG c g tc te its (capG own cap Γ) μ1 <;> rfl
    · rfl
def kLst2 : Option (List D × M) → Option (D × M)
  | some (rs, μ) => if rs.length ≤ 1000000 then some (.lst rs, μ) else none
  | none => none
@[simp] theorem kLst2_s {rs : List D} {μ : M} : kLst2 (some (rs, μ)) = if rs.length ≤ 1000000 then some (.lst rs, μ) else none := rfl
noncomputable def kComp2 (own : List Str) (cap : List (Str × Nat)) (g : GV) (tc : BV) (iv2 : IV) (g2 : GV) (tc2 : BV) (te : EV) (Γ : G) : Option ((List D × Ck) × M) → Option (D × M)
  | some ((its, c), μ) => kLst2 (compG2 c g tc iv2 g2 tc2 te its (capG own cap Γ) μ)
  | none => none
@[simp] theorem kComp2_s {own : List Str} {cap : List (Str × Nat)} {iv2 : IV} {g g2 : GV} {tc tc2 : BV} {te : EV} {Γ : G} {its : List D} {c : Ck} {μ : M} : kComp2 own cap g tc iv2 g2 tc2 te Γ (some ((its, c), μ)) = kLst2 (compG2 c g tc iv2 g2 tc2 te its (capG own cap Γ) μ) := rfl
@[simp] theorem vComp2_eq {own : List Str} {cap : List (Str × Nat)} {iv iv2 : IV} {g g2 : GV} {tc tc2 : BV} {te : EV} {Γ : G} {μ : M} : vComp2 own cap iv g tc iv2 g2 tc2 te Γ μ = kComp2 own cap g tc iv2 g2 tc2 te Γ (iv Γ μ) := by
  unfold vComp2 kComp2
  cases iv Γ μ with
  | none => rfl
  | some s =>
    obtain ⟨⟨its, c⟩, μ1⟩ := s
    show (compG2 c g tc iv2 g2 tc2 te its (capG own cap Γ) μ1).bind _ = kLst2 (compG2 c g tc iv2 g2 tc2 te its (capG own cap Γ) μ1)
    cases compG2 c g tc iv2 g2 tc2 te its (capG own cap Γ) μ1 <;> rfl
end L3
set_option Elab.async false
set_option linter.all false
set_option maxRecDepth 100000
namespace L3
open PySem PySem.Spec L2
section
variable {X : Cx} {K : PySem.W.Frag} {pos : Pos} {el : LV} {ea : EV}
end
end L3
set_option Elab.async false
set_option linter.all false
set_option maxRecDepth 100000
namespace L3
open PySem PySem.Spec L2
section
variable {X : Cx} {K : PySem.W.Frag} {a b : Expr} {ea eb : EV} {p p2 pos kp kp2 : Pos}
end
end L3
set_option Elab.async false
set_option linter.all false
set_option maxRecDepth 100000
namespace L3
open PySem PySem.Spec L2
def valD (kvs : List (Key × D)) (k : Key) : Option D := (kvs.find? fun kv => decide (kv.1 = k)).map (·.2)
def putD (kvs : List (Key × D)) (k : Key) (v : D) : List (Key × D) :=
  if (kvs.any fun kv => decide (kv.1 = k)) = true then kvs.map (fun kv => if kv.1 = k then (kv.1, v) else kv) else kvs ++ [(k, v)]
section
variable {K : PySem.W.Frag} {W : Wd}
theorem KR.len {kvs : List (Key × D)} {vs : List (Key × V)} (r : KR K W kvs vs) : kvs.length = vs.length := Paired.length r
theorem KR.any {kvs : List (Key × D)} {vs : List (Key × V)} (r : KR K W kvs vs) (k : Key) : (kvs.any fun kv => decide (kv.1 = k)) = vs.any fun kv => decide (kv.1 = k) := by
  unfold KR at r
  induction r with
  | nil => rfl
  | cons h t ih => rw [List.any_cons, List.any_cons, ih, h.1]
theorem KR.val {kvs : List (Key × D)} {vs : List (Key × V)} (r : KR K W kvs vs) (k : Key) : (valD kvs k).isSome = (valV vs k).isSome := by
  unfold KR at r
  induction r with
  | nil => rfl
  | @cons p q ps qs h t ih =>
    by_cases e : p.1 = k
    · rw [valV_pos (by rw [← h.1]; exact e)]
      simp [valD, List.find?_cons, e]
    · rw [valV_neg (by rw [← h.1]; exact e)]
      simp only [valD, List.find?_cons, e, decide_false] at ih ⊢
      exact ih
theorem KR.snoc {kvs : List (Key × D)} {vs : List (Key × V)} (r : KR K W kvs vs) (k : Key) {d : D} {v : V} (rv : DR K W d v) : KR K W (kvs ++ [(k, d)]) (vs ++ [(k, v)]) := Paired.snoc r ⟨rfl, rv⟩
theorem KR.repl {kvs : List (Key × D)} {vs : List (Key × V)} (r : KR K W kvs vs) (k : Key) {d : D} {v : V} (rv : DR K W d v) :
    KR K W (kvs.map fun kv => if kv.1 = k then (kv.1, d) else kv) (vs.map fun kv => if kv.1 = k then (kv.1, v) else kv) := by
  unfold KR at r ⊢
  induction r with
  | nil => exact .nil
  | @cons p q ps qs h t ih =>
    refine .cons ?_ ih
    show (if p.1 = k then (p.1, d) else p).1 = (if q.1 = k then (q.1, v) else q).1 ∧ DR K W (if p.1 = k then (p.1, d) else p).2 (if q.1 = k then (q.1, v) else q).2
    by_cases e : p.1 = k
    · rw [if_pos e, if_pos (by rw [← h.1]; exact e)]; exact ⟨h.1, rv⟩
    · rw [if_neg e, if_neg (by rw [← h.1]; exact e)]; exact h
theorem KR.put {kvs : List (Key × D)} {vs : List (Key × V)} (r : KR K W kvs vs) (k : Key) {d : D} {v : V} (rv : DR K W d v) : KR K W (putD kvs k d) (putK vs k v) := by
  unfold putD putK
  rw [r.any k]
  by_cases e : (vs.any fun kv => decide (kv.1 = k)) = true
  · rw [if_pos e, if_pos e]; exact r.repl k rv
  · rw [if_neg e, if_neg e]; exact r.snoc k rv
theorem KR.vals {kvs : List (Key × D)} {vs : List (Key × V)} (r : KR K W kvs vs) : DRs K W (kvs.map (·.2)) (vs.map (·.2)) := by
  unfold KR at r
  induction r with
  | nil => exact .nil
  | cons h t ih => exact .cons h.2 ih
end
section
variable {X : Cx} {K : PySem.W.Frag} {a b c e o i value : Expr} {ea eb eo ei : EV} {pos p apos pos' pos1 : Pos} {k : Nat}
end
section
variable {X : Cx} {K : PySem.W.Frag} {N' own : List Str} {cap : List (Str × Nat)} {scope : Scope} {tg iter kx vx : Expr} {ifs : List Expr} {pos : Pos} {iv : IV} {g : GV} {tc : BV} {tk tv : EV}
end
end L3
set_option Elab.async false
set_option linter.all false
set_option maxRecDepth 100000
namespace L3
open PySem PySem.Spec L2
section
variable {X : Cx} {K : PySem.W.Frag} {a b c e o i value : Expr} {ea eb eo ei : EV} {pos p apos pos' pos1 : Pos} {k : Nat}
theorem KR.at {W : Wd} {kvs : List (Key × D)} {vs : List (Key × V)} (r : KR K W kvs vs) {k : Key} {d : D} (h : valD kvs k = some d) : ∃ v, valV vs k = some v ∧ DR K W d v := by
  unfold KR at r
  induction r with
  | nil => cases h
  | @cons p q ps qs hd t ih =>
    by_cases e : p.1 = k
    · have : valD (p :: ps) k = some p.2 := by simp [valD, List.find?_cons, e]
      rw [this] at h
      cases h
      exact ⟨q.2, valV_pos (by rw [← hd.1]; exact e), hd.2⟩
    · have : valD (p :: ps) k = valD ps k := by simp [valD, List.find?_cons, e]
      rw [this] at h
      obtain ⟨v, h1, h2⟩ := ih h
      exact ⟨v, by rw [valV_neg (by rw [← hd.1]; exact e)]; exact h1, h2⟩
end
end L3
set_option Elab.async false
set_option linter.all false
set_option maxRecDepth 100000
namespace L2
open PySem PySem.W PySem.Spec PyProof.Rows
structure FlewH (P : Program) (w : World) (outer : List Env) (L : Addr) (H H' : Hp) (s : Shared) (e : Addr) (C : Value) (B : Heap) (s' : Shared) : Prop where
  os : s'.os = s.os
  bare : AllBare s'.gens
  un : Un (frs outer) [] H H' s.heap s'.heap
  hok : HOk P w H' s'.heap
  trk : ∀ b o, s'.heap.get? b = some o → H' b ≠ none → B.get? b = some o
  old : ∀ b o, s.heap.get? b = some o → H b = none → b ∉ frs outer → B.get? b = some o
  thr : ∀ b o, s.heap.get? b = some o → b ∉ frs outer → ∃ o', B.get? b = some o'
  frf : ∀ b ∈ frs outer, H b = none
  unt : H' e = none
  new : s.heap.get? e = none
  fly : ∃ a0, Heap.HeldW B outer e C a0 L s'.heap
section
variable {P : Program} {w : World} {outer : List Env} {L : Addr} {H H' : Hp} {s s' : Shared} {e : Addr} {C : Value} {B : Heap}
theorem Flew.noted {h2 : Heap} (F : Flew P w outer H H' s e C B s') (hs : s'.heap.UpToSlots h2) (fl : ∃ a0, Heap.HeldW B outer e C a0 L h2) : FlewH P w outer L H H' s e C B { s' with heap := h2 } := by
  obtain ⟨a0, fl⟩ := fl
  obtain ⟨u, k, t⟩ := F.to fl.1 hs
  exact ⟨F.os, F.bare, u, k, t, F.old, F.thr, F.frf, F.unt, F.new, a0, fl⟩
theorem FlewH.to {h2 : Heap} (F : FlewH P w outer L H H' s e C B s') (hB : B.StaysIn h2) (hs : s'.heap.UpToSlots h2) : Un (frs outer) [] H H' s.heap h2 ∧ HOk P w H' h2 ∧ ∀ b o, h2.get? b = some o → H' b ≠ none → B.get? b = some o := by
  obtain ⟨a0, fl⟩ := F.fly
  have kp : ∀ b o, s.heap.get? b = some o → H b = none → b ∉ frs outer → h2.get? b = some o := fun b o x n hb => hB b o (F.old b o x n hb)
  have sl : ∀ b o, s.heap.get? b = some o → H b = none → b ∈ frs outer → ∃ sl, h2.get? b = some { o with slots := sl } := fun b o x n hb => by
    obtain ⟨sl, e1⟩ := F.un.slot b o x n hb (by simp)
    obtain ⟨_, o', e2, d⟩ := fl.2.2.1.mem hb
    rw [e1] at e2
    cases e2
    obtain ⟨sl', e3⟩ := hs b { o with slots := sl } e1 d
    exact ⟨sl', e3⟩
  refine ⟨⟨fun b o x n hb _ => kp b o x n hb, fun b o x n hb _ => sl b o x n hb, F.un.free, fun b o x _ => ?_, F.un.tups, F.un.frzs, F.un.tbls⟩, fun a u eu => ?_, fun b o x n => ?_⟩
  · by_cases hb : b ∈ frs outer
    · obtain ⟨l, e1⟩ := sl b o x (F.frf b hb) hb
      exact ⟨_, e1⟩
    · obtain ⟨o', e1⟩ := F.thr b o x hb
      exact ⟨o', hB b o' e1⟩
  · refine (F.hok a u eu).stay (fun b v hb q => hB b v (F.trk b v q ?_)) (fun _ q => q) fun _ _ q => q
    rcases hb with z | z
    · rw [z, eu]; simp
    · rw [z]; simp
  · cases eu : H' b with
    | none => exact absurd eu n
    | some u =>
      obtain ⟨o1, e1⟩ := (F.hok b u eu).there
      have e2 := F.trk b o1 e1 n
      have e3 := hB b o1 e2
      rw [x] at e3
      cases e3
      exact e2
theorem FlewH.next {h2 : Heap} (F : FlewH P w outer L H H' s e C B s') (hs : s'.heap.UpToSlots h2) (fl : ∃ a0, Heap.HeldW B outer e C a0 L h2) : FlewH P w outer L H H' s e C B { s' with heap := h2 } := by
  obtain ⟨a0, fl⟩ := fl
  obtain ⟨u, k, t⟩ := F.to fl.1 hs
  exact ⟨F.os, F.bare, u, k, t, F.old, F.thr, F.frf, F.unt, F.new, a0, fl⟩
theorem FlewH.lands {h2 : Heap} (F : FlewH P w outer L H H' s e C B s') (hs : s'.heap.UpToSlots h2) (fl : ∃ a0, Heap.FlyingW B outer e C a0 h2) : Flew P w outer H H' s e C B { s' with heap := h2 } := by
  obtain ⟨a0, fl⟩ := fl
  obtain ⟨u, k, t⟩ := F.to fl.1 hs
  exact ⟨F.os, F.bare, u, k, t, F.old, F.thr, F.frf, F.unt, F.new, a0, fl⟩
end
theorem noted_madeW {M : Model} {A : Around} {E : Value → Shared → Prop} {s : Shared} {base h : Heap} {env : Env} {outer : List Env} {L e : Addr} {cls : Value} {args : List Value} {Q : Unit → Shared → Prop}
    (hfr : A.frames = some (env :: outer)) (hf : env.frame = some L) (hkb : base.StaysIn h) (hl : h.FunFrames base (env :: outer)) (hx : Heap.MadeExcOf h s.heap e cls args)
    (hQ : ∀ h' a0, Heap.HeldW base (env :: outer) e cls a0 L h' → s.heap.UpToSlots h' → Q () { s with heap := h' }) : wpAny M A (noteFrame (.ref e) env) Q E s := by
  obtain ⟨t, he, htn, ht⟩ := hx.there
  have fresh : ∀ b, h.get? b = none → base.get? b = none := fun b hb => by
    cases hq : base.get? b with
    | none => rfl
    | some o' => have := hkb b o' hq; rw [hb] at this; cases this
  unfold noteFrame
  simp only [hf]
  refine wpAny_bind (wpAny_field he rfl (show (#[Value.ref t, .none, .none, .none, .bool false, .none] : Array Value)[1]? = some Value.none from rfl) ?_)
  rw [if_neg (show ¬ ((Value.none != Value.none) = true) from by decide)]
  refine wpAny_entryW (a0 := .ref t) hfr (hl.of_keeps fun b o hb _ => ⟨o, hx.keeps b o hb, rfl⟩) hf he (fun b o hb => hx.keeps b o (hkb b o hb)) (fresh e hx.new) rfl (by simp) rfl fun h' hN => ?_
  obtain ⟨k1, k2, k3, k4⟩ := hN
  exact hQ h' _ ⟨k1, fresh e hx.new, k2, k3⟩ k4
end L2
set_option Elab.async false
set_option linter.all false
set_option maxRecDepth 100000
namespace L2
open PySem PySem.W PySem.Spec PyProof.Rows
def Lv (X : Cx) : Prop := X.stack = X.env :: X.outer ∧ X.env.frame = some X.env.locals
def FlX (X : Cx) (E : St → XK) (e : Value) (s' : Shared) : Prop := ∃ (a : Addr) (C : Value) (pins : List (Addr × Obj)) (σ : St) (H H' : Hp) (s : Shared), e = .ref a ∧ Inv X pins σ H s ∧ E σ C none H' ∧
  ((H' = H ∧ ∃ (D : Addr) (vs : List Value) (h' : Heap), C = .ref D ∧ s' = { s with heap := h' } ∧ Heap.MadeExcOf s.heap h' a C vs) ∨ (∃ B, Flew X.prog X.w X.stack H H' s a C B s') ∨ (∃ B, FlewH X.prog X.w X.stack X.env.locals H H' s a C B s'))
section
variable {X : Cx} {E : St → XK} {pins : List (Addr × Obj)} {σ : St} {H H' : Hp} {s s' : Shared} {a : Addr} {C : Value} {B : Heap}
theorem made_noted {M : Model} {A : Around} {E' : Value → Shared → Prop} {D : Addr} {vs : List Value} {h' : Heap} {Q : Unit → Shared → Prop} (lv : Lv X) (hA : A.frames = X.A.frames) (I : Inv X pins σ H s) (hx : Heap.MadeExcOf s.heap h' a (.ref D) vs)
    (hQ : ∀ B h2, FlewH X.prog X.w X.stack X.env.locals H H s a (.ref D) B { s with heap := h2 } → Q () { s with heap := h2 }) : wpAny M A (noteFrame (.ref a) X.env) Q E' { s with heap := h' } := by
  obtain ⟨lv1, lv2⟩ := lv
  have fs : ∀ b, b ∈ frs X.stack → H b = none := I.stkFree
  have inn : ∀ b o, s.heap.get? b = some o → b ∉ frs X.stack → (hideAll s.heap (frs X.stack)).get? b = some o := fun b o e hb => hideAll_get _ e hb
  have hin : ∀ env ∈ X.stack, ∀ a, env.frame = some a → a ∈ frs X.stack := fun env he a ha => List.mem_filterMap.mpr ⟨env, he, ha⟩
  have nfr : ∀ b, H b ≠ none → b ∉ frs X.stack := fun b n z => n (fs b z)
  refine noted_madeW (base := hideAll s.heap (frs X.stack)) (env := X.env) (outer := X.outer) (by rw [hA, I.ok.frames, lv1]) lv2 (fun b o q => of_hideAll _ q) (by rw [← lv1]; exact funFrames_hide I.stack hin) hx fun h2 a0 fl ups => hQ (hideAll s.heap (frs X.stack)) h2 ?_
  have hB := fl.1
  have hkeep : ∀ b o, s.heap.get? b = some o → b ∉ frs X.stack → h2.get? b = some o := fun b o e hb => hB b o (inn b o e hb)
  have hslot : ∀ b o, s.heap.get? b = some o → b ∈ frs X.stack → ∃ sl, h2.get? b = some { o with slots := sl } := fun b o e hb => by
    obtain ⟨_, o', e2, d⟩ := I.stack.mem hb
    rw [e] at e2
    cases e2
    obtain ⟨sl', e3⟩ := ups b o (hx.keeps b o e) d
    exact ⟨sl', e3⟩
  refine ⟨rfl, I.bare, ⟨fun b o x n hb _ => hkeep b o x hb, fun b o x n hb _ => hslot b o x hb, fun b o x n _ => n, fun b o x _ => ?_, fun _ _ z => z, fun _ _ _ z => z, fun _ ps z => ⟨#[], by simpa using z⟩⟩, fun b u eu => ?_, fun b o x n => ?_, fun b o x n hb => inn b o x hb, fun b o x hb => ⟨o, inn b o x hb⟩, fs, ?_, hx.new, a0, ?_⟩
  · by_cases hb : b ∈ frs X.stack
    · obtain ⟨l, e1⟩ := hslot b o x hb; exact ⟨_, e1⟩
    · exact ⟨o, hkeep b o x hb⟩
  · refine (I.hok b u eu).stay (fun c v hb q => hkeep c v q (nfr c ?_)) (fun _ q => q) fun _ _ q => q
    rcases hb with z | z
    · rw [z, eu]; simp
    · rw [z]; simp
  · cases eu : H b with
    | none => exact absurd eu n
    | some u =>
      obtain ⟨o1, e1⟩ := (I.hok b u eu).there
      have e2 := inn b o1 e1 (nfr b n)
      have e3 := hB b o1 e2
      rw [x] at e3
      cases e3
      exact e2
  · cases eu : H a with
    | none => rfl
    | some u =>
      obtain ⟨o1, e1⟩ := (I.hok a u eu).there
      rw [hx.new] at e1
      cases e1
  · rw [← lv1] at fl; exact fl
theorem flx_noted {M : Model} {A : Around} {E' : Value → Shared → Prop} {e : Value} {Q : Unit → Shared → Prop} (lv : Lv X) (hA : A.frames = X.A.frames) (h : FlX X E e s')
    (hQ : ∀ a C pins σ H H' s B s2, e = .ref a → Inv X pins σ H s → E σ C none H' → FlewH X.prog X.w X.stack X.env.locals H H' s a C B s2 → Q () s2) : wpAny M A (noteFrame e X.env) Q E' s' := by
  obtain ⟨a, C, pins, σ, H, H', s, rfl, I, hE, h⟩ := h
  rcases h with ⟨rfl, D, vs, h', rfl, rfl, hx⟩ | ⟨B, F⟩ | ⟨B, F⟩
  · exact made_noted lv hA I hx fun B h2 F => hQ _ _ _ _ _ _ _ _ _ rfl I hE F
  · obtain ⟨a0, fl⟩ := F.fly
    have fl' : Heap.FlyingW B (X.env :: X.outer) a C a0 s'.heap := by rw [← lv.1]; exact fl
    refine wpAny_looks_onW (by rw [hA, I.ok.frames, lv.1]) lv.2 fl' fun h2 hh hs => hQ _ _ _ _ _ _ _ _ _ rfl I hE (F.noted hs ⟨a0, by rw [lv.1]; exact hh⟩)
  · obtain ⟨a0, fl⟩ := F.fly
    exact wpAny_noteFrame_againW lv.2 fl.2.2.2 (hQ _ _ _ _ _ _ _ _ _ rfl I hE F)
end
section
variable {P : Program} {w : World} {K : PySem.W.Frag} {mg : Str → Option Value} {base : Heap} {N : List Str} {qual : Str} {scope : Scope} {f : Addr} {cd : Value} {A : Around} {outer : List Env} {s : Shared} {H : Hp} {E : XK}
theorem flx_leave {e : Value} {s' : Shared} (h : FlX (cxOf (CXr P w) P w K mg base N qual scope f cd A outer s H E) (fun _ => E) e s') : (cxOf (CXr P w) P w K mg base N qual scope f cd A outer s H E).xe e s' := by
  obtain ⟨a, C, pins, σ, H1, H', s1, rfl, I, hE, h⟩ := h
  rcases h with ⟨rfl, D, vs, h', rfl, rfl, hx⟩ | ⟨B, F⟩ | ⟨B, F⟩
  · exact raised I hx hE
  · exact pass_on (E' := E) (fun _ _ _ z => z) pins σ H1 s1 _ s' I ⟨a, C, H', B, rfl, F, hE⟩
  · obtain ⟨a0, fl⟩ := F.fly
    show wpAny (model P w) (A.deeper (envOfC qual scope s.heap.objs.size f cd)) (leaving (envOfC qual scope s.heap.objs.size f cd) (.ref a)) _ _ _
    unfold leaving
    refine wpAny_bind (wpAny_noteFrame_againW rfl fl.2.2.2 (wpAny_landsW fl fun h2 fl2 ups => ?_))
    have F2 := F.lands ups ⟨a0, fl2⟩
    have I2 := Flew.inv (X := cxOf (CXr P w) P w K mg base N qual scope f cd A outer s H E) F2 I
    have out : ∀ b o, s.heap.get? b = some o → b ∉ frs outer → b ∉ frs (envOfC qual scope s.heap.objs.size f cd :: outer) := fun b o e hb z => by
      have z : b ∈ s.heap.objs.size :: frs outer := z
      rcases List.mem_cons.mp z with q | q
      · rw [q] at e; exact Nat.lt_irrefl _ (Heap.lt_size e)
      · exact hb q
    obtain ⟨f1, f2, ⟨_, _, f3⟩, f4⟩ := id fl2
    refine ⟨a, C, H', B, rfl, ⟨I2.os, F2.bare, ⟨fun b o x n hb _ => I2.base.keep b o x n hb (by simp [cxOf]), fun b o x n hb _ => I2.base.slot b o x n hb (by simp [cxOf]), fun b o x n _ => I2.base.free b o x n (by simp [cxOf]), fun b o x _ => I2.base.there b o x (by simp [cxOf]), I2.base.tups, I2.base.frzs, I2.base.tbls⟩, F2.hok, F2.trk,
      fun b o x n hb => F2.old b o (I.base.keep b o x n hb (by simp [cxOf])) (I.base.free b o x n (by simp [cxOf])) (out b o x hb), fun b o x hb => ?_, I.ok.frf, F2.unt, ?_, a0, f1, f2, f3, f4⟩, hE⟩
    · obtain ⟨o1, e1⟩ := I.base.there b o x (by simp [cxOf])
      exact F2.thr b o1 e1 (out b o x hb)
    · cases eo : s.heap.get? a with
      | none => rfl
      | some o =>
        obtain ⟨o1, e1⟩ := I.base.there a o eo (by simp [cxOf])
        rw [F2.new] at e1
        cases e1
end
end L2
set_option Elab.async false
set_option linter.all false
set_option maxRecDepth 100000
namespace L2
open PySem PySem.W PySem.Spec PyProof.Rows
abbrev Cx.fl (X : Cx) (E : St → XK) : Cx := X.wish (FlX X E)
abbrev veBm : List Value := [.type "ValueError", .type "Exception", .type "BaseException", .type "object"]
abbrev RaiseIn (K : Frag) (C : Addr) : Prop := excIn K C veBm "ValueError.__new__" = true
theorem excObj_of {K : Frag} {h : Heap} {C : Addr} {bmB : List Value} {newId : String} (X : K.In h) (q : excIn K C bmB newId = true) :
    ∃ bm N nm q bs hdct sn sub ab col dd k0 k1 k2 k3 k5 mN, h.get? C = some (excClassObj nm q C N bs bm hdct sn sub ab col dd k0 k1 k2 k3 k5 newId) ∧ h.Ns N mN ∧ mN "__init__" = none ∧ OwnTail h bmB bm := by
  unfold excIn at q
  split at q
  · rename_i dd cd sl ho
    split at q
    · rename_i C' bm k0 k1 k2 k3 n k5 hm hs
      simp only [Bool.and_eq_true, beq_iff_eq, Bool.not_eq_true'] at q
      obtain ⟨⟨⟨⟨⟨rfl, rfl⟩, hdel⟩, ht⟩, hok⟩, hni⟩ := q
      obtain ⟨nm, bs, mro, ns, qn, hd, sn, sub, ab, col, del⟩ := cd
      dsimp only at hm hdel hok hni
      subst hm hdel
      have hsl : sl = #[k0, k1, k2, k3, some (.builtin n), k5] := by
        obtain ⟨l⟩ := sl
        simp only at hs
        rw [hs]
      subst hsl
      exact ⟨bm, ns, nm, qn, bs, hd, sn, sub, ab, col, dd, k0, k1, k2, k3, k5, _, X _ _ ho, .of_isNs (isNs_of_in X hok), nsMap_none_of_in X hok hni, tail_of_in X ht⟩
    · cases q
  · cases q
section
variable {X : Cx} {E : St → XK} {e : Expr} {te : TE} {np cpos pos : Pos} {x : Str} {C : Addr}
theorem ps_raise (he : PE (X.fl E) e te) (hg : Gl (X.fl E) x) (hm : X.mg x = some (.ref C)) (hC : RaiseIn X.K C) (hc : X.calm = true) (hd : (x == ("__debug__" : Str)) = false := by decide)
    (hs : starEach [e] X.env = [(false, eval e X.env)] := by rfl) : PS (X.fl E) (.Raise (some (.Call (.Name x np) [e] [] cpos)) none pos) (fun _ σ H => te σ H fun _ H1 => E σ (.ref C) none H1) := by
  intro pins s σ H D I h
  obtain ⟨tl, N, nm, q, bs, hdct, sn, sub, ab, col, dd, k0, k1, k2, k3, k5, mN, hCo, hN, hni, T⟩ := excObj_of I.kIn hC
  have hpl : (backTo cpos (starEach [e] X.env)).any (·.1) = false := by rw [hs]; rfl
  refine wpAny_Raise_call_subT (C := C) (nm := nm) (q := q) (N := N) (bs := bs) (bm := tl) (hdct := hdct) (sn := sn) (sub := sub) (ab := ab) (col := col) (dd := dd) (k0 := k0) (k1 := k1) (k2 := k2) (k3 := k3) (k5 := k5)
    PySem.F.excBase_ValueError (mN := mN) (T.hasType PySem.F.excBase_ValueError.hasBase) (I.ok.hd hc) hpl hni (ld_glob I hg hm ⟨rfl, ?_⟩ hd)
  show wpAny _ _ (evalArgs (.ref C) true (backTo cpos (starEach [e] X.env)) []) _ _ _
  have hpa : PA (X.fl E) [e] (tCons te tNil) := pa_cons he pa_nil (by show starEach [e] X.env = (false, eval e X.env) :: starEach [] X.env; rw [hs]; rfl)
  have hq := hpa cpos pins s σ H (fun vs H1 => vs.length = 1 ∧ E σ (.ref C) none H1) I (by
    unfold tCons tNil
    have z : te σ H (fun v H1 => E σ (.ref C) none H1) := h
    simpa using z)
  have hq : wpAny (model X.prog X.w) X.A (spliced (backTo cpos (starEach [e] X.env))) (AP (X.fl E) pins σ (fun vs H1 => vs.length = 1 ∧ E σ (.ref C) none H1)) (FlX X E) s := hq
  rw [hs] at hq ⊢
  refine Calls.evalArgs_plain (thn hq fun us s2 ⟨vs, H2, I2, r, hl, hE⟩ => ?_)
  obtain ⟨tl', N', nm', q', bs', hdct', sn', sub', ab', col', dd', k0', k1', k2', k3', k5', mN', hCo', hN', hni', T'⟩ := excObj_of I2.kIn hC
  have kx := I2.kIn
  have base : ∀ b o, X.base.get? b = some o → s2.heap.get? b = some o := I2.bk
  have kb : X.K.In X.base := I.ok.mod.kin
  obtain ⟨tl3, N3, nm3, q3, bs3, hdct3, sn3, sub3, ab3, col3, dd3, k03, k13, k23, k33, k53, mN3, hCo3, hN3, hni3, T3⟩ := excObj_of kb hC
  have e1 := (I.bk _ _ hCo3).symm.trans hCo
  cases e1
  obtain ⟨o4, es4, ep4, ho4, hd4, hs4, hf4⟩ := hN
  obtain ⟨o5, es5, ep5, ho5, hd5, hs5, hf5⟩ := hN3
  have e2 := (I.bk _ _ ho5).symm.trans ho4
  cases e2
  rw [hd4] at hd5
  cases hd5
  refine ⟨rfl, by rw [← r.length, hl]; decide, base _ _ hCo3, ⟨_, _, _, base _ _ ho5, hd4, hs4, hf4⟩, T3.keeps base, fun h' a hx => ?_⟩
  exact ⟨a, .ref C, pins, σ, H2, H2, s2, rfl, I2.unwish, hE, .inl ⟨rfl, C, us, h', rfl, rfl, hx⟩⟩
end
def DfX (P : Program) (w : World) (K : PySem.W.Frag) (mg : Str → Option Value) (base : Heap) (k : Nat) (x : Str) (ps : List Str) (sp : Sp) : Prop :=
  ∃ f fd, FnOk P w K mg base (CXr P w) k f fd ps sp ∧ Binds K fd ps [] ∧ PySem.W.keepIn K (.ref f) = true ∧ mg x = some (.ref f)
theorem DfX.mono {P : Program} {w : World} {K : PySem.W.Frag} {mg : Str → Option Value} {base : Heap} {j k : Nat} {x : Str} {ps : List Str} {sp : Sp} (D : DfX P w K mg base j x ps sp) (h : j ≤ k) : DfX P w K mg base k x ps sp := let ⟨f, fd, F, r⟩ := D; ⟨f, fd, F.mono h, r⟩
theorem DfX.imp {P : Program} {w : World} {K : PySem.W.Frag} {mg : Str → Option Value} {base : Heap} {k : Nat} {x : Str} {ps : List Str} {sp sp' : Sp} (D : DfX P w K mg base k x ps sp) (h : ∀ vs H Q E, sp' vs H Q E → sp vs H Q E) : DfX P w K mg base k x ps sp' := let ⟨f, fd, F, r⟩ := D; ⟨f, fd, F.imp h, r⟩
section
variable {X : Cx} {E : St → XK} {k : Nat} {x m : Str} {ps : List Str} {sp : Sp} {e o : Expr} {es : List Expr} {t : TA} {ta : TE} {p pos apos : Pos} {f C : Addr} {fd : FuncData}
theorem run_fnX {pins : List (Addr × Obj)} {σ : St} {H : Hp} {s : Shared} {Q : VK} {us : List Value} {vs : List V} (F : FnOk X.prog X.w X.K X.mg X.base (CXr X.prog X.w) k f fd ps sp) (hr : Room k X.A) (hb : Binds X.K fd ps [])
    (I : Inv (X.fl E) pins σ H s) (r : Vals vs us) (h : sp vs H Q (E σ)) : wpAny (model X.prog X.w) X.A (call (.ref f) us) (EP (X.fl E) pins σ Q) (FlX X E) s := by
  have hl : us.length = ps.length := by rw [← r.length]; exact F.len _ _ _ _ h
  have hb' := hb s us I.kIn (by simpa using hl)
  simp only [List.append_nil] at hb'
  refine wpAny_call (codeAny_mono (F.run X.A X.stack s H ⟨us, []⟩ us vs Q (E σ) hr I.env0 hb' r h) fun r s' hq => ?_)
  cases r with
  | error e =>
    obtain ⟨a, C, H', B, rfl, F, hE⟩ := hq
    exact ⟨a, C, pins, σ, H, H', s, rfl, I.unwish, hE, .inr (.inl ⟨B, F⟩)⟩
  | ok fl =>
    cases fl with
    | ret u => exact I.after hq
    | next => exact False.elim hq
    | brk => exact False.elim hq
    | cont => exact False.elim hq
theorem pe_methX {pl : Sem Bool} (he : PE (X.fl E) o ta) (c : Cls X.K C) (hm : Meth X.K C m f) (F : FnOk X.prog X.w X.K X.mg X.base (CXr X.prog X.w) k f fd ps sp) (hr : Room k X.A) (hb : Binds X.K fd ps []) (ha : PA (X.fl E) (e :: es) t)
    (hst : starEach (e :: es) X.env = (false, eval e X.env) :: starEach es X.env := by rfl) (hpl : (backTo pos (starEach es X.env)).any (·.1) = false := by rfl)
    (ht : eval (.Call (.Attribute o m apos) (e :: es) [] pos) X.env = (do
      let ov ← eval o X.env
      standAt apos.atName
      let (f, first) ← holding [ov] (getMethod ov m pl)
      callWith pos f first (backTo pos (starEach (e :: es) X.env)) (backToKw pos (keywordEach [] X.env))) := by rfl) :
    PE (X.fl E) (.Call (.Attribute o m apos) (e :: es) [] pos) (fun σ H Q => ta σ H fun x H1 => ∃ a dx fs, x = .ref a ∧ H1 a = some (.ins C dx fs) ∧ fs.lookup m = none ∧ t σ H1 fun vs H2 => sp (x :: vs) H2 Q (E σ)) := by
  intro pins s σ H Q I h
  refine PySem.W.methodCall_KW (pl := pl) (thn (he pins s σ H _ I h) fun u s1 ⟨x, H1, I1, rx, a, dx, fs, ex, ea, l, q⟩ => ?_) ht
  subst ex
  obtain rfl : u = Value.ref a := rx
  refine getmeth_ok I1 ea c hm l ?_
  refine PySem.W.callWith_K (first := [.ref a]) (h₀ := X.base) I.ok.mod.kin hm.kp (thn (ha pos pins s1 σ H1 _ I1 q) fun us s2 ⟨vs, H2, I2, r, q2⟩ => ⟨I2.kIn, ?_⟩) hst hpl
  exact run_fnX (us := .ref a :: us) (vs := .ref a :: vs) F hr hb I2 (.cons rfl r) q2
theorem pe_meth0X {pl : Sem Bool} (he : PE (X.fl E) o ta) (c : Cls X.K C) (hm : Meth X.K C m f) (F : FnOk X.prog X.w X.K X.mg X.base (CXr X.prog X.w) k f fd ps sp) (hr : Room k X.A) (hb : Binds X.K fd ps [])
    (ht : eval (.Call (.Attribute o m apos) [] [] pos) X.env = (do
      let ov ← eval o X.env
      standAt apos.atName
      let (f, first) ← holding [ov] (getMethod ov m pl)
      callWith pos f first (backTo pos (starEach [] X.env)) (backToKw pos (keywordEach [] X.env))) := by rfl) :
    PE (X.fl E) (.Call (.Attribute o m apos) [] [] pos) (fun σ H Q => ta σ H fun x H1 => ∃ a dx fs, x = .ref a ∧ H1 a = some (.ins C dx fs) ∧ fs.lookup m = none ∧ sp [x] H1 Q (E σ)) := by
  intro pins s σ H Q I h
  refine PySem.W.methodCall_KW (pl := pl) (thn (he pins s σ H _ I h) fun u s1 ⟨x, H1, I1, rx, a, dx, fs, ex, ea, l, q⟩ => ?_) ht
  subst ex
  obtain rfl : u = Value.ref a := rx
  refine getmeth_ok I1 ea c hm l ?_
  exact PySem.W.callWith_K0 (first := [.ref a]) I1.kIn hm.kp (run_fnX (us := [.ref a]) (vs := [.ref a]) F hr hb I1 (.cons rfl .nil) q)
end
theorem Fun.okX {P : Program} {w : World} {K : PySem.W.Frag} {mg : Str → Option Value} {base : Heap} {x qual : Str} {st : Stmt} {f : Addr} {fd : FuncData} {N ps : List Str} {k : Nat} {sp : Sp} (F : Fun K x qual st f fd) (S : FnScope N ps (defScope st)) (len : ∀ vs H Q E, sp vs H Q E → vs.length = ps.length)
    (hbody : ∀ (cdv : Value) (A : Around) (outer : List Env) (s : Shared) (H : Hp) (vs : List V) (Q : VK) (E : XK), Room k (A.deeper (envOfC qual (defScope st) s.heap.objs.size f cdv)) → sp vs H Q E →
      ∃ t, PSs ((cxOf (CXr P w) P w K mg base N qual (defScope st) f cdv A outer s H E).fl fun _ => E) (defBody st) t ∧ t { nx := fun _ H' => Q .non H', rt := Q } (start N vs) H) : FnOk P w K mg base (CXr P w) (k + 1) f fd ps sp := by
  obtain ⟨oc, od, kV, doc, pm, an, cdv, ct, osl, rfl, lk, hcd⟩ := F.ex
  refine fn_of lk hcd S len fun A outer s H vs Q E hr hsp => ?_
  obtain ⟨t, h, q⟩ := hbody cdv A outer s H vs Q E hr hsp
  refine ⟨t, fun pins s σ H D I hw => ?_, q⟩
  exact wpAny_mono (h pins s σ H D (I.wish _) hw) (fun _ _ z => z.unwish) fun e s' z => flx_leave z
end L2
set_option Elab.async false
set_option linter.all false
set_option maxRecDepth 100000
namespace L2
open PySem PySem.W PySem.Spec PyProof.Rows
abbrev Cx.mkd (X : Cx) (e : Addr) : Cx := { X with A := X.A.mark (some (.ref e)), calm := false, xe := fun _ _ => False }
theorem Inv.mkd {X : Cx} {pins : List (Addr × Obj)} {σ : St} {H : Hp} {s : Shared} (I : Inv X pins σ H s) (e : Addr) : Inv (X.mkd e) pins σ H s :=
  ⟨⟨I.ok.mod, I.ok.kind, I.ok.glob, I.ok.blt, I.ok.above, I.ok.inj, I.ok.has, I.ok.cab, (fun z => nomatch z), I.ok.frames, I.ok.stk, I.ok.exf, I.ok.bs, I.ok.bsz, I.ok.noex, I.ok.exfs, I.ok.funs, I.ok.frf⟩, I.os, I.bare, I.base, I.loc, I.cell, I.free, I.freeC, I.pin, I.hok, I.len⟩
theorem Inv.unmkd {X : Cx} {pins : List (Addr × Obj)} {σ : St} {H : Hp} {s : Shared} {e : Addr} (ok : X.Ok) (I : Inv (X.mkd e) pins σ H s) : Inv X pins σ H s :=
  ⟨ok, I.os, I.bare, I.base, I.loc, I.cell, I.free, I.freeC, I.pin, I.hok, I.len⟩
theorem Inv.pn {X : Cx} {pins qs : List (Addr × Obj)} {σ : St} {H : Hp} {s : Shared} (I : Inv X (pins ++ qs) σ H s) : Inv { X with pn := X.pn ++ pins } qs σ H s :=
  ⟨⟨I.ok.mod, I.ok.kind, I.ok.glob, I.ok.blt, I.ok.above, I.ok.inj, I.ok.has, I.ok.cab, I.ok.hd, I.ok.frames, I.ok.stk, I.ok.exf, I.ok.bs, I.ok.bsz, I.ok.noex, I.ok.exfs, I.ok.funs, I.ok.frf⟩, I.os, I.bare, I.base, I.loc, I.cell, I.free, I.freeC, fun p hp => I.pin p (by
    show p ∈ X.pn ++ (pins ++ qs)
    have hp : p ∈ (X.pn ++ pins) ++ qs := hp
    rwa [List.append_assoc] at hp), I.hok, I.len⟩
theorem Inv.unpn {X : Cx} {pins qs : List (Addr × Obj)} {σ : St} {H : Hp} {s : Shared} (I : Inv { X with pn := X.pn ++ pins } qs σ H s) : Inv X (pins ++ qs) σ H s :=
  ⟨⟨I.ok.mod, I.ok.kind, I.ok.glob, I.ok.blt, I.ok.above, I.ok.inj, I.ok.has, I.ok.cab, I.ok.hd, I.ok.frames, I.ok.stk, I.ok.exf, I.ok.bs, I.ok.bsz, I.ok.noex, I.ok.exfs, I.ok.funs, I.ok.frf⟩, I.os, I.bare, I.base, I.loc, I.cell, I.free, I.freeC, fun p hp => I.pin p (by
    show p ∈ (X.pn ++ pins) ++ qs
    have hp : p ∈ X.pn ++ (pins ++ qs) := hp
    rwa [← List.append_assoc] at hp), I.hok, I.len⟩
theorem Inv.fewer {X : Cx} {pins qs : List (Addr × Obj)} {σ : St} {H : Hp} {s : Shared} (I : Inv X (pins ++ qs) σ H s) : Inv X pins σ H s :=
  ⟨I.ok, I.os, I.bare, I.base, I.loc, I.cell, I.free, I.freeC, fun p hp => I.pin p (by
    show p ∈ X.pn ++ (pins ++ qs)
    have hp : p ∈ X.pn ++ pins := hp
    simp only [List.mem_append] at hp ⊢
    rcases hp with h | h
    · exact .inl h
    · exact .inr (.inl h)), I.hok, I.len⟩
section
variable {P : Program} {w : World} {outer : List Env} {H H' : Hp} {s s' : Shared} {e D : Addr} {B : Heap}
theorem Flew.track (F : Flew P w outer H H' s e (.ref D) B s') : Un (frs outer) [] H (upd H' e (excO e D)) s.heap s'.heap ∧ HOk P w (upd H' e (excO e D)) s'.heap := by
  obtain ⟨a0, fl⟩ := F.fly
  obtain ⟨ob, h1, h2⟩ := fl.there
  have ne : ∀ b o, H' b = some o → b ≠ e := fun b o q z => by rw [z, F.unt] at q; cases q
  refine ⟨⟨F.un.keep, F.un.slot, fun b o x n hx => ?_, F.un.there, fun b xs q => ?_, fun b o u q => ?_, fun b ps q => ?_⟩, fun b o q => ?_⟩
  · have : b ≠ e := fun z => by rw [z, F.new] at x; cases x
    rw [upd_ne this]
    exact F.un.free b o x n hx
  · have z := F.un.tups b xs q
    rw [upd_ne (ne _ _ z)]; exact z
  · have z := F.un.frzs b o u q
    rw [upd_ne (ne _ _ z)]; exact z
  · obtain ⟨m, z⟩ := F.un.tbls b ps q
    exact ⟨m, by rw [upd_ne (ne _ _ z)]; exact z⟩
  · by_cases hb : b = e
    · subst hb
      rw [upd_same] at q
      cases q
      refine ⟨⟨ob, h1, h2⟩, ⟨ob, h1⟩, ?_⟩
      rintro g1 g2 ⟨o, z1, z2⟩ k
      exact ⟨o, k o z1, z2⟩
    · rw [upd_ne hb] at q
      refine (F.hok b o q).stay (fun _ _ _ z => z) (fun c z => ?_) fun c xs z => ?_
      · rw [upd_ne (ne _ _ z)]; exact z
      · rw [upd_ne (ne _ _ z)]; exact z
end
theorem name_goes_ok {M : Model} {A : Around} {E : Value → Shared → Prop} {X : Cx} {pins : List (Addr × Obj)} {σ : St} {H : Hp} {s : Shared} {i : Nat} {n : Str} {pos : Pos} {Q : Unit → Shared → Prop} (I : Inv X pins σ H s) (hN : X.N.Nodup) (hi : X.N[i]? = some n) (hx : X.env.scope.names.lookup n = some .local)
    (h : ∀ s', Inv X pins (σ.set i none) H s' → Q () s') : wpAny M A (do bindName X.env n .none; unbindBehindTheSuite X.env n pos) Q E s := by
  obtain ⟨m, hn, hl⟩ := id I.loc
  have hcls : (X.env.scope.kind == .class || (X.env.scope.kind == .module && X.env.locals != X.env.globals)) = false := by rw [I.ok.kind]; rfl
  have cne := I.cne
  refine wpAny_nameGoes_keeps hx hn hcls fun h' v hn' hs => ?_
  obtain ⟨oL, _, _, hoL, _⟩ := id hn
  have tracked : HOk X.prog X.w H h' := fun b ob e => by
    refine (I.hok b ob e).stay (fun c w' hc q => (hs.2 c ?_).trans q) (fun _ q => q) fun _ _ q => q
    rintro rfl
    rcases hc with rfl | hc
    · rw [I.free] at e; cases e
    · rw [I.free] at hc; cases hc
  refine h _ ⟨I.ok, I.os, I.bare, ⟨fun b o e n hb hx => ?_, fun b o e n hb hx => ?_, I.base.free, fun b o e hx => ?_, I.base.tups, I.base.frzs, I.base.tbls⟩, ⟨_, hn', fun j y v' e1 e2 e3 => ?_⟩, fun y c e => ?_, I.free, I.freeC, fun p hp => ?_, tracked, by simpa using I.len⟩
  · exact (hs.2 b (Nat.ne_of_lt (Nat.lt_of_lt_of_le (Heap.lt_size e) I.ok.above))).trans (I.base.keep b o e n hb hx)
  · obtain ⟨sl, e1⟩ := I.base.slot b o e n hb hx
    exact ⟨sl, (hs.2 b (Nat.ne_of_lt (Nat.lt_of_lt_of_le (Heap.lt_size e) I.ok.above))).trans e1⟩
  · obtain ⟨o', e1⟩ := I.base.there b o e hx
    exact ⟨o', (hs.2 b (Nat.ne_of_lt (Nat.lt_of_lt_of_le (Heap.lt_size e) I.ok.above))).trans e1⟩
  · by_cases hj : j = i
    · subst hj
      have : j < σ.length := by
        have := (List.getElem?_eq_some_iff.mp e2).1
        simpa using this
      rw [List.getElem?_set_self this] at e2
      cases e2
    · rw [List.getElem?_set_ne (Ne.symm hj)] at e2
      obtain ⟨u, ru, lk⟩ := hl j y v' e1 e2 e3
      refine ⟨u, ru, ?_⟩
      have hyn : y ≠ n := fun z => hj ((List.getElem?_inj (List.getElem?_eq_some_iff.mp e1).1 hN).mp (by rw [e1, hi, z]))
      rcases lk with ⟨k1, k2⟩ | ⟨k1, c, k2, k3⟩
      · exact .inl ⟨k1, by show (if y = n then v else m y) = some u; rw [if_neg hyn]; exact k2⟩
      · refine .inr ⟨k1, c, k2, ?_⟩
        obtain ⟨oc, ho, hd⟩ := k3
        exact ⟨oc, (hs.2 c (cne _ _ k2)).trans ho, hd⟩
  · obtain ⟨w', oc, ho, hd⟩ := I.cell y c e
    exact ⟨w', oc, (hs.2 c (cne _ _ e)).trans ho, hd⟩
  · obtain ⟨p1, p2, p3, p4, p5⟩ := I.pin p hp
    exact ⟨(hs.2 _ p3).trans p1, p2, p3, p4, p5⟩
end L2
set_option Elab.async false
set_option linter.all false
set_option maxRecDepth 100000
namespace L2
open PySem PySem.W PySem.Spec PyProof.Rows
def Ends.gone (D : Ends) (i : Nat) : Ends := { nx := fun σ H => D.nx (σ.set i none) H, rt := D.rt, bk := fun σ H => D.bk (σ.set i none) H, ct := fun σ H => D.ct (σ.set i none) H }
section
variable {X : Cx} {body suite : List Stmt} {b₀ : Stmt} {p hp pos : Pos} {n y : Str} {i : Nat} {C0 : Addr} {tb : (St → XK) → TS} {ts : TS}
theorem ps_try (lv : Lv X) (hN : X.N.Nodup) (hi : X.N[i]? = some n) (hl : X.env.scope.names.lookup n = some .local) (hg : Gl X y) (hm : X.mg y = some (.ref C0))
    (hb : ∀ pn E, PSs (Cx.fl { X with pn := pn } E) body (tb E)) (hs : ∀ e, PSs (X.mkd e) (b₀ :: suite) ts) (hd : (y == ("__debug__" : Str)) = false := by decide) :
    PS X (.Try body [.ExceptHandler (some (.Name y p)) (some n) (b₀ :: suite) hp] [] [] pos)
      (fun D σ H => tb (fun σ' C _ H' => ∃ E1, C = .ref E1 ∧ exmOne X.K (.ref E1) (.ref C0) = some true ∧ ∀ a, H' a = none → ts (D.gone i) (σ'.set i (some (.ref a))) (upd H' a (excO a E1))) D σ H) := by
  intro pins s σ H D I h
  have I0 : Inv { X with pn := X.pn ++ pins } [] σ H s := Inv.pn (qs := []) (by simpa using I)
  have lv' : Lv { X with pn := X.pn ++ pins } := lv
  have key : ∃ E0 : St → XK, tb E0 D σ H ∧ ∀ σ' C d H', E0 σ' C d H' → ∃ E1, C = .ref E1 ∧ exmOne X.K (.ref E1) (.ref C0) = some true ∧ ∀ a, H' a = none → ts (D.gone i) (σ'.set i (some (.ref a))) (upd H' a (excO a E1)) := ⟨_, h, fun _ _ _ _ z => z⟩
  obtain ⟨E0, h, hE0⟩ := key
  refine wpAny_Try_except (wpAny_mono (hb _ _ [] s σ H D (I0.wish _) h) (fun f s1 q => ?_) fun e s1 q => ?_)
  · have back : ∀ {σ' : St} {H' : Hp}, Inv (Cx.fl { X with pn := X.pn ++ pins } E0) [] σ' H' s1 → Inv X pins σ' H' s1 := fun J => Inv.fewer (qs := []) (Inv.unpn J.unwish)
    cases f with
    | next =>
      obtain ⟨σ', H', J, z⟩ := q
      exact wpAny_execs_nil ⟨σ', H', back J, z⟩
    | brk => obtain ⟨σ', H', J, z⟩ := q; exact ⟨σ', H', back J, z⟩
    | cont => obtain ⟨σ', H', J, z⟩ := q; exact ⟨σ', H', back J, z⟩
    | ret u => obtain ⟨v, σ', H', J, r, z⟩ := q; exact ⟨v, σ', H', back J, r, z⟩
  · refine flx_noted (X := { X with pn := X.pn ++ pins }) (E := E0) lv' rfl q fun a C qs σ1 H1 H' s0 B s2 he J hE F => ?_
    subst he
    obtain ⟨E1, rfl, hx, hts⟩ := hE0 _ _ _ _ hE
    obtain ⟨a0, fl⟩ := F.fly
    refine wpAny_landsW fl fun h3 fl3 ups3 => ?_
    have F3 := F.lands ups3 ⟨a0, fl3⟩
    have J0 : Inv X (pins ++ qs) σ1 H1 s0 := Inv.unpn J
    have I3 : Inv X (pins ++ qs) σ1 H' { s2 with heap := h3 } := Flew.inv (X := X) F3 J0
    have LT : ∀ {M : Model} {h : Heap}, (∃ o, h.get? a = some o ∧ o.cls = .ref E1) → Looks M h (typeOf (.ref a)) (.ref E1) := fun {M h} ⟨o, z1, z2⟩ => z2 ▸ (Looks.ld z1).andThen .now
    refine wpAny_handleBy_cons (codeAny_handlers_test ?_) (by intro q; cases q)
    refine ld_glob (X := X.mkd a) (I3.mkd a) hg hm ?_ hd
    have hth : ∃ o, h3.get? a = some o ∧ o.cls = .ref E1 := fl3.there
    refine (exm_one (I3.kIn) (LT hth) hx).at ?_
    refine codeAny_handlers_suite_as ?_
    refine lands_againW fl3 fun h4 fl4 ups4 => ?_
    have F4 := F3.next ups4 ⟨a0, fl4⟩
    obtain ⟨un4, hok4⟩ := F4.track
    have I4 : Inv X (pins ++ qs) σ1 (upd H' a (excO a E1)) { s2 with heap := h4 } := J0.call' (ch := []) F4.os un4 hok4 F4.bare fun _ z => nomatch z
    refine store_ok (X := X.mkd a) (v := .ref a) (i := i) (I4.mkd a) hN hi (.inl hl) rfl (fun s5 I5 => ?_) (.inr hl)
    refine wpAny_mono (hs a (pins ++ qs) s5 _ _ (D.gone i) I5 (hts a F4.unt)) (fun f s6 z => ?_) fun _ _ z => False.elim z
    have fin : ∀ {σ' : St} {H'' : Hp} {R : Shared → Prop}, Inv (X.mkd a) (pins ++ qs) σ' H'' s6 → (∀ s7, Inv X pins (σ'.set i none) H'' s7 → R s7) → wpAny (model X.prog X.w) X.A (do bindName X.env n .none; unbindBehindTheSuite X.env n hp) (fun _ s7 => R s7) X.xe s6 := fun {σ' H'' R} K6 k =>
      name_goes_ok (X := X) (Inv.unmkd I.ok K6) hN hi hl fun s7 I7 => k s7 (Inv.fewer I7)
    cases f with
    | next => obtain ⟨σ', H'', J6, z⟩ := z; exact fin J6 fun s7 I7 => ⟨_, _, I7, z⟩
    | brk => obtain ⟨σ', H'', J6, z⟩ := z; exact fin J6 fun s7 I7 => ⟨_, _, I7, z⟩
    | cont => obtain ⟨σ', H'', J6, z⟩ := z; exact fin J6 fun s7 I7 => ⟨_, _, I7, z⟩
    | ret u => obtain ⟨v, σ', H'', J6, r, z⟩ := z; exact fin J6 fun s7 I7 => ⟨v, _, _, I7, r, z⟩
end
end L2
set_option Elab.async false
set_option linter.all false
set_option maxRecDepth 100000
namespace L3
open PySem PySem.Spec L2
open PyProof.Rows (envOfC)
inductive Rs (α : Type) where
  | ok (a : α) | ex (C : Addr)
abbrev EX := G → M → Option (Rs D × M)
abbrev BX := G → M → Option (Rs Bool × M)
abbrev LX := G → M → Option (Rs (List D) × M)
abbrev FX := List D → M → Option (Rs D × M)
inductive OutX where
  | nx | bk | ct | rt (d : D) | ex (C : Addr)
abbrev SX := G → M → Option (OutX × G × M)
section
variable (K : PySem.W.Frag) (E : St → XK)
def finR (E : XK) (Q : VK) (W' : Wd) : Rs D → Prop
  | .ok d => ∀ v, DR K W' d v → Q v W'.H
  | .ex C => E (.ref C) none W'.H
def finB (E : XK) (Q : Bool → Hp → Prop) (W' : Wd) : Rs Bool → Prop
  | .ok b => Q b W'.H
  | .ex C => E (.ref C) none W'.H
def finL (E : XK) (Q : List V → Hp → Prop) (W' : Wd) : Rs (List D) → Prop
  | .ok ds => ∀ vs, DRs K W' ds vs → Q vs W'.H
  | .ex C => E (.ref C) none W'.H
def finX (D : Ends) (W' : Wd) (σ' : St) : OutX → Prop
  | .nx => D.nx σ' W'.H
  | .bk => D.bk σ' W'.H
  | .ct => D.ct σ' W'.H
  | .rt d => ∀ v, DR K W' d v → D.rt v W'.H
  | .ex C => E σ' (.ref C) none W'.H
def tX (ev : EX) : TE := fun σ H Q => ∃ (W : Wd) (Γ : G) (r : Rs D) (μ' : M), W.H = H ∧ Ok K W ∧ EnvR K W Γ σ ∧ ev Γ W.μ = some (r, μ') ∧ ∀ W', W'.μ = μ' → Ok K W' → Step W W' → finR K (E σ) Q W' r
def tXB (ev : BX) : TT := fun σ H Q => ∃ (W : Wd) (Γ : G) (r : Rs Bool) (μ' : M), W.H = H ∧ Ok K W ∧ EnvR K W Γ σ ∧ ev Γ W.μ = some (r, μ') ∧ ∀ W', W'.μ = μ' → Ok K W' → Step W W' → finB (E σ) Q W' r
def tXL (ev : LX) : TA := fun σ H Q => ∃ (W : Wd) (Γ : G) (r : Rs (List D)) (μ' : M), W.H = H ∧ Ok K W ∧ EnvR K W Γ σ ∧ ev Γ W.μ = some (r, μ') ∧ ∀ W', W'.μ = μ' → Ok K W' → Step W W' → finL K (E σ) Q W' r
def tXS (es : SX) : TS := fun D σ H => ∃ (W : Wd) (Γ : G) (out : OutX) (Γ' : G) (μ' : M), W.H = H ∧ Ok K W ∧ EnvR K W Γ σ ∧ es Γ W.μ = some (out, Γ', μ') ∧ ∀ W' σ', W'.μ = μ' → Ok K W' → Step W W' → EnvR K W' Γ' σ' → finX K E D W' σ' out
end
def up (ev : EV) : EX := fun Γ μ => (ev Γ μ).bind fun p => some (.ok p.1, p.2)
def upB (ev : BV) : BX := fun Γ μ => (ev Γ μ).bind fun p => some (.ok p.1, p.2)
def upL (ev : LV) : LX := fun Γ μ => (ev Γ μ).bind fun p => some (.ok p.1, p.2)
def upO : Out → OutX
  | .nx => .nx
  | .bk => .bk
  | .ct => .ct
  | .rt d => .rt d
def upS (es : SV) : SX := fun Γ μ => (es Γ μ).bind fun o => some (upO o.1, o.2)
theorem PS_nox {X : Cx} {st : Stmt} {t : TS} (h : PS X.nox st t) : PS X st t := fun pins s σ H D I hw =>
  wpAny_mono (h pins s σ H D (I.wish _) hw) (fun _ _ q => q.unwish) fun _ _ z => False.elim z
theorem PA_nox {X : Cx} {es : List Expr} {t : TA} (h : PA X.nox es t) : PA X es t := fun pos pins s σ H Q I hw =>
  wpAny_mono (h pos pins s σ H Q (I.wish _) hw) (fun _ _ ⟨v, H', I', r, q⟩ => ⟨v, H', I'.unwish, r, q⟩) fun _ _ z => False.elim z
section
variable {X : Cx} {E : St → XK} {K : PySem.W.Frag} {e : Expr} {es : List Expr} {st : Stmt} {pos p : Pos} {ev : EV} {bv : BV} {lv : LV} {sv : SV}
theorem up_imp : ∀ σ H Q, tX K E (up ev) σ H Q → tD K ev σ H Q := fun σ H Q h => by
  obtain ⟨W, Γ, r, μ', rfl, ok, en, e, q⟩ := h
  obtain ⟨p, e1, e⟩ := bnd e
  cases e
  exact ⟨W, Γ, p.1, p.2, rfl, ok, en, e1, fun v W' h1 h2 h3 h4 => q W' h1 h2 h3 v h4⟩
theorem upB_imp : ∀ σ H Q, tXB K E (upB bv) σ H Q → tDB K bv σ H Q := fun σ H Q h => by
  obtain ⟨W, Γ, r, μ', rfl, ok, en, e, q⟩ := h
  obtain ⟨p, e1, e⟩ := bnd e
  cases e
  exact ⟨W, Γ, p.1, p.2, rfl, ok, en, e1, fun W' h1 h2 h3 => q W' h1 h2 h3⟩
theorem upL_imp : ∀ σ H Q, tXL K E (upL lv) σ H Q → tDL K lv σ H Q := fun σ H Q h => by
  obtain ⟨W, Γ, r, μ', rfl, ok, en, e, q⟩ := h
  obtain ⟨p, e1, e⟩ := bnd e
  cases e
  exact ⟨W, Γ, p.1, p.2, rfl, ok, en, e1, fun v W' h1 h2 h3 h4 => q W' h1 h2 h3 v h4⟩
theorem upS_imp : ∀ D σ H, tXS K E (upS sv) D σ H → tDS K sv D σ H := fun D σ H h => by
  obtain ⟨W, Γ, o, Γ', μ', rfl, ok, en, e, q⟩ := h
  obtain ⟨⟨o1, Γ1, μ1⟩, e1, e⟩ := bnd e
  cases e
  refine ⟨W, Γ, o1, _, _, rfl, ok, en, e1, fun W' σ' h1 h2 h3 h4 => ?_⟩
  have := q W' σ' h1 h2 h3 h4
  cases o1 <;> exact this
theorem y_up (h : PE X.nox e (tD K ev)) : PE X e (tX K E (up ev)) := PE_imp h.nox up_imp
theorem yt_up (h : PT X.nox e (tDB K bv)) : PT X e (tXB K E (upB bv)) := PT_imp h.nox upB_imp
theorem ya_up (h : PA X.nox es (tDL K lv)) : PA X es (tXL K E (upL lv)) := PA_imp (PA_nox h) upL_imp
theorem ys_up (h : PS X.nox st (tDS K sv)) : PS X st (tXS K E (upS sv)) := PS_imp (PS_nox h) upS_imp
def spX (K : PySem.W.Frag) (f : FX) : Sp := fun vs H Q E => ∃ (W : Wd) (ds : List D) (r : Rs D) (μ' : M), W.H = H ∧ Ok K W ∧ DRs K W ds vs ∧ f ds W.μ = some (r, μ') ∧ ∀ W', W'.μ = μ' → Ok K W' → Step W W' → finR K E Q W' r
end
end L3
set_option Elab.async false
set_option linter.all false
set_option maxRecDepth 100000
namespace L3
open PySem PySem.Spec L2
open PyProof.Rows (envOfC)
section
variable {X : Cx} {E : St → XK} {K : PySem.W.Frag} {e : Expr} {es : List Expr} {st : Stmt} {rest : List Stmt} {pos p : Pos} {sa sb : SX} {ex : EX}
def sSeqX (a b : SX) : SX := fun Γ μ => (a Γ μ).bind fun o => match o.1 with
  | .nx => b o.2.1 o.2.2
  | x => some (x, o.2)
theorem ys_nil : PSs X [] (tXS K E (upS sNx)) := PSs_imp xs_nil upS_imp
theorem ys_one (h1 : PS X st (tXS K E sa)) : PSs X [st] (tXS K E sa) := pss_one h1
theorem ys_cons (h1 : PS X st (tXS K E sa)) (h2 : PSs X rest (tXS K E sb)) : PSs X (st :: rest) (tXS K E (sSeqX sa sb)) := PSs_imp (pss_cons h1 h2) fun D σ H h => by
  obtain ⟨W, Γ, o, Γ', μ', rfl, ok, en, e, q⟩ := h
  obtain ⟨⟨o1, Γ1, μ1⟩, e1, e⟩ := bnd e
  refine ⟨W, Γ, o1, Γ1, μ1, rfl, ok, en, e1, fun W1 σ1 hμ ok1 s1 en1 => ?_⟩
  cases o1 with
  | nx => exact ⟨W1, Γ1, o, Γ', μ', rfl, ok1, en1, by rw [hμ]; exact e, fun W2 σ2 hμ2 ok2 s2 en2 => q W2 σ2 hμ2 ok2 (s1.trans s2) en2⟩
  | bk => cases e; exact q W1 σ1 hμ ok1 s1 en1
  | ct => cases e; exact q W1 σ1 hμ ok1 s1 en1
  | rt d => cases e; exact q W1 σ1 hμ ok1 s1 en1
  | ex C => cases e; exact q W1 σ1 hμ ok1 s1 en1
def sExprX (ea : EX) : SX := fun Γ μ => (ea Γ μ).bind fun p => match p.1 with
  | .ok _ => some (.nx, Γ, p.2)
  | .ex C => some (.ex C, Γ, p.2)
theorem ys_expr (he : PE X e (tX K E ex)) (hs : swapsWith e none pos.line X.env = pure false := by rfl) : PS X (.Expr e pos) (tXS K E (sExprX ex)) := PS_imp (ps_expr he hs) fun D σ H h => by
  obtain ⟨W, Γ, o, Γ', μ', rfl, ok, en, e, q⟩ := h
  obtain ⟨⟨p1, p2⟩, e1, e⟩ := bnd e
  refine ⟨W, Γ, p1, p2, rfl, ok, en, e1, fun W1 hμ ok1 s1 => ?_⟩
  cases p1 with
  | ex C => cases e; exact q W1 σ hμ ok1 s1 (en.step ok s1)
  | ok d => cases e; exact fun v rv => q W1 σ hμ ok1 s1 (en.step ok s1)
def sIfX (t : BX) (a b : SX) : SX := fun Γ μ => (t Γ μ).bind fun p => match p.1 with
  | .ok c => if c = true then a Γ p.2 else b Γ p.2
  | .ex C => some (.ex C, Γ, p.2)
theorem ys_if {c : Expr} {a b : List Stmt} {bc : BX} (hc : PT X c (tXB K E bc)) (ha : PSs X a (tXS K E sa)) (hb : PSs X b (tXS K E sb)) : PS X (.If c a b pos) (tXS K E (sIfX bc sa sb)) := PS_imp (ps_if hc ha hb) fun D σ H h => by
  obtain ⟨W, Γ, o, Γ', μ', rfl, ok, en, e, q⟩ := h
  obtain ⟨⟨p1, p2⟩, e1, e⟩ := bnd e
  refine ⟨W, Γ, p1, p2, rfl, ok, en, e1, fun W1 hμ ok1 s1 => ?_⟩
  cases p1 with
  | ex C => cases e; exact q W1 σ hμ ok1 s1 (en.step ok s1)
  | ok k =>
    cases k with
    | true =>
      simp only [finB, if_true]
      exact ⟨W1, Γ, o, Γ', μ', rfl, ok1, en.step ok s1, by rw [hμ]; exact e, fun W2 σ2 hμ2 ok2 s2 en2 => q W2 σ2 hμ2 ok2 (s1.trans s2) en2⟩
    | false =>
      simp only [finB, Bool.false_eq_true, if_false]
      exact ⟨W1, Γ, o, Γ', μ', rfl, ok1, en.step ok s1, by rw [hμ]; exact e, fun W2 σ2 hμ2 ok2 s2 en2 => q W2 σ2 hμ2 ok2 (s1.trans s2) en2⟩
def sRaise (C : Addr) (ea : EV) : SX := fun Γ μ => (ea Γ μ).bind fun p => some (.ex C, Γ, p.2)
theorem ys_raise {ea : EV} {x : Str} {C : Addr} {np cpos : Pos} (he : PE (X.fl E).nox e (tD K ea)) (hm : X.mg x = some (.ref C)) (hC : RaiseIn X.K C) (hg : Gl X x := by rfl) (hc : X.calm = true := by rfl) (hd : (x == ("__debug__" : Str)) = false := by decide)
    (hs : starEach [e] X.env = [(false, eval e X.env)] := by rfl) : PS (X.fl E) (.Raise (some (.Call (.Name x np) [e] [] cpos)) none pos) (tXS K E (sRaise C ea)) := PS_imp (ps_raise (te := tD K ea) (PE.nox he) hg hm hC hc hd hs) fun D σ H h => by
  obtain ⟨W, Γ, o, Γ', μ', rfl, ok, en, e, q⟩ := h
  obtain ⟨p1, e1, e⟩ := bnd e
  cases e
  exact ⟨W, Γ, p1.1, p1.2, rfl, ok, en, e1, fun v W1 hμ ok1 s1 r1 => q W1 σ hμ ok1 s1 (en.step ok s1)⟩
def sTry (cs : List Addr) (i : Nat) (body : SX) (suite : SV) : SV := fun Γ μ => (body Γ μ).bind fun o => match o.1 with
  | .nx => some (.nx, o.2)
  | .bk => some (.bk, o.2)
  | .ct => some (.ct, o.2)
  | .rt d => some (.rt d, o.2)
  | .ex C => if C ∈ cs then (suite (o.2.1.set i (some (.ref o.2.2.length))) (o.2.2 ++ [some (.exc C)])).bind fun z => some (z.1, z.2.1.set i none, z.2.2) else none
theorem EnvR.unset {W : Wd} {Γ : G} {σ : St} (e : EnvR K W Γ σ) (i : Nat) : EnvR K W (Γ.set i none) (σ.set i none) where
  len := by simp [e.len]
  at_ j d h := by
    by_cases hj : j = i
    · subst hj
      by_cases hl : j < Γ.length
      · rw [List.getElem?_set_self hl] at h; cases h
      · rw [List.getElem?_eq_none_iff.mpr (by simpa using hl)] at h; cases h
    · rw [List.getElem?_set_ne (Ne.symm hj)] at h ⊢
      exact e.at_ j d h
theorem xs_try {body suite : List Stmt} {b₀ : Stmt} {hp : Pos} {n y : Str} {i : Nat} {C0 : Addr} {sx : SX} {sv : SV} {cs : List Addr} (lv : Lv X) (hN : X.N.Nodup) (hi : X.N[i]? = some n) (hl : X.env.scope.names.lookup n = some .local) (hm : X.mg y = some (.ref C0))
    (hcs : ∀ C ∈ cs, PySem.W.exmOne X.K (.ref C) (.ref C0) = some true)
    (hb : ∀ pn E, PSs (Cx.fl { X with pn := pn } E) body (tXS K E sx)) (hs : ∀ e, PSs (X.mkd e) (b₀ :: suite) (tDS K sv)) (hg : Gl X y := by rfl) (hd : (y == ("__debug__" : Str)) = false := by decide) :
    PS X (.Try body [.ExceptHandler (some (.Name y p)) (some n) (b₀ :: suite) hp] [] [] pos) (tDS K (sTry cs i sx sv)) := PS_imp (ps_try lv hN hi hl hg hm hb hs hd) fun D σ H h => by
  obtain ⟨W, Γ, o, Γ', μ', rfl, ok, en, e, q⟩ := h
  obtain ⟨⟨o1, Γ1, μ1⟩, e1, e⟩ := bnd e
  refine ⟨W, Γ, o1, Γ1, μ1, rfl, ok, en, e1, fun W1 σ1 hμ ok1 s1 en1 => ?_⟩
  cases o1 with
  | nx => cases e; exact q W1 σ1 hμ ok1 s1 en1
  | bk => cases e; exact q W1 σ1 hμ ok1 s1 en1
  | ct => cases e; exact q W1 σ1 hμ ok1 s1 en1
  | rt d => cases e; exact q W1 σ1 hμ ok1 s1 en1
  | ex C =>
    have e : (if C ∈ cs then (sv (Γ1.set i (some (.ref μ1.length))) (μ1 ++ [some (.exc C)])).bind fun z => some (z.1, z.2.1.set i none, z.2.2) else none) = some (o, Γ', μ') := e
    split at e
    · rename_i hC
      obtain ⟨⟨o2, Γ2, μ2⟩, e2, e⟩ := bnd e
      cases e
      refine ⟨C, rfl, hcs C hC, fun a ha => ?_⟩
      have okn := ok_new (x := .exc C) (o := excO a C) ok1 ha rfl
      have sn := step_new (K := K) (x := .exc C) (o := excO a C) ok1 ha
      refine ⟨W1.new a (excO a C) (.exc C), Γ1.set i (some (.ref μ1.length)), o2, Γ2, μ2, rfl, okn, ?_, ?_, fun W2 σ2 hμ2 ok2 s2 en2 => ?_⟩
      · have := (en1.step ok1 sn).set (dr_new (K := K) (W := W1) (p := a) (o := excO a C) (x := .exc C) ok1) i
        rw [hμ] at this
        exact this
      · show sv _ (W1.μ ++ _) = _
        rw [hμ]; exact e2
      · have st := (s1.trans sn).trans s2
        cases o2 with
        | nx => exact q W2 _ hμ2 ok2 st (en2.unset i)
        | bk => exact q W2 _ hμ2 ok2 st (en2.unset i)
        | ct => exact q W2 _ hμ2 ok2 st (en2.unset i)
        | rt d => exact q W2 _ hμ2 ok2 st (en2.unset i)
    · cases e
end
def runX (n m : Nat) (es : SX) : FX := fun ds μ => if ds.length = m then (es (ds.map some ++ List.replicate (n - ds.length) none) μ).bind fun o => match o.1 with
    | .rt d => some (.ok d, o.2.2)
    | .nx => some (.ok .non, o.2.2)
    | .ex C => some (.ex C, o.2.2)
    | _ => none
  else none
theorem fn_x {P : Program} {w : World} {K : PySem.W.Frag} {mg : Str → Option Value} {base : Heap} {x qual : Str} {st : Stmt} {f : Addr} {fd : FuncData} {N ps : List Str} {k : Nat} {es : SX} (F : Fun K x qual st f fd) (S : FnScope N ps (defScope st))
    (hb : ∀ (cdv : Value) (A : Around) (outer : List Env) (s : Shared) (H : Hp) (E : XK), Room k (A.deeper (envOfC qual (defScope st) s.heap.objs.size f cdv)) → PSs ((cxOf (CXr P w) P w K mg base N qual (defScope st) f cdv A outer s H E).fl fun _ => E) (defBody st) (tXS K (fun _ => E) es)) :
    FnOk P w K mg base (CXr P w) (k + 1) f fd ps (spX K (runX N.length ps.length es)) := by
  refine F.okX S (fun vs H Q E h => ?_) (fun cdv A outer s H vs Q E hr h => ?_)
  · obtain ⟨W, ds, r, μ', _, _, rr, e, _⟩ := h
    unfold runX at e
    split at e
    · rename_i hl; rw [← rr.length]; exact hl
    · cases e
  · obtain ⟨W, ds, r, μ', rfl, ok, rr, e, q⟩ := h
    refine ⟨_, hb cdv A outer s W.H E hr, ?_⟩
    unfold runX at e
    split at e
    · obtain ⟨⟨o, Γ', μ2⟩, e1, e⟩ := bnd e
      refine ⟨W, _, o, Γ', μ2, rfl, ok, env_start rr, e1, fun W' σ' hμ ok' s' en' => ?_⟩
      cases o with
      | rt z => cases e; exact q W' hμ ok' s'
      | nx => cases e; exact q W' hμ ok' s' _ .non
      | ex C => cases e; exact q W' hμ ok' s'
      | bk => cases e
      | ct => cases e
    · cases e
end L3
set_option Elab.async false
set_option linter.all false
set_option maxRecDepth 100000
namespace L2
open PySem PySem.W PySem.Spec PyProof.Rows
section
variable {X : Cx} {a b e : Expr} {es : List Expr} {ta : TE} {p pos : Pos} {c : V} {cs : List V}
end
def clV : V → Option Value
  | .ref a => some (.ref a)
  | .ty n => some (.type n)
  | _ => none
theorem clV_is {v : V} {u : Value} (h : clV v = some u) : RelV v u := by
  cases v with
  | ref a => cases h; rfl
  | ty n => cases h; rfl
  | _ => cases h
end L2
namespace L3
open PySem PySem.Spec L2
section
variable {X : Cx} {K : PySem.W.Frag} {a b e : Expr} {es : List Expr} {ea : EV} {p pos : Pos}
def fIsiX (q : Addr → Option Bool) (x : D) (μ : M) : Option (D × M) := match x with
  | .ref k => match μ[k]? with
    | some (some (.exc C)) => (q C).bind fun b => some (.bl b, μ)
    | _ => none
  | _ => none
def IsX (K : PySem.W.Frag) (c : V) (q : Addr → Option Bool) : Prop := ∃ cv, clV c = some cv ∧ ∀ C b, q C = some b → ExcIn K C ∧ PySem.W.kitOne K (.ref C) cv = some b
theorem exc_at {W : Wd} {k : Nat} {C : Addr} {v : V} (ok : Ok K W) (h : W.μ[k]? = some (some (.exc C))) (r : DR K W (.ref k) v) : ∃ a, v = .ref a ∧ W.H a = some (excO a C) := by
  cases r with
  | ref ha =>
    obtain ⟨a', ho, h1, h2, h3⟩ := ok.at_ k _ h
    rw [ha] at h1
    cases h1
    exact ⟨_, rfl, by rw [h2]; cases (show _ = _ from h3); rfl⟩
theorem x_isiX {c : V} {q : Addr → Option Bool} (hq : IsX K c q) (ml : X.mg "isinstance" = none) (ha : PE X a (tD K ea)) (hb : PE X b (tC c)) (hg : Gl X "isinstance" := by rfl) (hs : starEach [a, b] X.env = [(false, eval a X.env), (false, eval b X.env)] := by rfl) (hs2 : starEach [b] X.env = [(false, eval b X.env)] := by rfl) (hK : X.K = K := by rfl) :
    PE X (.Call (.Name "isinstance" p) [a, b] [] pos) (tD K (v1 (fIsiX q) ea)) := PE_imp (eIsiX K ml ha hb hg hs hs2 hK) (t1_imp (by
  intro W x d z μ' Q ok r1 hf qq
  obtain ⟨cv, hcv, hq⟩ := hq
  unfold fIsiX at hf
  split at hf
  · split at hf
    · rename_i C hk
      obtain ⟨b, hb, hf⟩ := bnd hf
      cases hf
      obtain ⟨a', rfl, hh⟩ := exc_at ok hk r1
      obtain ⟨h1, h2⟩ := hq C b hb
      exact ⟨a', C, c, cv, b, rfl, hh, h1, clV_is hcv, h2, qq _ W rfl ok .refl (.bl _)⟩
    · cases hf
  · cases hf))
end
end L3
set_option Elab.async false
set_option linter.all false
set_option maxRecDepth 100000
namespace L3
open PySem PySem.Spec L2
section
variable {X : Cx} {E : St → XK} {K : PySem.W.Frag} {e e2 : Expr} {es : List Expr} {st : List Stmt} {pos p : Pos} {sv : SV}
theorem yss_up (h : PSs X.nox st (tDS K sv)) : PSs X st (tXS K E (upS sv)) := PSs_imp h.nox upS_imp
def runM : List EV → G → M → Option M
  | [], _, μ => some μ
  | ea :: r, Γ, μ => (ea Γ μ).bind fun p => match p.1 with
    | .int i => if i.natAbs.log2 < 1920 then runM r Γ p.2 else none
    | _ => none
def tJ (K : PySem.W.Frag) (l : List EV) : St → Hp → (Hp → Prop) → Prop := fun σ H Q => ∃ (W : Wd) (Γ : G) (μ' : M), W.H = H ∧ Ok K W ∧ EnvR K W Γ σ ∧ runM l Γ W.μ = some μ' ∧ ∀ W', W'.μ = μ' → Ok K W' → Step W W' → Q W'.H
theorem PJ_imp {t t' : St → Hp → (Hp → Prop) → Prop} (h : PJ X es t) (hi : ∀ σ H Q, t' σ H Q → t σ H Q) : PJ X es t' := fun pins s σ H Q acc n a b I hw => h pins s σ H Q acc n a b I (hi _ _ _ hw)
theorem pj0 : PJ X [] (tJ K []) := PJ_imp pj_nil fun σ H Q h => by
  obtain ⟨W, Γ, μ', rfl, ok, en, e, q⟩ := h
  cases e
  exact q W rfl ok .refl
theorem pj_s {x : Str} {j : Nat} {l : List EV} (hx : x.length ≤ 2000) (hr : PJ X es (tJ K l)) : PJ X (.Constant (.str x) j p :: es) (tJ K l) := pj_str hx hr
theorem pj_v {ea : EV} {l : List EV} (he : PE X e (tD K ea)) (hr : PJ X es (tJ K l)) : PJ X (.FormattedValue e (-1) none p :: es) (tJ K (ea :: l)) := PJ_imp (pj_int he hr) fun σ H Q h => by
  obtain ⟨W, Γ, μ', rfl, ok, en, e, q⟩ := h
  obtain ⟨p1, e1, e⟩ := bnd e
  refine ⟨W, Γ, p1.1, p1.2, rfl, ok, en, e1, fun v W1 hμ ok1 s1 r1 => ?_⟩
  split at e
  · rename_i i hi
    split at e
    · rename_i hl
      rw [hi] at r1
      cases r1
      exact ⟨i, rfl, hl, W1, Γ, μ', rfl, ok1, en.step ok s1, by rw [hμ]; exact e, fun W2 hμ2 ok2 s2 => q W2 hμ2 ok2 (s1.trans s2)⟩
    · cases e
  · cases e
def tMsg (K : PySem.W.Frag) (l : List EV) : TE := fun σ H Q => ∃ (W : Wd) (Γ : G) (μ' : M), W.H = H ∧ Ok K W ∧ EnvR K W Γ σ ∧ runM l Γ W.μ = some μ' ∧ ∀ v W', W'.μ = μ' → Ok K W' → Step W W' → Q v W'.H
theorem x_msg {l : List EV} (h : PJ X (e :: e2 :: es) (tJ K l)) (hl : (e :: e2 :: es).length ≤ 400 := by decide) : PE X (.JoinedStr (e :: e2 :: es) pos) (tMsg K l) := PE_imp (pe_join h hl) fun σ H Q h => by
  obtain ⟨W, Γ, μ', rfl, ok, en, e, q⟩ := h
  exact ⟨W, Γ, μ', rfl, ok, en, e, fun W' h1 h2 h3 z => q _ W' h1 h2 h3⟩
def sRaiseM (C : Addr) (l : List EV) : SX := fun Γ μ => (runM l Γ μ).bind fun μ' => some (.ex C, Γ, μ')
theorem ys_raiseM {l : List EV} {x : Str} {C : Addr} {np cpos : Pos} (he : PE (X.fl E).nox e (tMsg K l)) (hm : X.mg x = some (.ref C)) (hC : RaiseIn X.K C) (hg : Gl X x := by rfl) (hc : X.calm = true := by rfl) (hd : (x == ("__debug__" : Str)) = false := by decide)
    (hs : starEach [e] X.env = [(false, eval e X.env)] := by rfl) : PS (X.fl E) (.Raise (some (.Call (.Name x np) [e] [] cpos)) none pos) (tXS K E (sRaiseM C l)) := PS_imp (ps_raise (te := tMsg K l) (PE.nox he) hg hm hC hc hd hs) fun D σ H h => by
  obtain ⟨W, Γ, o, Γ', μ', rfl, ok, en, e, q⟩ := h
  obtain ⟨μ1, e1, e⟩ := bnd e
  cases e
  exact ⟨W, Γ, _, rfl, ok, en, e1, fun v W1 hμ ok1 s1 => q W1 σ hμ ok1 s1 (en.step ok s1)⟩
end
end L3
set_option Elab.async false
set_option linter.all false
set_option maxRecDepth 100000
namespace L2
open PySem PySem.W PySem.Spec PySem.Calls PyProof.Rows PySem.SeqAt
section
variable {X : Cx} {a o : Expr} {ta to : TE} {p pos : Pos}
end
end L2
namespace L3
open PySem PySem.Spec L2
section
variable {X : Cx} {K : PySem.W.Frag} {a : Expr} {ea : EV} {p pos : Pos}
end
end L3
set_option Elab.async false
set_option linter.all false
set_option maxRecDepth 100000
namespace L3
open PySem PySem.Spec L2
class Enc (α : Type) where
  d : α → D
  p : α → PyData
  k : Nat
  py_eq : ∀ (a : α) (μ : M) (n : Nat), k < n → py n μ (d a) = some (p a)
  lay : ∀ a, (p a).canLay0 = true
  dep : ∀ a, (p a).depth ≤ k
  eqv : ∀ a b, PyData.eqv (p a) (p b) = true ↔ a = b
instance encInt : Enc Int where
  d i := .int i
  p i := .int i
  k := 0
  py_eq a μ n h := by cases n with | zero => omega | succ n => rfl
  lay a := rfl
  dep a := by simp [PyData.depth]
  eqv a b := by simp [PyData.eqv]
instance encNat : Enc Nat where
  d i := .int i
  p i := .int i
  k := 0
  py_eq a μ n h := by cases n with | zero => omega | succ n => rfl
  lay a := rfl
  dep a := by simp [PyData.depth]
  eqv a b := by simp [PyData.eqv]; omega
instance encBool : Enc Bool where
  d i := .bl i
  p i := .bool i
  k := 0
  py_eq a μ n h := by cases n with | zero => omega | succ n => rfl
  lay a := rfl
  dep a := by simp [PyData.depth]
  eqv a b := by cases a <;> cases b <;> simp [PyData.eqv]
section
variable {α β γ : Type} [Enc α] [Enc β] [Enc γ]
theorem enc_all {μ : M} {n : Nat} (h : Enc.k α < n) : ∀ l : List α, optAll (py n μ) (l.map Enc.d) = some (l.map Enc.p)
  | [] => rfl
  | a :: r => by simp only [List.map_cons, optAll, Enc.py_eq a μ n h, enc_all h r, Option.bind_some]
theorem lay_all : ∀ l : List α, PyData.canLayAll0 (l.map Enc.p) = true
  | [] => rfl
  | a :: r => by simp only [List.map_cons, PyData.canLayAll0, Enc.lay a, lay_all r, Bool.and_self]
theorem dep_all : ∀ l : List α, PyData.depthAll (l.map Enc.p) ≤ Enc.k α
  | [] => by simp [PyData.depthAll]
  | a :: r => by
    have h1 := Enc.dep a
    have h2 := dep_all r
    simp only [List.map_cons, PyData.depthAll]
    omega
theorem eqv_all : ∀ l m : List α, PyData.eqvAll (l.map Enc.p) (m.map Enc.p) = true ↔ l = m
  | [], [] => by simp [PyData.eqvAll]
  | [], _ :: _ => by simp [PyData.eqvAll]
  | _ :: _, [] => by simp [PyData.eqvAll]
  | a :: r, b :: s => by
    have h1 := Enc.eqv a b
    have h2 := eqv_all r s
    simp only [List.map_cons, PyData.eqvAll, Bool.and_eq_true, h1, h2, List.cons.injEq]
instance encList : Enc (List α) where
  d l := .lst (l.map Enc.d)
  p l := .list (l.map Enc.p)
  k := Enc.k α + 1
  py_eq l μ n h := by
    cases n with
    | zero => omega
    | succ n => rw [py_lst, enc_all (by omega)]; rfl
  lay l := by simp only [PyData.canLay0]; exact lay_all l
  dep l := by
    have := dep_all l
    simp only [PyData.depth]; omega
  eqv l m := by simp only [PyData.eqv]; exact eqv_all l m
instance encPair : Enc (α × β) where
  d a := .tup [Enc.d a.1, Enc.d a.2]
  p a := .tuple [Enc.p a.1, Enc.p a.2]
  k := max (Enc.k α) (Enc.k β) + 1
  py_eq a μ n h := by
    cases n with
    | zero => omega
    | succ n => rw [py_tup]; simp only [optAll, Enc.py_eq a.1 μ n (by omega), Enc.py_eq a.2 μ n (by omega), Option.bind_some]
  lay a := by simp only [PyData.canLay0, PyData.canLayAll0, Enc.lay a.1, Enc.lay a.2, Bool.and_self]
  dep a := by
    have h1 := Enc.dep a.1
    have h2 := Enc.dep a.2
    simp only [PyData.depth, PyData.depthAll]; omega
  eqv a b := by
    obtain ⟨a1, a2⟩ := a
    obtain ⟨b1, b2⟩ := b
    have h1 := Enc.eqv a1 b1
    have h2 := Enc.eqv a2 b2
    simp only [PyData.eqv, PyData.eqvAll, Bool.and_true, Bool.and_eq_true, h1, h2, Prod.mk.injEq]
structure Tri (α β γ : Type) where
  a : α
  b : β
  c : γ
  deriving DecidableEq
instance encTri : Enc (Tri α β γ) where
  d t := .tup [Enc.d t.a, Enc.d t.b, Enc.d t.c]
  p t := .tuple [Enc.p t.a, Enc.p t.b, Enc.p t.c]
  k := max (Enc.k α) (max (Enc.k β) (Enc.k γ)) + 1
  py_eq a μ n h := by
    cases n with
    | zero => omega
    | succ n => rw [py_tup]; simp only [optAll, Enc.py_eq a.a μ n (by omega), Enc.py_eq a.b μ n (by omega), Enc.py_eq a.c μ n (by omega), Option.bind_some]
  lay a := by simp only [PyData.canLay0, PyData.canLayAll0, Enc.lay a.a, Enc.lay a.b, Enc.lay a.c, Bool.and_self]
  dep a := by
    have h1 := Enc.dep a.a
    have h2 := Enc.dep a.b
    have h3 := Enc.dep a.c
    simp only [PyData.depth, PyData.depthAll]; omega
  eqv a b := by
    obtain ⟨a1, a2, a3⟩ := a
    obtain ⟨b1, b2, b3⟩ := b
    have h1 := Enc.eqv a1 b1
    have h2 := Enc.eqv a2 b2
    have h3 := Enc.eqv a3 b3
    simp only [PyData.eqv, PyData.eqvAll, Bool.and_true, Bool.and_eq_true, h1, h2, h3, Tri.mk.injEq]
end
section
variable {μ : M} {x y : D} {a b : PyData}
def isInt : D → Bool
  | .int _ => true
  | _ => false
def isStr : D → Bool
  | .str _ => true
  | _ => false
theorem eqD_py (h : (isInt x && isInt y) = false) (h2 : (isStr x && isStr y) = false) : eqD x y μ = (py 65 μ x).bind fun d => (py 65 μ y).bind fun e => if (d.canLay0 && e.canLay0 && decide (d.depth ≤ 64)) = true then some (PyData.eqv d e) else none := by
  cases x <;> cases y <;> first | rfl | (simp [isInt] at h; done) | (simp [isStr] at h2; done)
def Rds (μ : M) (x : D) (α : Type) [Enc α] (a : α) : Prop := py 65 μ x = some (Enc.p a)
variable {α : Type} [Enc α] [DecidableEq α] {s t : α}
theorem eqD_rds (hk : Enc.k α ≤ 64) (h1 : Rds μ x α s) (h2 : Rds μ y α t) (h : (isInt x && isInt y) = false) (h' : (isStr x && isStr y) = false) : eqD x y μ = some (decide (s = t)) := by
  rw [eqD_py h h', h1, h2]
  have l1 := Enc.lay s
  have l2 := Enc.lay t
  have l3 := Enc.dep s
  simp only [Option.bind_some, l1, l2, Bool.and_self, Bool.true_and]
  rw [if_pos (by simp; omega)]
  congr 1
  have := Enc.eqv s t
  by_cases e : s = t
  · rw [this.mpr e, decide_eq_true e]
  · rw [decide_eq_false e]
    cases hq : PyData.eqv (Enc.p s) (Enc.p t) with
    | false => rfl
    | true => exact absurd (this.mp hq) e
end
theorem rds_d {α : Type} [Enc α] {μ : M} (hk : Enc.k α ≤ 64) (a : α) : Rds μ (Enc.d a) α a := Enc.py_eq a μ 65 (by omega)
theorem py_ref {n : Nat} {μ : M} {k : Nat} {ds : List D} (h : μ[k]? = some (some (.lst ds))) : py (n + 1) μ (.ref k) = (optAll (py n μ) ds).bind fun ys => some (.list ys) := by
  simp only [py, h]
theorem eqD_lst {α : Type} [Enc α] [DecidableEq α] {μ : M} {l m : List α} (hk : Enc.k α ≤ 63) : eqD (.lst (l.map Enc.d)) (.lst (m.map Enc.d)) μ = some (decide (l = m)) :=
  eqD_rds (α := List α) (by show Enc.k α + 1 ≤ 64; omega) (rds_d (α := List α) (by show Enc.k α + 1 ≤ 64; omega) l) (rds_d (α := List α) (by show Enc.k α + 1 ≤ 64; omega) m) rfl rfl
section
variable {Γ : G} {μ : M}
@[simp] theorem up_s {ev : EV} {d : D} {μ1 : M} (h : ev Γ μ = some (d, μ1)) : up ev Γ μ = some (.ok d, μ1) := by unfold up; rw [h]; rfl
theorem upB_s {ev : BV} {b : Bool} {μ1 : M} (h : ev Γ μ = some (b, μ1)) : upB ev Γ μ = some (.ok b, μ1) := by unfold upB; rw [h]; rfl
theorem upS_s {es : SV} {o : Out} {Γ1 : G} {μ1 : M} (h : es Γ μ = some (o, Γ1, μ1)) : upS es Γ μ = some (upO o, Γ1, μ1) := by unfold upS; rw [h]; rfl
theorem seqX_nx {a b : SX} {Γ1 : G} {μ1 : M} (h : a Γ μ = some (.nx, Γ1, μ1)) : sSeqX a b Γ μ = b Γ1 μ1 := by unfold sSeqX; rw [h]; rfl
theorem seqX_ex {a b : SX} {C : Addr} {Γ1 : G} {μ1 : M} (h : a Γ μ = some (.ex C, Γ1, μ1)) : sSeqX a b Γ μ = some (.ex C, Γ1, μ1) := by unfold sSeqX; rw [h]; rfl
theorem ifX_t {t : BX} {a b : SX} {μ1 : M} (h : t Γ μ = some (.ok true, μ1)) : sIfX t a b Γ μ = a Γ μ1 := by unfold sIfX; rw [h]; rfl
theorem ifX_f {t : BX} {a b : SX} {μ1 : M} (h : t Γ μ = some (.ok false, μ1)) : sIfX t a b Γ μ = b Γ μ1 := by unfold sIfX; rw [h]; rfl
theorem raise_s {ea : EV} {C : Addr} {d : D} {μ1 : M} (h : ea Γ μ = some (d, μ1)) : sRaise C ea Γ μ = some (.ex C, Γ, μ1) := by unfold sRaise; rw [h]; rfl
theorem exprX_o {ea : EX} {d : D} {μ1 : M} (h : ea Γ μ = some (.ok d, μ1)) : sExprX ea Γ μ = some (.nx, Γ, μ1) := by unfold sExprX; rw [h]; rfl
theorem exprX_e {ea : EX} {C : Addr} {μ1 : M} (h : ea Γ μ = some (.ex C, μ1)) : sExprX ea Γ μ = some (.ex C, Γ, μ1) := by unfold sExprX; rw [h]; rfl
theorem try_ex {cs : List Addr} {i : Nat} {b : SX} {s : SV} {C : Addr} {Γ1 Γ2 : G} {μ1 μ2 : M} {o : Out} (h : b Γ μ = some (.ex C, Γ1, μ1)) (hc : C ∈ cs) (h2 : s (Γ1.set i (some (.ref μ1.length))) (μ1 ++ [some (.exc C)]) = some (o, Γ2, μ2)) : sTry cs i b s Γ μ = some (o, Γ2.set i none, μ2) := by
  unfold sTry; rw [h]
  show (if C ∈ cs then _ else none) = _
  rw [if_pos hc, h2]; rfl
theorem runX_rt {n m : Nat} {es : SX} {ds : List D} {d : D} {Γ1 : G} {μ1 : M} (hl : ds.length = m) (h : es (ds.map some ++ List.replicate (n - ds.length) none) μ = some (.rt d, Γ1, μ1)) : runX n m es ds μ = some (.ok d, μ1) := by
  unfold runX; rw [if_pos hl, h]; rfl
theorem runX_nx {n m : Nat} {es : SX} {ds : List D} {Γ1 : G} {μ1 : M} (hl : ds.length = m) (h : es (ds.map some ++ List.replicate (n - ds.length) none) μ = some (.nx, Γ1, μ1)) : runX n m es ds μ = some (.ok .non, μ1) := by
  unfold runX; rw [if_pos hl, h]; rfl
theorem runX_ex {n m : Nat} {es : SX} {ds : List D} {C : Addr} {Γ1 : G} {μ1 : M} (hl : ds.length = m) (h : es (ds.map some ++ List.replicate (n - ds.length) none) μ = some (.ex C, Γ1, μ1)) : runX n m es ds μ = some (.ex C, μ1) := by
  unfold runX; rw [if_pos hl, h]; rfl
end
structure Kp (k : Nat) (μ μ' : M) : Prop where
  len : μ.length ≤ μ'.length
  at_ : ∀ j, j < μ.length → j ≠ k → μ'[j]? = μ[j]?
theorem Kp.refl {k : Nat} {μ : M} : Kp k μ μ := ⟨Nat.le_refl _, fun _ _ _ => rfl⟩
theorem Kp.trans {k : Nat} {μ μ1 μ2 : M} (h : Kp k μ μ1) (g : Kp k μ1 μ2) : Kp k μ μ2 := ⟨Nat.le_trans h.len g.len, fun j hj n => (g.at_ j (Nat.lt_of_lt_of_le hj h.len) n).trans (h.at_ j hj n)⟩
theorem Kp.get {k j : Nat} {μ μ' : M} {o : Option O} (h : Kp k μ μ') (e : μ[j]? = some o) (n : j ≠ k) : μ'[j]? = some o := (h.at_ j (List.getElem?_eq_some_iff.mp e).1 n).trans e
structure Gr (μ μ' : M) : Prop where
  len : μ.length ≤ μ'.length
  at_ : ∀ j, j < μ.length → μ'[j]? = μ[j]?
theorem Gr.refl {μ : M} : Gr μ μ := ⟨Nat.le_refl _, fun _ _ => rfl⟩
theorem Gr.trans {μ μ1 μ2 : M} (h : Gr μ μ1) (g : Gr μ1 μ2) : Gr μ μ2 := ⟨Nat.le_trans h.len g.len, fun j hj => (g.at_ j (Nat.lt_of_lt_of_le hj h.len)).trans (h.at_ j hj)⟩
theorem Gr.get {j : Nat} {μ μ' : M} {o : Option O} (h : Gr μ μ') (e : μ[j]? = some o) : μ'[j]? = some o := (h.at_ j (List.getElem?_eq_some_iff.mp e).1).trans e
theorem Gr.kp {k : Nat} {μ μ' : M} (h : Gr μ μ') : Kp k μ μ' := ⟨h.len, fun j hj _ => h.at_ j hj⟩
end L3
set_option Elab.async false
set_option linter.all false
set_option maxRecDepth 100000
namespace L3
open PySem PySem.Spec L2
open Classical in
noncomputable def qOf (K : PySem.W.Frag) (cv : Value) (C : Addr) : Option Bool := if ExcIn K C then PySem.W.kitOne K (.ref C) cv else none
theorem isX_q {K : PySem.W.Frag} {c : V} {cv : Value} (h : clV c = some cv) : IsX K c (qOf K cv) := ⟨cv, h, fun C b e => by
  unfold qOf at e
  split at e
  · rename_i hC; exact ⟨hC, e⟩
  · cases e⟩
theorem q_of {K : PySem.W.Frag} {cv : Value} {C : Addr} {b : Bool} (h : ExcIn K C) (k : PySem.W.kitOne K (.ref C) cv = some b) : qOf K cv C = some b := by unfold qOf; rw [if_pos h]; exact k
end L3
namespace L3
open PySem PySem.Spec L2
theorem exm_of {K : PySem.W.Frag} {C T : Addr} {cd : ClassData} (h1 : PySem.W.subIn K (.ref T) (.type "BaseException") = some true) (h2 : PySem.W.clsIn K T = some cd) (h3 : PySem.W.typeIn K (.ref T) = some (.type "type")) (h4 : PySem.W.subIn K (.ref C) (.ref T) = some true) : PySem.W.exmOne K (.ref C) (.ref T) = some true := by
  unfold PySem.W.exmOne PySem.W.kitCls
  rw [h1]
  simp only [h2, h3, h4, Option.isSome_some, Bool.true_and, beq_self_eq_true, if_true]
end L3
set_option Elab.async false
set_option linter.all false
set_option maxRecDepth 100000
namespace L2
open PySem PySem.Spec PyProof.Rows
structure RoomU (k : Nat) (A : Around) : Prop where
  dp : A.depth + 3 * k + 5 < recursionLimit
  un : A.units + 16 * k + 200 < cLine
theorem RoomU.mono {j k : Nat} {A : Around} (r : RoomU k A) (h : j ≤ k) : RoomU j A := ⟨by have := r.dp; omega, by have := r.un; omega⟩
theorem Room.u {k : Nat} {A : Around} (r : Room k A) : RoomU k A := ⟨r.dp, r.un⟩
theorem RoomU.deeper {k : Nat} {A : Around} (r : RoomU (k + 1) A) (env : Env) : RoomU k (A.deeper env) :=
  ⟨by have := r.dp; show A.depth + 1 + 3 * k + 5 < _; omega, by have := r.un; show A.units + 3 + 16 * k + 200 < _; omega⟩
theorem RoomU.depth {k : Nat} {A : Around} (r : RoomU k A) : A.depth < recursionLimit := by have := r.dp; omega
def cxU (CX : CXT) (P : Program) (w : World) (K : PySem.W.Frag) (mg : Str → Option Value) (base : Heap) (N : List Str) (qual : Str) (scope : Scope) (f : Addr) (cd : Value) (A : Around) (outer : List Env) (s : Shared) (H : Hp) (E : XK) : Cx := { cxOf CX P w K mg base N qual scope f cd A outer s H E with calm := false }
structure FnOkU (P : Program) (w : World) (K : PySem.W.Frag) (mg : Str → Option Value) (base : Heap) (CX : CXT) (k : Nat) (f : Addr) (fd : FuncData) (ps : List Str) (sp : Sp) : Prop where
  len : ∀ vs H Q E, sp vs H Q E → vs.length = ps.length
  run : ∀ (A : Around) (outer : List Env) (s : Shared) (H : Hp) (args : Args) (us : List Value) (vs : List V) (Q : VK) (E : XK), RoomU k A → Env0 P w K mg base A outer s H → BindsTo s fd args (ps.zip us) → Vals vs us → sp vs H Q E →
    codeAny (model P w) A (.call (.ref f) args) (CR CX outer P w H s Q E) s
theorem inv_startU {CX : CXT} {P : Program} {w : World} {K : PySem.W.Frag} {mg : Str → Option Value} {base : Heap} {N ps : List Str} {qual : Str} {scope : Scope} {f : Addr} {cd : Value} {A : Around} {outer : List Env} {s s1 : Shared} {H : Hp} {E : XK} {us : List Value} {vs : List V}
    (S : FnScope N ps scope) (e0 : Env0 P w K mg base A outer s H) (hl : vs.length = ps.length) (r : Vals vs us)
    (x : InCallC s s.heap.objs.size (bindL (envOfC qual scope s.heap.objs.size f cd).kindOf (ps.zip us) fun _ => none) (cellsFrom (s.heap.objs.size + 1) scope.names []) (bindC (envOfC qual scope s.heap.objs.size f cd).kindOf (ps.zip us) fun _ => none) s1) :
    Inv (cxU CX P w K mg base N qual scope f cd A outer s H E) [] (start N vs) H s1 := by
  have hpl : ps.length ≤ N.length := by have := congrArg List.length S.pre; rw [List.length_take] at this; omega
  obtain ⟨h1, tk, rfl, hk⟩ := x.done
  have noA : ∀ b : Addr, b ∉ (cxU CX P w K mg base N qual scope f cd A outer s H E).ex := fun b z => absurd (show b ∈ ([] : List Addr) from z) (by simp)
  refine ⟨⟨e0.mod, S.kind, rfl, rfl, Nat.le_refl _, fun y z c h1 h2 => ?_, fun y hy => ?_, fun y c _ h => ?_, (fun z => nomatch z), Around.frames_deeper e0.frames, .inr ⟨rfl, rfl⟩, fun b z => absurd z (noA b), e0.bs, e0.bsz, fun b _ _ => noA b, fun b z => absurd z (noA b), e0.funs, e0.frf⟩,
    rfl, e0.bare, Un.kept hk, ⟨_, x.toInCall.ns, fun i y v h1 h2 h3 => ?_⟩, fun y c h => ⟨_, x.cell y c h⟩, e0.hok.fresh (Nat.le_refl _), fun y c h => ?_, fun p hp => absurd (show p ∈ ([] : List (Addr × Obj)) from hp) (by simp), e0.hok.kept hk, ?_⟩
  · exact name_of_addr x.apart (PySem.mem_of_lookup h1) (PySem.mem_of_lookup h2)
  · have hy : scope.names.lookup y = some .cell ∨ scope.names.lookup y = some .free := hy
    rcases hy with hy | hy
    · exact cell_has hy
    · exact absurd rfl (S.nofree _ (PySem.mem_of_lookup hy))
  · exact Nat.le_of_lt (x.above y c (PySem.mem_of_lookup h))
  · have hi : i < vs.length := by
      unfold start at h2
      by_cases hi : i < vs.length
      · exact hi
      · rw [List.getElem?_append_right (by simpa using hi)] at h2
        rw [List.getElem?_replicate] at h2
        split at h2 <;> cases h2
    have ha : vs[i]? = some v := by
      unfold start at h2
      rw [List.getElem?_append_left (by simpa using hi), List.getElem?_map] at h2
      cases e : vs[i]? with
      | none => rw [e] at h2; cases h2
      | some a => rw [e] at h2; cases h2; rfl
    obtain ⟨u, hu, rv⟩ := r.get ha
    have hp : ps[i]? = some y := by
      rw [← S.pre, List.getElem?_take_of_lt (by omega)]; exact h1
    have ndP : ps.Nodup := by rw [← S.pre]; exact S.nd.sublist (List.take_sublist _ _)
    refine ⟨u, rv, ?_⟩
    rcases S.par y (List.mem_of_getElem? hp) with k | k
    · exact .inl ⟨k, bindL_get ndP hp hu k⟩
    · obtain ⟨c, e⟩ := cell_has (n := s.heap.objs.size + 1) k
      refine .inr ⟨.inl k, c, e, ?_⟩
      have q := x.cell y c e
      rw [bindC_get ndP hp hu (by show scope.names.lookup y ≠ _; rw [k]; decide)] at q
      exact q
  · exact e0.hok.fresh (Nat.le_of_lt (x.above y c (PySem.mem_of_lookup h)))
  · unfold start
    show _ = N.length
    rw [List.length_append, List.length_map, List.length_replicate]
    omega
theorem fn_ofU {CX : CXT} {P : Program} {w : World} {K : PySem.W.Frag} {mg : Str → Option Value} {base : Heap} {k : Nat} {f : Addr} {name qual : Str} {params : Arguments} {body : List Stmt} {scope : Scope} {dV kV doc pm cdv ct oc : Value} {an od : Option Addr}
    {osl : Array (Option Value)} {N ps : List Str} {sp : Sp} (lk : K.lookup f = some ⟨oc, od, .func (PySem.W.fnOf name qual params body scope dV kV doc pm an cdv ct), osl⟩) (hcd : PySem.W.codeIn K cdv qual = true) (S : FnScope N ps scope)
    (len : ∀ vs H Q E, sp vs H Q E → vs.length = ps.length)
    (hbody : ∀ (A : Around) (outer : List Env) (s : Shared) (H : Hp) (vs : List V) (Q : VK) (E : XK), RoomU k (A.deeper (envOfC qual scope s.heap.objs.size f cdv)) → sp vs H Q E →
      ∃ t, PSs (cxU CX P w K mg base N qual scope f cdv A outer s H E) body t ∧ t { nx := fun _ H' => Q .non H', rt := Q } (start N vs) H) :
    FnOkU P w K mg base CX (k + 1) f (PySem.W.fnOf name qual params body scope dV kV doc pm an cdv ct) ps sp := by
  refine ⟨len, fun A outer s H args us vs Q E hr e0 hb r hsp => ?_⟩
  have hl := len _ _ _ _ hsp
  have KX : K.In s.heap := e0.mod.kin.keeps fun b o e => (e0.bs b o e).1
  have lim : s.heap.NoLimit := e0.mod.nolimit.keeps fun b o e => (e0.bs b o e).1
  have hkind : ∀ y ∈ ps.zip us, scope.names.lookup y.1 = some .local ∨ (scope.names.lookup y.1 = some .cell ∧ ((cellsFrom (s.heap.objs.size + 1) scope.names []).lookup y.1).isSome = true) := fun ⟨n, v⟩ hy => by
    rcases S.par n (List.of_mem_zip hy).1 with q | q
    · exact .inl q
    · exact .inr ⟨q, PySem.W.cellsFrom_some _ _ _ (.inl q)⟩
  refine codeAny_call_function hr.depth (KX _ _ lk) rfl S.co S.gen rfl (PySem.W.codeRec_of KX hcd) (hb _ _ _ _ ?_)
  refine wpAny_newFunctionEnv_cells S.kind hkind fun env he s1 x => ?_
  subst he
  refine ⟨lim.keeps x.toInCall.keep, codeAny_func ?_⟩
  obtain ⟨t, ht, hq⟩ := hbody A outer s H vs Q E (hr.deeper _) hsp
  have I : Inv (cxU CX P w K mg base N qual scope f cdv A outer s H E) [] (start N vs) H s1 := inv_startU S e0 hl r x
  refine wpAny_mono (ht [] s1 (start N vs) H _ I hq) (fun fl s' hs => ?_) fun e s' hs => hs
  have fin : ∀ {σ' : St} {H' : Hp} {v : V} {u : Value}, Inv (cxU CX P w K mg base N qual scope f cdv A outer s H E) [] σ' H' s' → RelV v u → Q v H' → CE outer P w H s Q u s' :=
    fun {σ' H' v u} J rv q => ⟨v, H', J.os, J.bare, J.base, J.hok, rv, q⟩
  cases fl with
  | ret u =>
    obtain ⟨v, σ', H', J, rv, q⟩ := hs
    exact fin J rv q
  | next =>
    obtain ⟨σ', H', J, q⟩ := hs
    exact fin (v := V.non) (u := Value.none) J rfl q
  | brk =>
    obtain ⟨_, _, _, q⟩ := hs
    exact False.elim q
  | cont =>
    obtain ⟨_, _, _, q⟩ := hs
    exact False.elim q
end L2
set_option Elab.async false
set_option linter.all false
set_option maxRecDepth 100000
namespace L3
open PySem PySem.Spec L2
def putFD (f : Str) (d : D) : List (Str × D) → List (Str × D)
  | [] => [(f, d)]
  | (g, e) :: r => if g = f then (g, d) :: r else (g, e) :: putFD f d r
section
variable {K : PySem.W.Frag} {W : Wd}
theorem FR.get {f : Str} : ∀ {fs : List (Str × D)} {vs : List (Str × V)} {d : D}, FR K W fs vs → fs.lookup f = some d → ∃ v, vs.lookup f = some v ∧ DR K W d v
  | _, _, _, .nil, h => by cases h
  | (g, e) :: r, (g', e') :: r', d, .cons h t, q => by
    obtain ⟨h1, h2⟩ := h
    have h1 : g = g' := h1
    subst h1
    rw [List.lookup_cons] at q ⊢
    cases hb : f == g with
    | true => rw [hb] at q; cases q; exact ⟨e', rfl, h2⟩
    | false => rw [hb] at q; exact FR.get t q
theorem FR.none {f : Str} : ∀ {fs : List (Str × D)} {vs : List (Str × V)}, FR K W fs vs → fs.lookup f = none → vs.lookup f = none
  | _, _, .nil, h => rfl
  | (g, e) :: r, (g', e') :: r', .cons h t, q => by
    obtain ⟨h1, h2⟩ := h
    have h1 : g = g' := h1
    subst h1
    rw [List.lookup_cons] at q ⊢
    cases hb : f == g with
    | true => rw [hb] at q; cases q
    | false => rw [hb] at q; exact FR.none t q
theorem FR.put {f : Str} {d : D} {v : V} (r : DR K W d v) : ∀ {fs : List (Str × D)} {vs : List (Str × V)}, FR K W fs vs → FR K W (putFD f d fs) (putF f v vs)
  | _, _, .nil => .cons ⟨rfl, r⟩ .nil
  | (g, e) :: l, (g', e') :: l', .cons h t => by
    obtain ⟨h1, h2⟩ := h
    have h1 : g = g' := h1
    subst h1
    simp only [putFD, putF]
    split
    · exact .cons ⟨rfl, r⟩ t
    · exact .cons ⟨rfl, h2⟩ (FR.put r t)
theorem FR.len : ∀ {fs : List (Str × D)} {vs : List (Str × V)}, FR K W fs vs → fs.length = vs.length
  | _, _, .nil => rfl
  | _, _, .cons _ t => by simp [FR.len t]
theorem ins_at {k : Nat} {C : Addr} {fs : List (Str × D)} {v : V} (ok : Ok K W) (h : W.μ[k]? = some (some (.ins C fs))) (r : DR K W (.ref k) v) : ∃ a dx vs, v = .ref a ∧ W.ρ[k]? = some a ∧ W.H a = some (.ins C dx vs) ∧ FR K W fs vs := by
  cases r with
  | ref ha =>
    obtain ⟨a', ho, h1, h2, vs, ⟨dx, rfl⟩, r⟩ := ok.at_ k _ h
    rw [ha] at h1
    cases h1
    exact ⟨_, dx, vs, rfl, ha, h2, r⟩
end
structure FldC (K : PySem.W.Frag) (C : Addr) (f : Str) : Prop where
  cl : Cls K C
  na : NoAttr K C f
def fFld (C : Addr) (f : Str) (x : D) (μ : M) : Option (D × M) := match x with
  | .ref k => match μ[k]? with
    | some (some (.ins C' fs)) => if C' = C then (fs.lookup f).bind fun d => some (d, μ) else none
    | _ => none
  | _ => none
def sFldS (C : Addr) (f : Str) (eo ev : EV) : SV := fun Γ μ => (ev Γ μ).bind fun p => (eo Γ p.2).bind fun q => match q.1 with
  | .ref k => match q.2[k]? with
    | some (some (.ins C' fs)) => if C' = C ∧ fs.length < 1000 then some (.nx, Γ, q.2.set k (some (.ins C (putFD f p.1 fs)))) else none
    | _ => none
  | _ => none
def sFldAugS (C : Addr) (f : Str) (g : Int → Int → Int) (eo ev : EV) : SV := fun Γ μ => (eo Γ μ).bind fun p => match p.1 with
  | .ref k => match p.2[k]? with
    | some (some (.ins C' fs)) => if C' = C then (fs.lookup f).bind fun v => (ev Γ p.2).bind fun q => match v, q.1 with
      | .int i, .int j => match q.2[k]? with
        | some (some (.ins C'' fs')) => if C'' = C ∧ fs'.length < 1000 then some (.nx, Γ, q.2.set k (some (.ins C (putFD f (.int (g i j)) fs')))) else none
        | _ => none
      | _, _ => none
      else none
    | _ => none
  | _ => none
section
variable {X : Cx} {K : PySem.W.Frag} {o e value : Expr} {es : List Expr} {f m : Str} {pos pos' tpos apos p : Pos} {eo ev : EV} {el : LV} {C : Addr}
theorem x_fld (hC : FldC K C f) (he : PE X e (tD K eo)) (hb : attributeBase e f X.env (eval e X.env) = eval e X.env := by rfl) (hK : X.K = K := by rfl) : PE X (.Attribute e f pos) (tD K (v1 (fFld C f) eo)) := by
  subst hK
  refine PE_imp (pe_fld he hb) (t1_imp ?_)
  intro W x d z μ' Q ok r1 hf q
  unfold fFld at hf
  split at hf
  · split at hf
    · rename_i k C' fs hk
      split at hf
      · rename_i hc
        subst hc
        obtain ⟨d', hl, hf⟩ := bnd hf
        cases hf
        obtain ⟨a, dx, vs, rfl, _, hh, hr⟩ := ins_at ok hk r1
        obtain ⟨v, hv, rv⟩ := hr.get hl
        exact ⟨a, _, dx, vs, v, rfl, hh, hC.cl, hC.na, hv, q v W rfl ok .refl rv⟩
      · cases hf
    · cases hf
  · cases hf
theorem xs_fld (hC : FldC K C f) (ho : PE X o (tD K eo)) (hv : PE X value (tD K ev)) (hs : swapsWith value (some (.Attribute o f pos')) pos.line X.env = pure false := by rfl) (hK : X.K = K := by rfl) : PS X (.Assign [.Attribute o f pos'] value pos) (tDS K (sFldS C f eo ev)) := by
  subst hK
  refine PS_imp (ps_fld ho hv hs) fun D σ H h => ?_
  obtain ⟨W, Γ, out, Γ', μ', rfl, ok, en, e, q⟩ := h
  obtain ⟨p1, e1, e⟩ := bnd e
  obtain ⟨p2, e2, e⟩ := bnd e
  refine ⟨W, Γ, p1.1, p1.2, rfl, ok, en, e1, fun y W1 hμ1 ok1 s1 r1 => ⟨W1, Γ, p2.1, p2.2, rfl, ok1, en.step ok s1, by rw [hμ1]; exact e2, fun x W2 hμ2 ok2 s2 r2 => ?_⟩⟩
  split at e
  · rename_i k hk
    rw [hk] at r2
    split at e
    · rename_i C' fs hfs
      split at e
      · rename_i hc
        obtain ⟨hc, hl⟩ := hc
        subst hc
        cases e
        rw [← hμ2] at hfs
        obtain ⟨a, dx, vs, rfl, ha, hh, hr⟩ := ins_at ok2 hfs r2
        have r1' := r1.step ok1 s2
        have okp := ok_put (o := .ins C' dx (putF f y vs)) (x := .ins C' (putFD f p1.1 fs)) ok2 hfs ha ⟨_, ⟨dx, rfl⟩, hr.put r1'⟩
        have sp := step_put (o := .ins C' dx (putF f y vs)) (x := .ins C' (putFD f p1.1 fs)) hfs ha
        refine ⟨a, C', dx, vs, rfl, hh, hC.cl, hC.na, by rw [← hr.len]; exact hl, ?_⟩
        exact q (W2.put k a (.ins C' dx (putF f y vs)) (.ins C' (putFD f p1.1 fs))) σ (by show W2.μ.set _ _ = _; rw [hμ2]) okp ((s1.trans s2).trans sp) (((en.step ok s1).step ok1 s2).step ok2 sp)
      · cases e
    · cases e
  · cases e
theorem xs_fldAug {op : Operator} {g : Int → Int → Int} (hop : InOp X op (fun x y H Q => ∃ i j, x = .int i ∧ y = .int j ∧ Q (.int (g i j)) H)) (hC : FldC K C f) (ho : PE X o (tD K eo)) (hv : PE X value (tD K ev)) (hK : X.K = K := by rfl) : PS X (.AugAssign (.Attribute o f tpos) op value pos) (tDS K (sFldAugS C f g eo ev)) := by
  subst hK
  refine PS_imp (ps_fldaug ho hv hop) fun D σ H h => ?_
  obtain ⟨W, Γ, out, Γ', μ', rfl, ok, en, e, q⟩ := h
  obtain ⟨p1, e1, e⟩ := bnd e
  refine ⟨W, Γ, p1.1, p1.2, rfl, ok, en, e1, fun x W1 hμ1 ok1 s1 r1 => ?_⟩
  split at e
  · rename_i k hk
    rw [hk] at r1
    split at e
    · rename_i C' fs hfs
      split at e
      · rename_i hc
        subst hc
        obtain ⟨v, hl, e⟩ := bnd e
        obtain ⟨p2, e2, e⟩ := bnd e
        rw [← hμ1] at hfs
        obtain ⟨a, dx, vs, rfl, ha, hh, hr⟩ := ins_at ok1 hfs r1
        obtain ⟨vv, hvv, rv⟩ := hr.get hl
        refine ⟨a, C', dx, vs, vv, rfl, hh, hC.cl, hC.na, hvv, W1, Γ, p2.1, p2.2, rfl, ok1, en.step ok s1, by rw [hμ1]; exact e2, fun y W2 hμ2 ok2 s2 r2 => ?_⟩
        obtain ⟨d2, μ2⟩ := p2
        cases v with
        | int i =>
          cases d2 with
          | int j =>
            cases rv
            cases r2
            have e : (match μ2[k]? with
              | some (some (O.ins C'' fs')) => if C'' = C' ∧ fs'.length < 1000 then some (Out.nx, Γ, μ2.set k (some (O.ins C' (putFD f (.int (g i j)) fs')))) else none
              | _ => none) = some (out, Γ', μ') := e
            split at e
            · rename_i C'' fs' hfs'
              split at e
              · rename_i hc2
                obtain ⟨hc2, hl2⟩ := hc2
                subst hc2
                cases e
                have hμ2 : W2.μ = μ2 := hμ2
                rw [← hμ2] at hfs'
                obtain ⟨a2, dx2, vs2, ea2, ha2, hh2, hr2⟩ := ins_at ok2 hfs' (.ref (s2.ρ _ _ ha))
                cases ea2
                have okp := ok_put (o := .ins C'' dx2 (putF f (.int (g i j)) vs2)) (x := .ins C'' (putFD f (.int (g i j)) fs')) ok2 hfs' ha2 ⟨_, ⟨dx2, rfl⟩, hr2.put (.int _)⟩
                have sp := step_put (o := .ins C'' dx2 (putF f (.int (g i j)) vs2)) (x := .ins C'' (putFD f (.int (g i j)) fs')) hfs' ha2
                refine ⟨i, j, rfl, rfl, dx2, vs2, hh2, by rw [← hr2.len]; exact hl2, ?_⟩
                exact q (W2.put k a _ (.ins C'' (putFD f (.int (g i j)) fs'))) σ (by show W2.μ.set _ _ = _; rw [hμ2]) okp ((s1.trans s2).trans sp) (((en.step ok s1).step ok1 s2).step ok2 sp)
              · cases e
            · cases e
          | _ => cases e
        | _ => cases d2 <;> cases e
      · cases e
    · cases e
  · cases e
structure MtC (P : Program) (w : World) (K : PySem.W.Frag) (mg : Str → Option Value) (base : Heap) (CX : CXT) (k : Nat) (C : Addr) (m : Str) (ps : List Str) (sp : Sp) : Prop where
  cl : Cls K C
  fn : ∃ f fd, Meth K C m f ∧ FnOk P w K mg base CX k f fd ps sp ∧ Binds K fd ps []
theorem MtC.mono {P : Program} {w : World} {K : PySem.W.Frag} {mg : Str → Option Value} {base : Heap} {CX : CXT} {j k : Nat} {C : Addr} {m : Str} {ps : List Str} {sp : Sp} (M : MtC P w K mg base CX j C m ps sp) (h : j ≤ k) : MtC P w K mg base CX k C m ps sp := ⟨M.cl, let ⟨f, fd, a, b, c⟩ := M.fn; ⟨f, fd, a, b.mono h, c⟩⟩
def noM (μ : M) (C : Addr) (m : Str) : D → Bool
  | .ref k => match μ[k]? with
    | some (some (.ins C' fs)) => decide (C' = C) && (fs.lookup m).isNone
    | _ => false
  | _ => false
def vMeth (C : Addr) (m : Str) (g : List D → M → Option (D × M)) (eo : EV) (el : LV) : EV := fun Γ μ => (eo Γ μ).bind fun p => if noM p.2 C m p.1 = true then (el Γ p.2).bind fun q => g (p.1 :: q.1) q.2 else none
theorem noM_at {W : Wd} {d : D} {v : V} (ok : Ok K W) (h : noM W.μ C m d = true) (r : DR K W d v) : ∃ a dx fs, v = .ref a ∧ W.H a = some (.ins C dx fs) ∧ fs.lookup m = none := by
  cases d with
  | ref k =>
    simp only [noM] at h
    split at h
    · rename_i C' fs hk
      simp only [Bool.and_eq_true, decide_eq_true_eq, Option.isNone_iff_eq_none] at h
      obtain ⟨rfl, h2⟩ := h
      obtain ⟨a, dx, vs, e, _, hh, hr⟩ := ins_at ok hk r
      exact ⟨a, dx, vs, e, hh, hr.none h2⟩
    · cases h
  | _ => cases h
theorem vMeth_imp {g : List D → M → Option (D × M)} : ∀ σ H Q, tD K (vMeth C m g eo el) σ H Q → tMeth C m (spM K g) [] E0 (tD K eo) (tDL K el) σ H Q := fun σ H Q h => by
  obtain ⟨W, Γ, d, μ', rfl, ok, en, e, q⟩ := h
  obtain ⟨p1, e1, e⟩ := bnd e
  refine ⟨W, Γ, p1.1, p1.2, rfl, ok, en, e1, fun x W1 hμ1 ok1 s1 r1 => ?_⟩
  split at e
  · rename_i hn
    obtain ⟨p2, e2, e⟩ := bnd e
    rw [← hμ1] at hn
    obtain ⟨a, dx, fs, ex, hh, hl⟩ := noM_at ok1 hn r1
    refine ⟨a, dx, fs, ex, hh, hl, W1, Γ, p2.1, p2.2, rfl, ok1, en.step ok s1, by rw [hμ1]; exact e2, fun vs W2 hμ2 ok2 s2 r2 => ?_⟩
    show spM K g (x :: (vs ++ [])) W2.H Q E0
    rw [List.append_nil]
    exact ⟨W2, p1.1 :: p2.1, d, μ', rfl, ok2, .cons (r1.step ok1 s2) r2, by rw [hμ2]; exact e, fun v W3 hμ3 ok3 s3 r3 => q v W3 hμ3 ok3 ((s1.trans s2).trans s3) r3⟩
  · cases e
theorem x_meth {k : Nat} {ps : List Str} {g : List D → M → Option (D × M)} {pl : Sem Bool} (M' : MtC X.prog X.w X.K X.mg X.base CX0 k C m ps (spM K g)) (hr : Room k X.A) (ho : PE X o (tD K eo)) (ha : PA X (e :: es) (tDL K el))
    (hst : starEach (e :: es) X.env = (false, eval e X.env) :: starEach es X.env := by rfl) (hpl : (backTo pos (starEach es X.env)).any (·.1) = false := by rfl)
    (ht : eval (.Call (.Attribute o m apos) (e :: es) [] pos) X.env = (do
      let ov ← eval o X.env
      standAt apos.atName
      let (f, first) ← holding [ov] (getMethod ov m pl)
      callWith pos f first (backTo pos (starEach (e :: es) X.env)) (backToKw pos (keywordEach [] X.env))) := by rfl) : PE X (.Call (.Attribute o m apos) (e :: es) [] pos) (tD K (vMeth C m g eo el)) := by
  obtain ⟨f, fd, hm, F, hb⟩ := M'.fn
  exact PE_imp (pe_meth ho M'.cl hm F hr hb .nil pass0 ha hst hpl ht) vMeth_imp
theorem x_meth0 {k : Nat} {ps : List Str} {g : List D → M → Option (D × M)} {pl : Sem Bool} (M' : MtC X.prog X.w X.K X.mg X.base CX0 k C m ps (spM K g)) (hr : Room k X.A) (ho : PE X o (tD K eo))
    (ht : eval (.Call (.Attribute o m apos) [] [] pos) X.env = (do
      let ov ← eval o X.env
      standAt apos.atName
      let (f, first) ← holding [ov] (getMethod ov m pl)
      callWith pos f first (backTo pos (starEach [] X.env)) (backToKw pos (keywordEach [] X.env))) := by rfl) : PE X (.Call (.Attribute o m apos) [] [] pos) (tD K (vMeth C m g eo lNil)) := by
  obtain ⟨f, fd, hm, F, hb⟩ := M'.fn
  refine PE_imp (pe_meth0 ho M'.cl hm F hr hb .nil pass0 ht) fun σ H Q h => ?_
  have := vMeth_imp (el := lNil) σ H Q h
  obtain ⟨W, Γ, d, μ', h1, ok, en, e1, q⟩ := this
  refine ⟨W, Γ, d, μ', h1, ok, en, e1, fun x W1 a b c d => ?_⟩
  obtain ⟨a', dx, fs, z1, z2, z3, z4⟩ := q x W1 a b c d
  refine ⟨a', dx, fs, z1, z2, z3, ?_⟩
  obtain ⟨W2, Γ2, ds, μ2, y1, y2, y3, y4, y5⟩ := z4
  cases y4
  rw [← y1]
  exact y5 [] W2 rfl y2 .refl .nil
structure MkC (P : Program) (w : World) (K : PySem.W.Frag) (mg : Str → Option Value) (base : Heap) (CX : CXT) (k : Nat) (C : Addr) (x : Str) (ps : List Str) (sp : Sp) : Prop where
  mgx : mg x = some (.ref C)
  fn : ∃ f fd, Mk K C f ∧ FnOk P w K mg base CX k f fd ps sp ∧ Binds K fd ps []
theorem MkC.mono {P : Program} {w : World} {K : PySem.W.Frag} {mg : Str → Option Value} {base : Heap} {CX : CXT} {j k : Nat} {C : Addr} {x : Str} {ps : List Str} {sp : Sp} (M : MkC P w K mg base CX j C x ps sp) (h : j ≤ k) : MkC P w K mg base CX k C x ps sp := ⟨M.mgx, let ⟨f, fd, a, b, c⟩ := M.fn; ⟨f, fd, a, b.mono h, c⟩⟩
def vMake (C : Addr) (g : List D → M → Option (D × M)) (el : LV) : EV := fun Γ μ => (el Γ μ).bind fun p => (g (.ref p.2.length :: p.1) (p.2 ++ [some (.ins C [])])).bind fun q => match q.1 with
  | .non => some (.ref p.2.length, q.2)
  | _ => none
theorem vMake_imp {g : List D → M → Option (D × M)} : ∀ σ H Q, tD K (vMake C g el) σ H Q → tMake C (spM K g) [] E0 (tDL K el) σ H Q := fun σ H Q h => by
  obtain ⟨W, Γ, d, μ', rfl, ok, en, e, q⟩ := h
  obtain ⟨p1, e1, e⟩ := bnd e
  obtain ⟨⟨d2, μ2⟩, e2, e⟩ := bnd e
  refine ⟨W, Γ, p1.1, p1.2, rfl, ok, en, e1, fun vs W1 hμ1 ok1 s1 r1 x dx hx hdx hne => ?_⟩
  rw [List.append_nil]
  have oka := ok_lay (o := .own x) ok1 hdx
  have sa := step_lay (W := W1) (o := .own x) hdx
  have hx2 : (W1.lay dx (.own x)).H x = none := by show upd W1.H dx _ x = none; rw [upd_ne (Ne.symm hne)]; exact hx
  have okb := ok_new (x := .ins C []) (o := .ins C dx []) oka hx2 ⟨[], ⟨dx, rfl⟩, .nil⟩
  have sb := step_new (K := K) (x := .ins C []) (o := .ins C dx []) oka hx2
  have rb := dr_new (K := K) (W := W1.lay dx (.own x)) (p := x) (o := .ins C dx []) (x := .ins C []) oka
  have hl : (W1.lay dx (.own x)).μ.length = p1.2.length := by show W1.μ.length = _; rw [hμ1]
  rw [hl] at rb
  cases d2 with
  | non =>
    have e : some (D.ref p1.2.length, μ2) = some (d, μ') := e
    obtain ⟨hd, hm⟩ : d = .ref p1.2.length ∧ μ' = μ2 := by cases e; exact ⟨rfl, rfl⟩
    subst hd hm
    refine ⟨(W1.lay dx (.own x)).new x (.ins C dx []) (.ins C []), .ref p1.2.length :: p1.1, .non, μ', rfl, okb, .cons rb ((r1.step ok1 sa).step oka sb), ?_, fun v W3 hμ3 ok3 s3 r3 => ?_⟩
    · show g _ (W1.μ ++ _) = _
      rw [hμ1]; exact e2
    · cases r3
      exact ⟨rfl, q _ W3 hμ3 ok3 (((s1.trans sa).trans sb).trans s3) (rb.step okb s3)⟩
  | _ => cases e
theorem x_make0 {x : Str} {k : Nat} {ps : List Str} {g : List D → M → Option (D × M)} (M' : MkC X.prog X.w X.K X.mg X.base CX0 k C x ps (spM K g)) (hr : Room (k + 1) X.A) (hg : Gl X x := by rfl) (hdb : (x == ("__debug__" : Str)) = false := by decide) : PE X (.Call (.Name x p) [] [] pos) (tD K (vMake C g lNil)) := by
  obtain ⟨f, fd, mk, F, hb⟩ := M'.fn
  refine PE_imp (pe_make0 mk F hr hg M'.mgx hb .nil pass0 hdb) fun σ H Q h => ?_
  obtain ⟨W2, Γ2, ds, μ2, y1, y2, y3, y4, y5⟩ := vMake_imp (el := lNil) σ H Q h
  cases y4
  rw [← y1]
  exact y5 [] W2 rfl y2 .refl .nil
end
end L3
set_option Elab.async false
set_option linter.all false
set_option maxRecDepth 100000
namespace L3
open PySem PySem.Spec L2
def dn (f : FX) : List D → M → Option (D × M) := fun ds μ => (f ds μ).bind fun p => match p.1 with
  | .ok d => some (d, p.2)
  | .ex _ => none
section
variable {P : Program} {w : World} {K : PySem.W.Frag} {mg : Str → Option Value} {base : Heap} {k : Nat} {f : Addr} {fd : FuncData} {ps : List Str} {g : FX}
theorem spX_dn : ∀ vs H Q E E', spM K (dn g) vs H Q E → spX K g vs H Q E' := fun vs H Q E E' h => by
  obtain ⟨W, ds, d, μ', h1, h2, h3, e, q⟩ := h
  obtain ⟨⟨r, μ1⟩, e1, e⟩ := bnd e
  cases r with
  | ok d' =>
    have e : some (d', μ1) = some (d, μ') := e
    obtain ⟨rfl, rfl⟩ : d' = d ∧ μ1 = μ' := by cases e; exact ⟨rfl, rfl⟩
    exact ⟨W, ds, .ok d', μ1, h1, h2, h3, e1, fun W' a b c v rv => q v W' a b c rv⟩
  | ex C => cases e
theorem fn_dn (F : FnOk P w K mg base (CXr P w) k f fd ps (spX K g)) : FnOk P w K mg base CX0 k f fd ps (spM K (dn g)) := by
  refine ⟨fun vs H Q E h => F.len vs H Q E (spX_dn vs H Q E E h), fun A outer s H args us vs Q E hr he hb hv hs => ?_⟩
  refine codeAny_mono (F.run A outer s H args us vs Q (fun _ _ _ => False) hr he hb hv (spX_dn vs H Q E _ hs)) fun r s' h => ?_
  cases r with
  | ok fl => cases fl <;> exact h
  | error e =>
    obtain ⟨a, C, H', B, _, _, z⟩ := h
    exact z.elim
theorem Df.dn {x : Str} (D : DfX P w K mg base k x ps (spX K g)) : Df P w K mg base k x ps (spM K (L3.dn g)) := let ⟨f, fd, F, r⟩ := D; ⟨f, fd, fn_dn F, r⟩
theorem MtC.dn {C : Addr} {m : Str} (D : MtC P w K mg base (CXr P w) k C m ps (spX K g)) : MtC P w K mg base CX0 k C m ps (spM K (L3.dn g)) := ⟨D.cl, let ⟨f, fd, a, F, r⟩ := D.fn; ⟨f, fd, a, fn_dn F, r⟩⟩
end
def vMethX (C : Addr) (m : Str) (g : FX) (eo : EX) (el : LX) : EX := fun Γ μ => (eo Γ μ).bind fun p => match p.1 with
  | .ex C' => some (.ex C', p.2)
  | .ok d => if noM p.2 C m d = true then (el Γ p.2).bind fun q => match q.1 with
    | .ex C' => some (.ex C', q.2)
    | .ok ds => g (d :: ds) q.2
    else none
section
variable {X : Cx} {E : St → XK} {K : PySem.W.Frag} {o e : Expr} {es : List Expr} {m : Str} {pos apos : Pos} {eo : EX} {el : LX} {C : Addr} {g : FX} {k : Nat} {ps : List Str}
theorem vMethX_imp : ∀ σ H Q, tX K E (vMethX C m g eo el) σ H Q → (fun σ H Q => tX K E eo σ H fun x H1 => ∃ a dx fs, x = .ref a ∧ H1 a = some (.ins C dx fs) ∧ fs.lookup m = none ∧ tXL K E el σ H1 fun vs H2 => spX K g (x :: vs) H2 Q (E σ) : TE) σ H Q := fun σ H Q h => by
  obtain ⟨W, Γ, r, μ', rfl, ok, en, e, q⟩ := h
  obtain ⟨⟨p1, p2⟩, e1, e⟩ := bnd e
  refine ⟨W, Γ, p1, p2, rfl, ok, en, e1, fun W1 hμ ok1 s1 => ?_⟩
  cases p1 with
  | ex C' => cases e; exact q W1 hμ ok1 s1
  | ok d =>
    have e : (if noM p2 C m d = true then (el Γ p2).bind fun q => match q.1 with
      | .ex C' => some (.ex C', q.2)
      | .ok ds => g (d :: ds) q.2
      else none) = some (r, μ') := e
    intro x rx
    split at e
    · rename_i hn
      obtain ⟨⟨q1, q2⟩, e2, e⟩ := bnd e
      rw [← hμ] at hn
      obtain ⟨a, dx, fs, ex, hh, hl⟩ := noM_at ok1 hn rx
      refine ⟨a, dx, fs, ex, hh, hl, W1, Γ, q1, q2, rfl, ok1, en.step ok s1, by rw [hμ]; exact e2, fun W2 hμ2 ok2 s2 => ?_⟩
      cases q1 with
      | ex C' => cases e; exact q W2 hμ2 ok2 (s1.trans s2)
      | ok ds => exact fun vs rv => ⟨W2, d :: ds, r, μ', rfl, ok2, .cons (rx.step ok1 s2) rv, by rw [hμ2]; exact e, fun W3 hμ3 ok3 s3 => q W3 hμ3 ok3 ((s1.trans s2).trans s3)⟩
    · cases e
theorem y_meth {pl : Sem Bool} (M' : MtC X.prog X.w X.K X.mg X.base (CXr X.prog X.w) k C m ps (spX K g)) (hr : Room k X.A) (ho : PE (X.fl E) o (tX K E eo)) (ha : PA (X.fl E) (e :: es) (tXL K E el))
    (hst : starEach (e :: es) X.env = (false, eval e X.env) :: starEach es X.env := by rfl) (hpl : (backTo pos (starEach es X.env)).any (·.1) = false := by rfl)
    (ht : eval (.Call (.Attribute o m apos) (e :: es) [] pos) X.env = (do
      let ov ← eval o X.env
      standAt apos.atName
      let (f, first) ← holding [ov] (getMethod ov m pl)
      callWith pos f first (backTo pos (starEach (e :: es) X.env)) (backToKw pos (keywordEach [] X.env))) := by rfl) : PE (X.fl E) (.Call (.Attribute o m apos) (e :: es) [] pos) (tX K E (vMethX C m g eo el)) := by
  obtain ⟨f, fd, hm, F, hb⟩ := M'.fn
  exact PE_imp (pe_methX ho M'.cl hm F hr hb ha hst hpl ht) vMethX_imp
theorem y_meth0 {pl : Sem Bool} (M' : MtC X.prog X.w X.K X.mg X.base (CXr X.prog X.w) k C m ps (spX K g)) (hr : Room k X.A) (ho : PE (X.fl E) o (tX K E eo))
    (ht : eval (.Call (.Attribute o m apos) [] [] pos) X.env = (do
      let ov ← eval o X.env
      standAt apos.atName
      let (f, first) ← holding [ov] (getMethod ov m pl)
      callWith pos f first (backTo pos (starEach [] X.env)) (backToKw pos (keywordEach [] X.env))) := by rfl) : PE (X.fl E) (.Call (.Attribute o m apos) [] [] pos) (tX K E (vMethX C m g eo (upL lNil))) := by
  obtain ⟨f, fd, hm, F, hb⟩ := M'.fn
  refine PE_imp (pe_meth0X ho M'.cl hm F hr hb ht) fun σ H Q h => ?_
  have := vMethX_imp (el := upL lNil) σ H Q h
  obtain ⟨W, Γ, r, μ', h1, ok, en, e1, q⟩ := this
  refine ⟨W, Γ, r, μ', h1, ok, en, e1, fun W1 a b c => ?_⟩
  have z := q W1 a b c
  cases r with
  | ex C' => exact z
  | ok d =>
    intro x rx
    obtain ⟨a', dx, fs, z1, z2, z3, z4⟩ := z x rx
    refine ⟨a', dx, fs, z1, z2, z3, ?_⟩
    obtain ⟨W2, Γ2, ds, μ2, y1, y2, y3, y4, y5⟩ := z4
    cases y4
    rw [← y1]
    exact y5 W2 rfl y2 .refl [] .nil
end
end L3
set_option Elab.async false
set_option linter.all false
set_option maxRecDepth 100000
namespace L2
open PySem PySem.W PySem.Spec PyProof.Rows
section
variable {X : Cx} {a o : Expr} {ta to : TE} {p pos : Pos}
theorem preSum_ints (ns : List Int) : ∀ n, n ≤ ns.length → preSum (fun i => ns.getD i 0) n = (ns.take n).sum
  | 0, _ => by simp [preSum]
  | n + 1, h => by
    simp only [preSum]
    rw [preSum_ints ns n (by omega), List.take_add_one, List.sum_append, List.getElem?_eq_getElem (by omega)]
    have e : ns.getD n 0 = ns[n]'(by omega) := by rw [List.getD_eq_getElem?_getD, List.getElem?_eq_getElem (by omega)]; rfl
    rw [e]
    simp
theorem eSumI (K : PySem.W.Frag) (mm : X.mg "sum" = none) (ha : PE X a ta) (hc : X.calm = true := by rfl) (hg : Gl X "sum" := by rfl) (hs : starEach [a] X.env = [(false, eval a X.env)] := by rfl) (hK : X.K = K := by rfl) :
    PE X (.Call (.Name "sum" p) [a] [] pos) (fun σ H Q => ta σ H fun x H1 => ∃ (q : Addr) (ns : List Int), [x] = [.ref q] ∧ SqL K H1 q (ns.map V.int) ∧ Q (.int ns.sum) H1) := by
  subst hK
  have rule : CallR X (.builtin "sum") (fun xs H Q => ∃ (q : Addr) (ns : List Int), xs = [.ref q] ∧ SqL X.K H q (ns.map V.int) ∧ Q (.int ns.sum) H) := by
    intro pins s σ H xs us Q I r h
    obtain ⟨q, ns, rfl, hq, k⟩ := h
    obtain ⟨u, rfl, ru⟩ := vals1 r
    cases ru
    obtain ⟨its, rv, pl, hz⟩ := I.list hq
    have hia := intsAre_of rv
    obtain ⟨ol, el, _⟩ := id pl.isList
    have qlt : q < s.heap.objs.size := Heap.lt_size el
    have hlen : its.length = ns.length := by have := rv.length; simpa using this.symm
    refine call_sum_walkG (wpAny_pyIter_list pl.isList ⟨_, _, _, _, _, _, fun i => ns.getD i 0, rfl, Walks.list (A := X.A.in1) (I.ok.hd hc) _ q (Nat.ne_of_lt qlt) its.toArray, ⟨⟨_, Heap.get?_push_size _ rfl, rfl, rfl⟩, pl.isList.push _⟩, fun b hb => ?_, ?_, fun h' tk t' keep => ?_⟩)
    · show b < (s.heap.push _).objs.size
      rw [Heap.size_push]
      simp at hb
      rcases hb with rfl | rfl
      · exact Nat.lt_succ_self _
      · exact Nat.lt_succ_of_lt qlt
    · intro i v hv
      have hv' : its[i]? = some v := by simpa using hv
      obtain ⟨t, e⟩ := ints_get hia hv'
      refine ⟨t, ?_⟩
      rw [e]
    · have kp : ∀ b o, s.heap.get? b = some o → h'.get? b = some o := fun b o e => keep b o (fun hm => absurd (List.mem_singleton.mp hm) (Nat.ne_of_lt (Heap.lt_size e))) (Heap.get?_push_of_some _ e)
      have e2 : preSum (fun i => ns.getD i 0) its.toArray.size = ns.sum := by
        rw [preSum_ints ns _ (by simp [hlen])]
        simp [hlen]
      rw [e2]
      exact ⟨.int _, H, I.kept kp, ⟨_, rfl⟩, k⟩
  exact pe_callB rule hg mm rfl (pa_cons ha pa_nil hs) (he := hs)
theorem not_before (ns : List Int) (k : Int) : ∀ m (hm : m < ns.length), m < ns.idxOf k → ns[m] ≠ k := by
  induction ns with
  | nil => intro m hm; simp at hm
  | cons a r ih =>
    intro m hm h
    rw [List.idxOf_cons] at h
    cases hb : a == k with
    | true => rw [hb] at h; simp at h
    | false =>
      rw [hb] at h
      cases m with
      | zero => simpa using hb
      | succ m => simpa using ih m (by simpa using hm) (by simpa using h)
theorem erase_at (ns : List Int) (k : Int) (hk : k ∈ ns) : ns.erase k = ns.eraseIdx (ns.idxOf k) := by
  induction ns with
  | nil => simp at hk
  | cons a r ih =>
    rw [List.idxOf_cons, List.erase_cons]
    cases hb : a == k with
    | true => simp
    | false =>
      have hk' : k ∈ r := by
        rcases List.mem_cons.mp hk with h | h
        · subst h; simp at hb
        · exact h
      simp [ih hk']
theorem erase_map (ns : List Int) : ∀ j, (ns.map V.int).eraseIdx j = (ns.eraseIdx j).map V.int := by
  induction ns with
  | nil => intro j; simp
  | cons a r ih =>
    intro j
    cases j with
    | zero => simp
    | succ j => simp [ih j]
def rRemoveI : V → List V → Hp → VK → Prop := fun x vs H Q => ∃ (l : Addr) (ns : List Int) (k : Int), x = .ref l ∧ vs = [.int k] ∧ H l = some (.lst (ns.map V.int)) ∧ k ∈ ns ∧ Q .non (upd H l (.lst ((ns.erase k).map V.int)))
theorem mt_removeI : MtM X "list.remove" rRemoveI := by
  intro pins s σ H x vs v us Q I rx rv h
  obtain ⟨l, ns, k, rfl, rfl, hH, hk, q⟩ := h
  cases rx
  obtain ⟨u, rfl, ru⟩ := rv.one
  obtain ⟨t, rfl⟩ := ru
  obtain ⟨z, its, n, r, hl, e⟩ := I.lstM hH
  have hia := intsAre_of r
  have hj : ns.idxOf k < ns.length := List.idxOf_lt_length_of_mem hk
  have hl2 : its.length = ns.length := by rw [List.length_map] at hl; omega
  have val : ∀ (m : Nat) (hm : m < its.toArray.size) (hm2 : m < ns.length), isInt k its.toArray[m] = (ns[m] == k) := fun m hm hm2 => by
    have h1 : its[m]? = some (its[m]'(by omega)) := List.getElem?_eq_getElem _
    obtain ⟨t', e1⟩ := ints_get hia h1
    have e2 : its.toArray[m] = its[m]'(by omega) := by simp
    rw [e2, e1]
    show (ns.getD m 0 == k) = (ns[m] == k)
    rw [List.getD_eq_getElem?_getD, List.getElem?_eq_getElem hm2]
    rfl
  refine call_meets F.slot_list_remove ⟨_, e, rfl⟩ F.entry_list_remove (F.args_list_remove_2 _ _) (MeetsSeq.list_remove l its.toArray n (.int k t) (isInt k) (eq_int hia k t) (ns.idxOf k) (by simpa [hl2] using hj) ?_ ?_ (by rw [List.size_toArray]; omega)) ⟨e, ?_⟩
  · rw [val _ (by simpa [hl2] using hj) hj]
    simp
  · intro m hm hlt
    rw [val m hm (by omega)]
    have := not_before ns k m (by omega) hlt
    simpa using this
  · refine ⟨.non, _, I.lset (its' := its.eraseIdx (ns.idxOf k)) (ys := (ns.map V.int).eraseIdx (ns.idxOf k)) hH e ?_ (r.eraseIdx _) ?_, rfl, ?_⟩
    · show its.toArray.eraseIdxIfInBounds _ = (its.eraseIdx _).toArray
      rw [List.eraseIdxIfInBounds_toArray]
    · have := len_erase (ns.map V.int) (ns.idxOf k)
      omega
    · have e3 : (ns.map V.int).eraseIdx (ns.idxOf k) = (ns.erase k).map V.int := by
        rw [erase_at ns k hk, erase_map]
      rw [e3]
      exact q
theorem eRemoveI (K : PySem.W.Frag) {apos : Pos} (ho : PE X o to) (ha : PE X a ta) (hs : starEach [a] X.env = [(false, eval a X.env)] := by rfl)
    (hbase : attributeBase o "remove" X.env (eval o X.env) = eval o X.env := by rfl) (hline : (apos.endLine == pos.line) = true := by rfl) (hK : X.K = K := by rfl)
    (hfew : ((backTo pos (starEach [a] X.env)).all (fun x => !x.1) && (backToKw pos (keywordEach [] X.env)).all (fun x => x.1.isSome)
      && decide ([a].length + ([] : List Keyword).length + (if ([] : List Keyword).isEmpty then 0 else 1) < 30)) = true := by rfl) :
    PE X (.Call (.Attribute o "remove" apos) [a] [] pos) (tBM K "list" rRemoveI to (tCons ta tNil)) := by
  subst hK
  exact pe_bm PySem.F.plainAttrs_list PySem.F.slot_list_remove PySem.F.type_list_remove mt_removeI ho (pa_cons ha pa_nil hs) hbase hfew hline hs
end
end L2
namespace L3
open PySem PySem.Spec L2
section
variable {X : Cx} {K : PySem.W.Frag} {a b o : Expr} {ea eb eo : EV} {p pos apos : Pos}
abbrev fShr := fI (fun _ j => 0 ≤ j) fun i j => .int (i / 2 ^ j.toNat)
theorem x_shr (ha : PE X a (tD K ea)) (hb : PE X b (tD K eb)) : PE X (.BinOp a .RShift b pos) (tD K (v2 fShr ea eb)) := x_op op_shr (ra_I (C := fun _ j => 0 ≤ j) fun _ _ _ => .int _) ha hb
def fSum (x : D) (μ : M) : Option (D × M) := (lsOf μ x).bind fun ds => (optAll inI ds).bind fun ns => some (.int ns.sum, μ)
theorem x_sum (mm : X.mg "sum" = none) (ha : PE X a (tD K ea)) (hc : X.calm = true := by rfl) (hg : Gl X "sum" := by rfl) (hs : starEach [a] X.env = [(false, eval a X.env)] := by rfl) (hK : X.K = K := by rfl) : PE X (.Call (.Name "sum" p) [a] [] pos) (tD K (v1 fSum ea)) := PE_imp (eSumI K mm ha hc hg hs hK) (t1_imp (by
  intro W x d z μ' Q ok r1 hf q
  obtain ⟨ds, h1, hf⟩ := bnd hf
  obtain ⟨ns, h2, hf⟩ := bnd hf
  cases hf
  obtain ⟨a, vs, rfl, hs, hv⟩ := lsOf_at ok h1 r1
  have := ints_at h2 hv
  subst this
  exact ⟨a, ns, rfl, hs, q _ W rfl ok .refl (.int _)⟩))
def fRemove (x y : D) (μ : M) : Option (D × M) := match y with
  | .int k => onL x μ fun ds => (optAll inI ds).bind fun ns => if k ∈ ns then some (.non, (ns.erase k).map D.int) else none
  | _ => none
theorem x_remove (ho : PE X o (tD K eo)) (ha : PE X a (tD K ea)) (hs : starEach [a] X.env = [(false, eval a X.env)] := by rfl)
    (hbase : attributeBase o "remove" X.env (eval o X.env) = eval o X.env := by rfl) (hline : (apos.endLine == pos.line) = true := by rfl) (hK : X.K = K := by rfl)
    (hfew : ((backTo pos (starEach [a] X.env)).all (fun x => !x.1) && (backToKw pos (keywordEach [] X.env)).all (fun x => x.1.isSome)
      && decide ([a].length + ([] : List Keyword).length + (if ([] : List Keyword).isEmpty then 0 else 1) < 30)) = true := by rfl) :
    PE X (.Call (.Attribute o "remove" apos) [a] [] pos) (tD K (v2l fRemove eo ea)) := PE_imp (eRemoveI K ho ha hs hbase hline hK hfew) (tM_imp (by
  intro W x y d e z μ' Q ok r1 r2 hf q
  cases e with
  | int k =>
    cases r2
    have hf : onL d W.μ (fun ds => (optAll inI ds).bind fun ns => if k ∈ ns then some (.non, (ns.erase k).map D.int) else none) = some (z, μ') := hf
    obtain ⟨j, a, ds, vs, ds', rfl, rfl, hk, ha, hh, hs, hg, rfl⟩ := onL_at ok hf r1
    obtain ⟨ns, h2, hg⟩ := bnd hg
    split at hg
    · rename_i hm
      cases hg
      have := ints_at h2 hs
      subst this
      obtain ⟨o1, s1⟩ := put_lst (vs := ns.map V.int) (vs' := (ns.erase k).map V.int) ok hk ha (drs_ints _)
      exact ⟨a, ns, k, rfl, rfl, hh, hm, q _ _ rfl o1 s1 .non⟩
    · cases hg
  | _ => cases hf))
end
end L3
set_option Elab.async false
set_option linter.all false
set_option maxRecDepth 100000
namespace L2
open PySem PySem.W PySem.Spec PyProof.Rows
section
variable {prog : Program} {w : World} {A : Around} {R : Result → Shared → Prop} {I : Addr} {fp wr : List Addr} {n : Nat} {P : Nat → Value → Prop} {St : Nat → Heap → Prop}
end
section
variable {prog : Program} {w : World} {A : Around} {E : Value → Shared → Prop} {s : Shared}
end
end L2
set_option Elab.async false
set_option linter.all false
set_option maxRecDepth 100000
namespace L2
open PySem PySem.W PySem.Spec PyProof.Rows
section
variable {X : Cx} {a b : Expr} {ta tb : TE} {p pos : Pos}
end
end L2
namespace L3
open PySem PySem.Spec L2
section
variable {X : Cx} {K : PySem.W.Frag} {a b : Expr} {ea eb : EV} {p pos : Pos}
end
end L3
set_option Elab.async false
set_option linter.all false
set_option maxRecDepth 100000
namespace L3
open PySem PySem.Spec L2
def Wd.reg (W : Wd) (p : Addr) (x : O) (h : Addr → Prop) : Wd := { W with ρ := W.ρ ++ [p], μ := W.μ ++ [some x], hid := h }
section
variable {K : PySem.W.Frag} {W W1 W' : Wd} {p : Addr} {x : O} {h : Addr → Prop}
theorem rl_reg (ok : Ok K W) {a : Addr} (z : RL (W.reg p x h) a) : RL W a ∨ a = p := by
  obtain ⟨k, o, h1, h2⟩ := z
  have h1 : (W.μ ++ [some x])[k]? = some (some o) := h1
  have h2 : (W.ρ ++ [p])[k]? = some a := h2
  by_cases hk : k < W.μ.length
  · rw [List.getElem?_append_left hk] at h1
    rw [List.getElem?_append_left (by rw [ok.len]; exact hk)] at h2
    exact .inl ⟨k, o, h1, h2⟩
  · rw [List.getElem?_append_right (by rw [ok.len]; omega)] at h2
    have : k - W.ρ.length = 0 := by
      by_cases e : k - W.ρ.length = 0
      · exact e
      · rw [List.getElem?_eq_none (by simp; omega)] at h2; cases h2
    rw [this] at h2
    cases h2
    exact .inr rfl
mutual
theorem DR.reg (ok : Ok K W) (hp : W.hid p) (hs : ∀ a, h a → W.hid a) : ∀ {d : D} {v : V}, DR K W d v → DR K (W.reg p x h) d v
  | _, _, .non => .non
  | _, _, .bl b => .bl b
  | _, _, .int i => .int i
  | _, _, .str s => .str s
  | _, _, .ref e => .ref (by
      show (W.ρ ++ [p])[_]? = _
      rw [List.getElem?_append_left (List.getElem?_eq_some_iff.mp e).1]; exact e)
  | _, _, .lst r n e => .lst r (fun z => z.elim (fun z => (rl_reg ok z).elim (fun z => n (.inl z)) (fun z => n (.inr (z ▸ hp)))) (fun z => n (.inr (hs _ z)))) (DRs.reg ok hp hs e)
  | _, _, .scr r e => .scr r (DRs.reg ok hp hs e)
  | _, _, .tup r e => .tup r (DRs.reg ok hp hs e)
  | _, _, .gt r e => .gt r (DRs.reg ok hp hs e)
theorem DRs.reg (ok : Ok K W) (hp : W.hid p) (hs : ∀ a, h a → W.hid a) : ∀ {ds : List D} {vs : List V}, DRs K W ds vs → DRs K (W.reg p x h) ds vs
  | _, _, .nil => .nil
  | _, _, .cons e t => .cons (e.reg ok hp hs) (DRs.reg ok hp hs t)
end
theorem ok_reg {rs : List D} {ys : List V} (ok : Ok K W) (hp : W.hid p) (hs : ∀ a, h a → W.hid a) (hn : ¬ h p) (hy : W.H p = some (.lst ys)) (r : DRs K W rs ys) : Ok K (W.reg p (.lst rs) h) where
  len := by show (W.ρ ++ [p]).length = (W.μ ++ [_]).length; simp [ok.len]
  nd := by
    show (W.ρ ++ [p]).Nodup
    rw [List.nodup_append]
    refine ⟨ok.nd, by simp, fun a ha b hb e => ?_⟩
    simp at hb
    subst hb e
    exact (ok.hd0 _ hp).2 ha
  rs a m := by
    have m : a ∈ W.ρ ++ [p] := m
    rcases List.mem_append.mp m with m | m
    · exact ok.rs a m
    · simp at m
      subst m
      show W.H a ≠ none
      rw [hy]; simp
  at_ k u e := by
    have e : (W.μ ++ [some (.lst rs)])[k]? = some (some u) := e
    by_cases hk : k < W.μ.length
    · rw [List.getElem?_append_left hk] at e
      obtain ⟨a, ho, h1, h2, h3⟩ := ok.at_ k u e
      refine ⟨a, ho, by show (W.ρ ++ [p])[k]? = _; rw [List.getElem?_append_left (by rw [ok.len]; exact hk)]; exact h1, h2, ?_⟩
      cases u with
      | lst ds => obtain ⟨vs, e, q⟩ := h3; exact ⟨vs, e, q.reg ok hp hs⟩
      | dK kvs => obtain ⟨vs, e, q⟩ := h3; exact ⟨vs, e, Paired.mapP q fun _ _ ⟨e, q⟩ => ⟨e, q.reg ok hp hs⟩⟩
      | ins C fs => obtain ⟨vs, e, q⟩ := h3; exact ⟨vs, e, Paired.mapP q fun _ _ ⟨e, q⟩ => ⟨e, q.reg ok hp hs⟩⟩
      | exc C => exact h3
    · rw [List.getElem?_append_right (by omega)] at e
      have h0 : k - W.μ.length = 0 := by
        by_cases z : k - W.μ.length = 0
        · exact z
        · rw [List.getElem?_eq_none (by simp; omega)] at e; cases e
      rw [h0] at e
      cases e
      refine ⟨p, _, ?_, hy, ys, rfl, r.reg ok hp hs⟩
      show (W.ρ ++ [p])[k]? = _
      have : k = W.ρ.length := by rw [ok.len]; omega
      rw [this]; simp
  hd0 a z := by
    refine ⟨(ok.hd0 a (hs a z)).1, fun m => ?_⟩
    have m : a ∈ W.ρ ++ [p] := m
    rcases List.mem_append.mp m with m | m
    · exact (ok.hd0 a (hs a z)).2 m
    · simp at m
      subst m
      exact hn z
theorem step_reg {o : HO} {x : O} (ok' : Ok K W') (hp : W1.H p = none) (s : StepB p (W1.hide p o) W') : Step W1 (W'.reg p x W1.hid) where
  ρ k a e := by
    show (W'.ρ ++ [p])[k]? = _
    have := s.ρ k a e
    rw [List.getElem?_append_left (List.getElem?_eq_some_iff.mp this).1]; exact this
  live a z := by
    rcases rl_reg ok' z with z | rfl
    · exact (step_around hp s).live a z
    · exact .inr hp
  keep a u e n := (step_around hp s).keep a u e n
  hid := rfl
  still a n := (step_around hp s).still a n
end
section
variable {X : Cx} {K : PySem.W.Frag} {N' own : List Str} {cap : List (Str × Nat)} {scope : Scope} {tg iter elt : Expr} {ifs : List Expr} {pos : Pos} {iv : IV} {g : GV} {tc : BV} {te : EV}
noncomputable def vCompM (own : List Str) (cap : List (Str × Nat)) (iv : IV) (g : GV) (tc : BV) (te : EV) : EV := fun Γ μ => (iv Γ μ).bind fun s => if s.1.1.length ≤ 1000000 then (compG s.1.2 g tc te s.1.1 (capG own cap Γ) s.2).bind fun q => some (.ref q.2.length, q.2 ++ [some (.lst q.1)]) else none
theorem x_compM (S : CompScope X N' own cap scope) (hi : PI X tg iter (tDI K iv))
    (hg : ∀ cl C s₀ H₀ ex, PG (compCx X N' scope cl C s₀ H₀ ex) tg (tDG K g)) (ht : ∀ cl C s₀ H₀ ex, PIf (compCx X N' scope cl C s₀ H₀ ex) ifs (tDB K tc)) (he : ∀ cl C s₀ H₀ ex, PE (compCx X N' scope cl C s₀ H₀ ex) elt (tD K te))
    (hx : ∀ e s, X.xe e s → False := by exact fun _ _ z => z) (hc : X.calm = true := by rfl) (hs : ∀ x, foldedSetIterable iter X.env x = pure x := by intro _; rfl) :
    PE X (.ListComp elt [⟨tg, iter, ifs, 0⟩] scope pos) (tD K (vCompM own cap iv g tc te)) := PE_imp (pe_comp S hi hg ht he hx hc hs) fun σ H Q h => by
  obtain ⟨W, Γ, d, μ', rfl, ok, en, e, q⟩ := h
  obtain ⟨⟨⟨its, c⟩, μ1⟩, e1, e⟩ := bnd e
  refine ⟨W, Γ, its, c, μ1, rfl, ok, en, e1, fun J W1 hμ1 ok1 s1 jr p hp => ?_⟩
  split at e
  · rename_i hl
    obtain ⟨⟨rs, μ2⟩, e2, e⟩ := bnd e
    cases e
    refine comp_turns ok1 hp jr ((en.step ok s1).cap own cap) hl (by rw [hμ1]; exact e2) fun W' ys hμ' ok' s' hp' hy r => ?_
    have hs : ∀ a, W1.hid a → W'.hid a := fun a z => by rw [s'.hid]; exact .inr z
    have rr : DR K (W'.reg p (.lst rs) W1.hid) (.ref μ2.length) (.ref p) := .ref (by
      show (W'.ρ ++ [p])[μ2.length]? = _
      have : μ2.length = W'.ρ.length := by rw [ok'.len, hμ']
      rw [this]; simp)
    exact q _ (W'.reg p (.lst rs) W1.hid) (by show W'.μ ++ _ = _; rw [hμ']) (ok_reg ok' hp' hs (fresh_nhid ok1 hp) hy r) (s1.trans (step_reg ok' hp s')) rr
  · cases e
end
end L3
namespace L3
open PySem PySem.Spec L2
def iAdd (i j : Int) : Int := i + j
theorem iopA {X : Cx} : InOp X .Add (fun x y H Q => ∃ i j, x = .int i ∧ y = .int j ∧ Q (.int (iAdd i j)) H) := fun pins s σ H x y u v Q I rx ry h => by
  obtain ⟨i, j, rfl, rfl, q⟩ := h
  exact iop_add pins s σ H _ _ u v Q I rx ry ⟨i, j, rfl, rfl, q⟩
end L3
set_option Elab.async false
set_option linter.all false
set_option maxRecDepth 100000
namespace L2
open PySem PySem.W PySem.Spec PyProof.Rows
theorem Fun.okU {P : Program} {w : World} {K : PySem.W.Frag} {mg : Str → Option Value} {base : Heap} {x qual : Str} {st : Stmt} {f : Addr} {fd : FuncData} {N ps : List Str} {k : Nat} {sp : Sp} (F : Fun K x qual st f fd) (S : FnScope N ps (defScope st)) (len : ∀ vs H Q E, sp vs H Q E → vs.length = ps.length)
    (hb : ∀ (cdv : Value) (A : Around) (outer : List Env) (s : Shared) (H : Hp) (vs : List V) (Q : VK) (E : XK), RoomU k (A.deeper (envOfC qual (defScope st) s.heap.objs.size f cdv)) → sp vs H Q E →
      ∃ t, PSs (cxU CX0 P w K mg base N qual (defScope st) f cdv A outer s H E).nox (defBody st) t ∧ t { nx := fun _ H' => Q .non H', rt := Q } (start N vs) H) : FnOkU P w K mg base CX0 (k + 1) f fd ps sp := by
  obtain ⟨_, _, _, _, _, _, cdv, _, _, rfl, lk, hcd⟩ := F.ex
  refine fn_ofU lk hcd S len fun A outer s H vs Q E hr h => ?_
  obtain ⟨t, ht, q⟩ := hb cdv A outer s H vs Q E hr h
  exact ⟨t, ht.nox, q⟩
def DfU (P : Program) (w : World) (K : PySem.W.Frag) (mg : Str → Option Value) (base : Heap) (k : Nat) (x : Str) (ps : List Str) (sp : Sp) : Prop :=
  ∃ f fd, FnOkU P w K mg base CX0 k f fd ps sp ∧ Binds K fd ps [] ∧ PySem.W.keepIn K (.ref f) = true ∧ mg x = some (.ref f)
section
variable {X : Cx} {k : Nat} {x : Str} {ps : List Str} {sp : Sp} {e : Expr} {es : List Expr} {t : TA} {p pos : Pos} {f : Addr} {fd : FuncData}
theorem run_fnU {pins : List (Addr × Obj)} {σ : St} {H : Hp} {s : Shared} {Q : VK} {us : List Value} {vs : List V} (F : FnOkU X.prog X.w X.K X.mg X.base CX0 k f fd ps sp) (hr : RoomU k X.A) (hb : Binds X.K fd ps [])
    (I : Inv X pins σ H s) (r : Vals vs us) (h : sp vs H Q E0) : wpAny (model X.prog X.w) X.A (call (.ref f) us) (EP X pins σ Q) X.xe s := by
  have hl : us.length = ps.length := by rw [← r.length]; exact F.len _ _ _ _ h
  have hb' := hb s us I.kIn (by simpa using hl)
  simp only [List.append_nil] at hb'
  refine wpAny_call (codeAny_mono (F.run X.A X.stack s H ⟨us, []⟩ us vs Q E0 hr I.env0 hb' r h) fun r s' hq => ?_)
  cases r with
  | error _ => exact False.elim hq
  | ok fl =>
    cases fl with
    | ret u => exact I.after hq
    | next => exact False.elim hq
    | brk => exact False.elim hq
    | cont => exact False.elim hq
theorem pe_dfU (D : DfU X.prog X.w X.K X.mg X.base k x ps sp) (hr : RoomU k X.A) (ha : PA X (e :: es) t) (hg : Gl X x := by rfl) (hdb : (x == ("__debug__" : Str)) = false := by decide)
    (he : starEach (e :: es) X.env = (false, eval e X.env) :: starEach es X.env := by rfl) (hpl : (backTo pos (starEach es X.env)).any (·.1) = false := by rfl) :
    PE X (.Call (.Name x p) (e :: es) [] pos) (fun σ H Q => t σ H fun vs H1 => sp vs H1 Q E0) := by
  obtain ⟨f, fd, F, hb, hk, hm⟩ := D
  intro pins s σ H Q I h
  refine wpAny_Call_Name_kw (ld_glob I hg hm ?_ hdb)
  refine PySem.W.callWith_K (h₀ := X.base) I.ok.mod.kin hk (thn (ha pos pins s σ H _ I h) fun us s1 ⟨vs, H1, I1, r, q⟩ => ⟨I1.kIn, ?_⟩) he hpl
  exact run_fnU F hr hb I1 r q
theorem Room.mkd {k : Nat} {A : Around} {v : Option Value} (r : Room k A) : RoomU k (A.mark v) := ⟨r.dp, r.un⟩
end
end L2
namespace L3
open PySem PySem.Spec L2
open PyProof.Rows (envOfC)
section
variable {P : Program} {w : World} {K : PySem.W.Frag} {mg : Str → Option Value} {base : Heap}
theorem fn_mU {x qual : Str} {st : Stmt} {f : Addr} {fd : FuncData} {N ps : List Str} {k : Nat} {es : SV} (F : Fun K x qual st f fd) (S : FnScope N ps (defScope st))
    (hb : ∀ (cdv : Value) (A : Around) (outer : List Env) (s : Shared) (H : Hp) (E : XK), RoomU k (A.deeper (envOfC qual (defScope st) s.heap.objs.size f cdv)) → PSs (cxU CX0 P w K mg base N qual (defScope st) f cdv A outer s H E).nox (defBody st) (tDS K es)) :
    FnOkU P w K mg base CX0 (k + 1) f fd ps (spM K (runF N.length ps.length es)) := by
  refine F.okU S (fun vs H Q E h => ?_) (fun cdv A outer s H vs Q E hr h => ?_)
  · obtain ⟨W, ds, d, μ', _, _, r, e, _⟩ := h
    unfold runF at e
    split at e
    · rename_i hl; rw [← r.length]; exact hl
    · cases e
  · obtain ⟨W, ds, d, μ', rfl, ok, r, e, q⟩ := h
    refine ⟨_, hb cdv A outer s W.H E hr, ?_⟩
    unfold runF at e
    split at e
    · obtain ⟨⟨o, Γ', μ2⟩, e1, e⟩ := bnd e
      refine ⟨W, _, o, Γ', μ2, rfl, ok, env_start r, e1, fun W' σ' hμ ok' s' en' => ?_⟩
      cases o with
      | rt z => cases e; exact fun v rv => q v W' hμ ok' s' rv
      | nx => cases e; exact q _ W' hμ ok' s' .non
      | bk => cases e
      | ct => cases e
    · cases e
end
section
variable {X : Cx} {K : PySem.W.Frag} {e : Expr} {es : List Expr} {p pos : Pos}
theorem x_dfU {x : Str} {ps : List Str} {f : List D → M → Option (D × M)} {k : Nat} {el : LV} (D : DfU X.prog X.w X.K X.mg X.base k x ps (spM K f)) (hr : RoomU k X.A) (ha : PA X (e :: es) (tDL K el)) (hg : Gl X x := by rfl) (hdb : (x == ("__debug__" : Str)) = false := by decide)
    (he : starEach (e :: es) X.env = (false, eval e X.env) :: starEach es X.env := by rfl) (hpl : (backTo pos (starEach es X.env)).any (·.1) = false := by rfl) : PE X (.Call (.Name x p) (e :: es) [] pos) (tD K (vL f el)) :=
  PE_imp (pe_dfU D hr ha hg hdb he hpl) fun σ H Q h => by
    obtain ⟨W, Γ, d, μ', rfl, ok, en, e, q⟩ := h
    obtain ⟨p1, e1, e⟩ := bnd e
    exact ⟨W, Γ, p1.1, p1.2, rfl, ok, en, e1, fun vs W1 hμ ok1 s1 r1 => ⟨W1, p1.1, d, μ', rfl, ok1, r1, by rw [hμ]; exact e, fun v W2 h1 h2 h3 h4 => q v W2 h1 h2 (s1.trans h3) h4⟩⟩
end
end L3
set_option Elab.async false
set_option linter.all false
set_option maxRecDepth 100000
namespace L3
open PySem PySem.Spec L2
def CMulB (i j : Int) : Prop := i.natAbs < 2 ^ 1000 ∧ j.natAbs < 2 ^ 1000
instance {i j : Int} : Decidable (CMulB i j) := by unfold CMulB; infer_instance
theorem CMulB.ok {i j : Int} (h : CMulB i j) : IntMulOk i j := .of_bits (Nat.le_trans (PyProof.Rows.intBits_le h.1) (by decide)) (Nat.le_trans (PyProof.Rows.intBits_le h.2) (by decide))
theorem op_mulB {X : Cx} : OpR X (binaryOp .Mult) (rI CMulB fun i j => .int (i * j)) := opI fun _ _ _ _ _ _ _ hc q => PySem.P.mul_int q hc.ok
abbrev fTimesW := fI CMulB fun i j => .int (i * j)
theorem x_timesW {X : Cx} {K : PySem.W.Frag} {a b : Expr} {ea eb : EV} {pos : Pos} (ha : PE X a (tD K ea)) (hb : PE X b (tD K eb)) : PE X (.BinOp a .Mult b pos) (tD K (v2 fTimesW ea eb)) := x_op op_mulB (ra_I (C := CMulB) fun _ _ _ => .int _) ha hb
end L3
set_option Elab.async false
set_option linter.all false
set_option maxRecDepth 100000
set_option maxHeartbeats 0
namespace Law
open PySem L2 L3
def top (i : Nat) : Stmt := PySem.Challenge.pw_morethanhalf_k44_keepers_refuse.main.body.getD i (.Pass ⟨0, 0, 0, 0⟩)
section
variable {P : Program} {w : World} {K : PySem.W.Frag} {mg : Str → Option Value} {base : Heap} {f : Addr} {fd : FuncData}
theorem sc_Keeper___init : FnScope ["self"] ["self"] (defScope (inClass (top 11) 0)) := ⟨rfl, rfl, rfl, by decide +kernel, rfl, by decide +kernel, by decide +kernel⟩
noncomputable def ev_Keeper___init (A_Keeper : Addr) : SV :=
    (sSeq (sFldS A_Keeper "kept" (vVar 0) (vL fNew lNil))
    (sSeq (sFldS A_Keeper "coming" (vVar 0) (vC .non))
    (sSeq (sFldS A_Keeper "passed" (vVar 0) (vC (.int 0)))
    (sFldS A_Keeper "answered" (vVar 0) (vC (.int 0))))))
noncomputable def mi_Keeper___init (A_Keeper : Addr) : List D → M → Option (D × M) := runF 1 1 (ev_Keeper___init A_Keeper)
theorem ok_Keeper___init {k : Nat} {A_Keeper : Addr} (F : Fun K "__init__" "Keeper.__init__" (inClass (top 11) 0) f fd) (fc_Keeper_kept : FldC K A_Keeper "kept") (fc_Keeper_coming : FldC K A_Keeper "coming") (fc_Keeper_passed : FldC K A_Keeper "passed") (fc_Keeper_answered : FldC K A_Keeper "answered") : FnOk P w K mg base CX0 (k + 1) f fd ["self"] (spM K (mi_Keeper___init A_Keeper)) := by
  unfold mi_Keeper___init ev_Keeper___init
  exact fn_m F sc_Keeper___init fun cdv A outer s H E hr =>
    (xs_cons (xs_fld fc_Keeper_kept (x_var 0) (x_new xa_nil))
    (xs_cons (xs_fld fc_Keeper_coming (x_var 0) x_non)
    (xs_cons (xs_fld fc_Keeper_passed (x_var 0) x_int)
    (xs_one (xs_fld fc_Keeper_answered (x_var 0) x_int)))))
theorem sc_Keeper_wants : FnScope ["self"] ["self"] (defScope (inClass (top 11) 1)) := ⟨rfl, rfl, rfl, by decide +kernel, rfl, by decide +kernel, by decide +kernel⟩
noncomputable def ev_Keeper_wants (A_Keeper : Addr) : SV :=
    (sSeq (sIf (vT (v2 fIsN (v1 (fFld A_Keeper "coming") (vVar 0)) (vC .non)))
      (sRet (vC .non))
      sNx)
    (sRet (vL fTup (lCons (v2 fIx (v2 fIx (v1 (fFld A_Keeper "kept") (vVar 0)) (v1 (fFld A_Keeper "passed") (vVar 0))) (vC (.int 0))) (lCons (v1 (fFld A_Keeper "coming") (vVar 0)) lNil)))))
noncomputable def mi_Keeper_wants (A_Keeper : Addr) : List D → M → Option (D × M) := runF 1 1 (ev_Keeper_wants A_Keeper)
theorem ok_Keeper_wants {k : Nat} {A_Keeper : Addr} (F : Fun K "wants" "Keeper.wants" (inClass (top 11) 1) f fd) (fc_Keeper_coming : FldC K A_Keeper "coming") (fc_Keeper_kept : FldC K A_Keeper "kept") (fc_Keeper_passed : FldC K A_Keeper "passed") : FnOk P w K mg base CX0 (k + 1) f fd ["self"] (spM K (mi_Keeper_wants A_Keeper)) := by
  unfold mi_Keeper_wants ev_Keeper_wants
  exact fn_m F sc_Keeper_wants fun cdv A outer s H E hr =>
    (xs_cons (xs_if (x_isNT (x_fld fc_Keeper_coming (x_var 0)) x_non)
      (xs_one (xs_ret x_non))
      xs_nil)
    (xs_one (xs_ret (x_tup (xa_cons (x_ix (x_ix (x_fld fc_Keeper_kept (x_var 0)) (x_fld fc_Keeper_passed (x_var 0))) x_int) (xa_cons (x_fld fc_Keeper_coming (x_var 0)) xa_nil))))))
theorem sc_Keeper_check_nothing_wanted : FnScope ["self"] ["self"] (defScope (inClass (top 11) 2)) := ⟨rfl, rfl, rfl, by decide +kernel, rfl, by decide +kernel, by decide +kernel⟩
noncomputable def ev_Keeper_check_nothing_wanted (A_Keeper : Addr) (C_NoAsk : Addr) : SX :=
    (sIfX (upB (vT (v2 fNotN (v1 (fFld A_Keeper "coming") (vVar 0)) (vC .non))))
      (sRaise C_NoAsk (vC (.str "an answer is wanted first")))
      (upS sNx))
noncomputable def mi_Keeper_check_nothing_wanted (A_Keeper : Addr) (C_NoAsk : Addr) : FX := runX 1 1 (ev_Keeper_check_nothing_wanted A_Keeper C_NoAsk)
theorem ok_Keeper_check_nothing_wanted {k : Nat} {A_Keeper : Addr} {C_NoAsk : Addr} (F : Fun K "check_nothing_wanted" "Keeper.check_nothing_wanted" (inClass (top 11) 2) f fd) (fc_Keeper_coming : FldC K A_Keeper "coming") (e_NoAsk : mg "NoAsk" = some (.ref C_NoAsk) ∧ RaiseIn K C_NoAsk) : FnOk P w K mg base (CXr P w) (k + 1) f fd ["self"] (spX K (mi_Keeper_check_nothing_wanted A_Keeper C_NoAsk)) := by
  unfold mi_Keeper_check_nothing_wanted ev_Keeper_check_nothing_wanted
  exact fn_x F sc_Keeper_check_nothing_wanted fun cdv A outer s H E hr =>
    (ys_one (ys_if (yt_up (x_notNT (x_fld fc_Keeper_coming (x_var 0)) x_non))
      (ys_one (ys_raise x_str e_NoAsk.1 e_NoAsk.2))
      ys_nil))
theorem sc_Keeper_group_with : FnScope ["self", "name", "group"] ["self", "name"] (defScope (inClass (top 11) 3)) := ⟨rfl, rfl, rfl, by decide +kernel, rfl, by decide +kernel, by decide +kernel⟩
noncomputable def ev_Keeper_group_with (A_Keeper : Addr) : SV :=
    (sSeq (sFor (ivL (v1 (fFld A_Keeper "kept") (vVar 0))) (gvName 2)
      (sIf (vT (v2 (fIn false) (vVar 1) (vVar 2)))
        (sRet (vVar 2))
        sNx))
    (sRet (vC .non)))
noncomputable def mi_Keeper_group_with (A_Keeper : Addr) : List D → M → Option (D × M) := runF 3 2 (ev_Keeper_group_with A_Keeper)
theorem ok_Keeper_group_with {k : Nat} {A_Keeper : Addr} (F : Fun K "group_with" "Keeper.group_with" (inClass (top 11) 3) f fd) (fc_Keeper_kept : FldC K A_Keeper "kept") : FnOk P w K mg base CX0 (k + 1) f fd ["self", "name"] (spM K (mi_Keeper_group_with A_Keeper)) := by
  unfold mi_Keeper_group_with ev_Keeper_group_with
  exact fn_m F sc_Keeper_group_with fun cdv A outer s H E hr =>
    (xs_cons (xs_for PassesOwn.never rfl (xi_list (x_fld fc_Keeper_kept (x_var 0))) (xg_name (i := 2) sc_Keeper_group_with.nd rfl (Or.inl rfl))
      (xs_one (xs_if (x_inT (x_var 1) (x_var 2))
        (xs_one (xs_ret (x_var 2)))
        xs_nil)))
    (xs_one (xs_ret x_non)))
theorem sc_Keeper_begin_group_if_unlike_all : FnScope ["self"] ["self"] (defScope (inClass (top 11) 4)) := ⟨rfl, rfl, rfl, by decide +kernel, rfl, by decide +kernel, by decide +kernel⟩
noncomputable def ev_Keeper_begin_group_if_unlike_all (A_Keeper : Addr) : SV :=
    (sIf (vT (v2 fEq (v1 (fFld A_Keeper "passed") (vVar 0)) (v1 fLen (v1 (fFld A_Keeper "kept") (vVar 0)))))
      (sSeq (sExpr (v2l fApp (v1 (fFld A_Keeper "kept") (vVar 0)) (vL fNew (lCons (v1 (fFld A_Keeper "coming") (vVar 0)) lNil))))
      (sFldS A_Keeper "coming" (vVar 0) (vC .non)))
      sNx)
noncomputable def mi_Keeper_begin_group_if_unlike_all (A_Keeper : Addr) : List D → M → Option (D × M) := runF 1 1 (ev_Keeper_begin_group_if_unlike_all A_Keeper)
theorem ok_Keeper_begin_group_if_unlike_all {k : Nat} {A_Keeper : Addr} (F : Fun K "begin_group_if_unlike_all" "Keeper.begin_group_if_unlike_all" (inClass (top 11) 4) f fd) (fc_Keeper_passed : FldC K A_Keeper "passed") (fc_Keeper_kept : FldC K A_Keeper "kept") (fc_Keeper_coming : FldC K A_Keeper "coming") (m_len : mg "len" = none) : FnOk P w K mg base CX0 (k + 1) f fd ["self"] (spM K (mi_Keeper_begin_group_if_unlike_all A_Keeper)) := by
  unfold mi_Keeper_begin_group_if_unlike_all ev_Keeper_begin_group_if_unlike_all
  exact fn_m F sc_Keeper_begin_group_if_unlike_all fun cdv A outer s H E hr =>
    (xs_one (xs_if (x_eqT hr (x_fld fc_Keeper_passed (x_var 0)) (x_len m_len (x_fld fc_Keeper_kept (x_var 0))))
      (xs_cons (xs_expr (x_app (x_fld fc_Keeper_kept (x_var 0)) (x_new (xa_cons (x_fld fc_Keeper_coming (x_var 0)) xa_nil))))
      (xs_one (xs_fld fc_Keeper_coming (x_var 0) x_non)))
      xs_nil))
theorem sc_Keeper_come : FnScope ["self", "name"] ["self", "name"] (defScope (inClass (top 11) 5)) := ⟨rfl, rfl, rfl, by decide +kernel, rfl, by decide +kernel, by decide +kernel⟩
noncomputable def ev_Keeper_come (f_Keeper_group_with : List D → M → Option (D × M)) (f_Keeper_begin_group_if_unlike_all : List D → M → Option (D × M)) (f_Keeper_check_nothing_wanted : FX) (A_Keeper : Addr) (C_NoName : Addr) : SX :=
    (sSeqX (sExprX (vMethX A_Keeper "check_nothing_wanted" f_Keeper_check_nothing_wanted (up (vVar 0)) (upL lNil)))
    (sSeqX (sIfX (upB (vT (v2 fNotN (vMeth A_Keeper "group_with" f_Keeper_group_with (vVar 0) (lCons (vVar 1) lNil)) (vC .non))))
      (sRaiseM C_NoName ((vVar 1) :: []))
      (upS sNx))
    (upS (sSeq (sFldS A_Keeper "coming" (vVar 0) (vVar 1))
    (sSeq (sFldS A_Keeper "passed" (vVar 0) (vC (.int 0)))
    (sExpr (vMeth A_Keeper "begin_group_if_unlike_all" f_Keeper_begin_group_if_unlike_all (vVar 0) lNil)))))))
noncomputable def mi_Keeper_come (f_Keeper_group_with : List D → M → Option (D × M)) (f_Keeper_begin_group_if_unlike_all : List D → M → Option (D × M)) (f_Keeper_check_nothing_wanted : FX) (A_Keeper : Addr) (C_NoName : Addr) : FX := runX 2 2 (ev_Keeper_come f_Keeper_group_with f_Keeper_begin_group_if_unlike_all f_Keeper_check_nothing_wanted A_Keeper C_NoName)
theorem ok_Keeper_come {f_Keeper_group_with f_Keeper_begin_group_if_unlike_all : List D → M → Option (D × M)} {f_Keeper_check_nothing_wanted : FX} {k_Keeper_group_with k_Keeper_begin_group_if_unlike_all k_Keeper_check_nothing_wanted k : Nat} {A_Keeper : Addr} {C_NoName : Addr} (F : Fun K "come" "Keeper.come" (inClass (top 11) 5) f fd) (D_Keeper_group_with : MtC P w K mg base CX0 k_Keeper_group_with A_Keeper "group_with" ["self", "name"] (spM K f_Keeper_group_with)) (h_Keeper_group_with : k_Keeper_group_with ≤ k) (D_Keeper_begin_group_if_unlike_all : MtC P w K mg base CX0 k_Keeper_begin_group_if_unlike_all A_Keeper "begin_group_if_unlike_all" ["self"] (spM K f_Keeper_begin_group_if_unlike_all)) (h_Keeper_begin_group_if_unlike_all : k_Keeper_begin_group_if_unlike_all ≤ k) (D_Keeper_check_nothing_wanted : MtC P w K mg base (CXr P w) k_Keeper_check_nothing_wanted A_Keeper "check_nothing_wanted" ["self"] (spX K f_Keeper_check_nothing_wanted)) (h_Keeper_check_nothing_wanted : k_Keeper_check_nothing_wanted ≤ k) (fc_Keeper_coming : FldC K A_Keeper "coming") (fc_Keeper_passed : FldC K A_Keeper "passed") (e_NoName : mg "NoName" = some (.ref C_NoName) ∧ RaiseIn K C_NoName) : FnOk P w K mg base (CXr P w) (k + 1) f fd ["self", "name"] (spX K (mi_Keeper_come f_Keeper_group_with f_Keeper_begin_group_if_unlike_all f_Keeper_check_nothing_wanted A_Keeper C_NoName)) := by
  unfold mi_Keeper_come ev_Keeper_come
  exact fn_x F sc_Keeper_come fun cdv A outer s H E hr =>
    (ys_cons (ys_expr (y_meth0 D_Keeper_check_nothing_wanted (hr.mono h_Keeper_check_nothing_wanted) (y_up (x_var 0))))
    (ys_cons (ys_if (yt_up (x_notNT (x_meth D_Keeper_group_with (hr.mono h_Keeper_group_with) (x_var 0) (xa_cons (x_var 1) xa_nil)) x_non))
      (ys_one (ys_raiseM (x_msg (pj_v (x_var 1) (pj_s (by decide) pj0))) e_NoName.1 e_NoName.2))
      ys_nil)
    (yss_up (xs_cons (xs_fld fc_Keeper_coming (x_var 0) (x_var 1))
    (xs_cons (xs_fld fc_Keeper_passed (x_var 0) x_int)
    (xs_one (xs_expr (x_meth0 D_Keeper_begin_group_if_unlike_all (hr.mono h_Keeper_begin_group_if_unlike_all) (x_var 0)))))))))
theorem sc_Keeper_hear : FnScope ["self", "alike"] ["self", "alike"] (defScope (inClass (top 11) 6)) := ⟨rfl, rfl, rfl, by decide +kernel, rfl, by decide +kernel, by decide +kernel⟩
noncomputable def ev_Keeper_hear (f_Keeper_begin_group_if_unlike_all : List D → M → Option (D × M)) (A_Keeper : Addr) (C_NoAsk : Addr) : SX :=
    (sSeqX (sIfX (upB (vT (v2 fIsN (v1 (fFld A_Keeper "coming") (vVar 0)) (vC .non))))
      (sRaise C_NoAsk (vC (.str "nothing is asked for")))
      (upS sNx))
    (upS (sSeq (sFldAugS A_Keeper "answered" iAdd (vVar 0) (vC (.int 1)))
    (sIf (bTru (vVar 1))
      (sSeq (sExpr (v2l fApp (v2 fIx (v1 (fFld A_Keeper "kept") (vVar 0)) (v1 (fFld A_Keeper "passed") (vVar 0))) (v1 (fFld A_Keeper "coming") (vVar 0))))
      (sFldS A_Keeper "coming" (vVar 0) (vC .non)))
      (sSeq (sFldAugS A_Keeper "passed" iAdd (vVar 0) (vC (.int 1)))
      (sExpr (vMeth A_Keeper "begin_group_if_unlike_all" f_Keeper_begin_group_if_unlike_all (vVar 0) lNil)))))))
noncomputable def mi_Keeper_hear (f_Keeper_begin_group_if_unlike_all : List D → M → Option (D × M)) (A_Keeper : Addr) (C_NoAsk : Addr) : FX := runX 2 2 (ev_Keeper_hear f_Keeper_begin_group_if_unlike_all A_Keeper C_NoAsk)
theorem ok_Keeper_hear {f_Keeper_begin_group_if_unlike_all : List D → M → Option (D × M)} {k_Keeper_begin_group_if_unlike_all k : Nat} {A_Keeper : Addr} {C_NoAsk : Addr} (F : Fun K "hear" "Keeper.hear" (inClass (top 11) 6) f fd) (D_Keeper_begin_group_if_unlike_all : MtC P w K mg base CX0 k_Keeper_begin_group_if_unlike_all A_Keeper "begin_group_if_unlike_all" ["self"] (spM K f_Keeper_begin_group_if_unlike_all)) (h_Keeper_begin_group_if_unlike_all : k_Keeper_begin_group_if_unlike_all ≤ k) (fc_Keeper_coming : FldC K A_Keeper "coming") (fc_Keeper_answered : FldC K A_Keeper "answered") (fc_Keeper_kept : FldC K A_Keeper "kept") (fc_Keeper_passed : FldC K A_Keeper "passed") (e_NoAsk : mg "NoAsk" = some (.ref C_NoAsk) ∧ RaiseIn K C_NoAsk) : FnOk P w K mg base (CXr P w) (k + 1) f fd ["self", "alike"] (spX K (mi_Keeper_hear f_Keeper_begin_group_if_unlike_all A_Keeper C_NoAsk)) := by
  unfold mi_Keeper_hear ev_Keeper_hear
  exact fn_x F sc_Keeper_hear fun cdv A outer s H E hr =>
    (ys_cons (ys_if (yt_up (x_isNT (x_fld fc_Keeper_coming (x_var 0)) x_non))
      (ys_one (ys_raise x_str e_NoAsk.1 e_NoAsk.2))
      ys_nil)
    (yss_up (xs_cons (xs_fldAug iopA fc_Keeper_answered (x_var 0) x_int)
    (xs_one (xs_if (x_truth (x_var 1))
      (xs_cons (xs_expr (x_app (x_ix (x_fld fc_Keeper_kept (x_var 0)) (x_fld fc_Keeper_passed (x_var 0))) (x_fld fc_Keeper_coming (x_var 0))))
      (xs_one (xs_fld fc_Keeper_coming (x_var 0) x_non)))
      (xs_cons (xs_fldAug iopA fc_Keeper_passed (x_var 0) x_int)
      (xs_one (xs_expr (x_meth0 D_Keeper_begin_group_if_unlike_all (hr.mono h_Keeper_begin_group_if_unlike_all) (x_var 0))))))))))
theorem sc_Keeper_go : FnScope ["self", "name", "group"] ["self", "name"] (defScope (inClass (top 11) 7)) := ⟨rfl, rfl, rfl, by decide +kernel, rfl, by decide +kernel, by decide +kernel⟩
theorem nd_Keeper_go_0 : ((["each"] : List Str) ++ ([] : List (Str × Nat)).map (·.1)).Nodup := by decide +kernel
noncomputable def ev_Keeper_go (f_Keeper_group_with : List D → M → Option (D × M)) (f_Keeper_check_nothing_wanted : FX) (A_Keeper : Addr) (C_NoName : Addr) : SX :=
    (sSeqX (sExprX (vMethX A_Keeper "check_nothing_wanted" f_Keeper_check_nothing_wanted (up (vVar 0)) (upL lNil)))
    (sSeqX (upS (sAsg (vMeth A_Keeper "group_with" f_Keeper_group_with (vVar 0) (lCons (vVar 1) lNil)) (gvName 2)))
    (sSeqX (sIfX (upB (vT (v2 fIsN (vVar 2) (vC .non))))
      (sRaiseM C_NoName ((vVar 1) :: []))
      (upS sNx))
    (upS (sSeq (sExpr (v2l fRemove (vVar 2) (vVar 1)))
    (sFldS A_Keeper "kept" (vVar 0) (vCompM ["each"] [] (ivL (v1 (fFld A_Keeper "kept") (vVar 0))) (gvName 0) (bTru (vVar 0)) (vVar 0))))))))
noncomputable def mi_Keeper_go (f_Keeper_group_with : List D → M → Option (D × M)) (f_Keeper_check_nothing_wanted : FX) (A_Keeper : Addr) (C_NoName : Addr) : FX := runX 3 2 (ev_Keeper_go f_Keeper_group_with f_Keeper_check_nothing_wanted A_Keeper C_NoName)
theorem ok_Keeper_go {f_Keeper_group_with : List D → M → Option (D × M)} {f_Keeper_check_nothing_wanted : FX} {k_Keeper_group_with k_Keeper_check_nothing_wanted k : Nat} {A_Keeper : Addr} {C_NoName : Addr} (F : Fun K "go" "Keeper.go" (inClass (top 11) 7) f fd) (D_Keeper_group_with : MtC P w K mg base CX0 k_Keeper_group_with A_Keeper "group_with" ["self", "name"] (spM K f_Keeper_group_with)) (h_Keeper_group_with : k_Keeper_group_with ≤ k) (D_Keeper_check_nothing_wanted : MtC P w K mg base (CXr P w) k_Keeper_check_nothing_wanted A_Keeper "check_nothing_wanted" ["self"] (spX K f_Keeper_check_nothing_wanted)) (h_Keeper_check_nothing_wanted : k_Keeper_check_nothing_wanted ≤ k) (fc_Keeper_kept : FldC K A_Keeper "kept") (e_NoName : mg "NoName" = some (.ref C_NoName) ∧ RaiseIn K C_NoName) : FnOk P w K mg base (CXr P w) (k + 1) f fd ["self", "name"] (spX K (mi_Keeper_go f_Keeper_group_with f_Keeper_check_nothing_wanted A_Keeper C_NoName)) := by
  unfold mi_Keeper_go ev_Keeper_go
  exact fn_x F sc_Keeper_go fun cdv A outer s H E hr =>
    (ys_cons (ys_expr (y_meth0 D_Keeper_check_nothing_wanted (hr.mono h_Keeper_check_nothing_wanted) (y_up (x_var 0))))
    (ys_cons (ys_up (xs_set (i := 2) sc_Keeper_go.nd rfl (Or.inl rfl) (x_meth D_Keeper_group_with (hr.mono h_Keeper_group_with) (x_var 0) (xa_cons (x_var 1) xa_nil))))
    (ys_cons (ys_if (yt_up (x_isNT (x_var 2) x_non))
      (ys_one (ys_raiseM (x_msg (pj_v (x_var 1) (pj_s (by decide) pj0))) e_NoName.1 e_NoName.2))
      ys_nil)
    (yss_up (xs_cons (xs_expr (x_remove (x_var 2) (x_var 1)))
    (xs_one (xs_fld fc_Keeper_kept (x_var 0) (x_compM (own := ["each"]) (cap := []) (cscope rfl) (xi_list (x_fld fc_Keeper_kept (x_var 0)))
      (fun _ _ _ _ _ => (xg_name (i := 0) nd_Keeper_go_0 rfl (Or.inl rfl))) (fun _ _ _ _ _ => (xif_one (x_truth (x_var 0))))
      (fun _ _ _ _ _ => (x_var 0))))))))))
theorem sc_Keeper_most : FnScope ["self", "many", "group"] ["self"] (defScope (inClass (top 11) 8)) := ⟨rfl, rfl, rfl, by decide +kernel, rfl, by decide +kernel, by decide +kernel⟩
theorem nd_Keeper_most_0 : ((["group"] : List Str) ++ ([] : List (Str × Nat)).map (·.1)).Nodup := by decide +kernel
noncomputable def ev_Keeper_most (f_Keeper_check_nothing_wanted : FX) (A_Keeper : Addr) : SX :=
    (sSeqX (sExprX (vMethX A_Keeper "check_nothing_wanted" f_Keeper_check_nothing_wanted (up (vVar 0)) (upL lNil)))
    (upS (sSeq (sAsg (v1 fSum (vComp ["group"] [] (ivL (v1 (fFld A_Keeper "kept") (vVar 0))) (gvName 0) bYes (v1 fLen (vVar 0)))) (gvName 1))
    (sSeq (sFor (ivL (v1 (fFld A_Keeper "kept") (vVar 0))) (gvName 2)
      (sIf (vT (v2 fGt (v2 fTimes (vC (.int 2)) (v1 fLen (vVar 2))) (vVar 1)))
        (sRet (v1 fListM (vVar 2)))
        sNx))
    (sRet (vL fNew lNil))))))
noncomputable def mi_Keeper_most (f_Keeper_check_nothing_wanted : FX) (A_Keeper : Addr) : FX := runX 3 1 (ev_Keeper_most f_Keeper_check_nothing_wanted A_Keeper)
theorem ok_Keeper_most {f_Keeper_check_nothing_wanted : FX} {k_Keeper_check_nothing_wanted k : Nat} {A_Keeper : Addr} (F : Fun K "most" "Keeper.most" (inClass (top 11) 8) f fd) (D_Keeper_check_nothing_wanted : MtC P w K mg base (CXr P w) k_Keeper_check_nothing_wanted A_Keeper "check_nothing_wanted" ["self"] (spX K f_Keeper_check_nothing_wanted)) (h_Keeper_check_nothing_wanted : k_Keeper_check_nothing_wanted ≤ k) (fc_Keeper_kept : FldC K A_Keeper "kept") (m_len : mg "len" = none) (m_sum : mg "sum" = none) (m_list : mg "list" = none) : FnOk P w K mg base (CXr P w) (k + 1) f fd ["self"] (spX K (mi_Keeper_most f_Keeper_check_nothing_wanted A_Keeper)) := by
  unfold mi_Keeper_most ev_Keeper_most
  exact fn_x F sc_Keeper_most fun cdv A outer s H E hr =>
    (ys_cons (ys_expr (y_meth0 D_Keeper_check_nothing_wanted (hr.mono h_Keeper_check_nothing_wanted) (y_up (x_var 0))))
    (yss_up (xs_cons (xs_set (i := 1) sc_Keeper_most.nd rfl (Or.inl rfl) (x_sum m_sum (x_comp (own := ["group"]) (cap := []) (cscope rfl) (xi_list (x_fld fc_Keeper_kept (x_var 0)))
      (fun _ _ _ _ _ => (xg_name (i := 0) nd_Keeper_most_0 rfl (Or.inl rfl))) (fun _ _ _ _ _ => xif_nil)
      (fun _ _ _ _ _ => (x_len m_len (x_var 0))))))
    (xs_cons (xs_for PassesOwn.never rfl (xi_list (x_fld fc_Keeper_kept (x_var 0))) (xg_name (i := 2) sc_Keeper_most.nd rfl (Or.inl rfl))
      (xs_one (xs_if (x_gtT (x_times x_int (x_len m_len (x_var 2))) (x_var 1))
        (xs_one (xs_ret (x_listM m_list (x_var 2))))
        xs_nil)))
    (xs_one (xs_ret (x_new xa_nil)))))))
theorem sc_Keeper_groups : FnScope ["self"] ["self"] (defScope (inClass (top 11) 9)) := ⟨rfl, rfl, rfl, by decide +kernel, rfl, by decide +kernel, by decide +kernel⟩
noncomputable def ev_Keeper_groups (f_Keeper_check_nothing_wanted : FX) (A_Keeper : Addr) : SX :=
    (sSeqX (sExprX (vMethX A_Keeper "check_nothing_wanted" f_Keeper_check_nothing_wanted (up (vVar 0)) (upL lNil)))
    (upS (sRet (v1 fLen (v1 (fFld A_Keeper "kept") (vVar 0))))))
noncomputable def mi_Keeper_groups (f_Keeper_check_nothing_wanted : FX) (A_Keeper : Addr) : FX := runX 1 1 (ev_Keeper_groups f_Keeper_check_nothing_wanted A_Keeper)
theorem ok_Keeper_groups {f_Keeper_check_nothing_wanted : FX} {k_Keeper_check_nothing_wanted k : Nat} {A_Keeper : Addr} (F : Fun K "groups" "Keeper.groups" (inClass (top 11) 9) f fd) (D_Keeper_check_nothing_wanted : MtC P w K mg base (CXr P w) k_Keeper_check_nothing_wanted A_Keeper "check_nothing_wanted" ["self"] (spX K f_Keeper_check_nothing_wanted)) (h_Keeper_check_nothing_wanted : k_Keeper_check_nothing_wanted ≤ k) (fc_Keeper_kept : FldC K A_Keeper "kept") (m_len : mg "len" = none) : FnOk P w K mg base (CXr P w) (k + 1) f fd ["self"] (spX K (mi_Keeper_groups f_Keeper_check_nothing_wanted A_Keeper)) := by
  unfold mi_Keeper_groups ev_Keeper_groups
  exact fn_x F sc_Keeper_groups fun cdv A outer s H E hr =>
    (ys_cons (ys_expr (y_meth0 D_Keeper_check_nothing_wanted (hr.mono h_Keeper_check_nothing_wanted) (y_up (x_var 0))))
    (yss_up (xs_one (xs_ret (x_len m_len (x_fld fc_Keeper_kept (x_var 0)))))))
theorem sc_Keeper_heard : FnScope ["self"] ["self"] (defScope (inClass (top 11) 10)) := ⟨rfl, rfl, rfl, by decide +kernel, rfl, by decide +kernel, by decide +kernel⟩
noncomputable def ev_Keeper_heard (f_Keeper_check_nothing_wanted : FX) (A_Keeper : Addr) : SX :=
    (sSeqX (sExprX (vMethX A_Keeper "check_nothing_wanted" f_Keeper_check_nothing_wanted (up (vVar 0)) (upL lNil)))
    (upS (sRet (v1 (fFld A_Keeper "answered") (vVar 0)))))
noncomputable def mi_Keeper_heard (f_Keeper_check_nothing_wanted : FX) (A_Keeper : Addr) : FX := runX 1 1 (ev_Keeper_heard f_Keeper_check_nothing_wanted A_Keeper)
theorem ok_Keeper_heard {f_Keeper_check_nothing_wanted : FX} {k_Keeper_check_nothing_wanted k : Nat} {A_Keeper : Addr} (F : Fun K "heard" "Keeper.heard" (inClass (top 11) 10) f fd) (D_Keeper_check_nothing_wanted : MtC P w K mg base (CXr P w) k_Keeper_check_nothing_wanted A_Keeper "check_nothing_wanted" ["self"] (spX K f_Keeper_check_nothing_wanted)) (h_Keeper_check_nothing_wanted : k_Keeper_check_nothing_wanted ≤ k) (fc_Keeper_answered : FldC K A_Keeper "answered") : FnOk P w K mg base (CXr P w) (k + 1) f fd ["self"] (spX K (mi_Keeper_heard f_Keeper_check_nothing_wanted A_Keeper)) := by
  unfold mi_Keeper_heard ev_Keeper_heard
  exact fn_x F sc_Keeper_heard fun cdv A outer s H E hr =>
    (ys_cons (ys_expr (y_meth0 D_Keeper_check_nothing_wanted (hr.mono h_Keeper_check_nothing_wanted) (y_up (x_var 0))))
    (yss_up (xs_one (xs_ret (x_fld fc_Keeper_answered (x_var 0))))))
end
end Law
set_option Elab.async false
set_option linter.all false
set_option maxRecDepth 100000
set_option maxHeartbeats 0
namespace Law
open PySem L2 L3
section
variable {P : Program} {w : World} {K : PySem.W.Frag} {mg : Str → Option Value} {base : Heap} {f : Addr} {fd : FuncData}
theorem sc_law_cell_at : FnScope ["script", "k"] ["script", "k"] (defScope (top 13)) := ⟨rfl, rfl, rfl, by decide +kernel, rfl, by decide +kernel, by decide +kernel⟩
noncomputable def ev_law_cell_at : SV :=
    (sSeq (sIf (vT (v2 fLt (vVar 1) (v1 fLen (vVar 0))))
      (sRet (v2 fIx (vVar 0) (vVar 1)))
      sNx)
    (sRet (vC (.int 0))))
noncomputable def mi_law_cell_at : List D → M → Option (D × M) := runF 2 2 (ev_law_cell_at)
theorem ok_law_cell_at {k : Nat} (F : Fun K "_law_cell_at" "_law_cell_at" (top 13) f fd) (m_len : mg "len" = none) : FnOk P w K mg base CX0 (k + 1) f fd ["script", "k"] (spM K (mi_law_cell_at)) := by
  unfold mi_law_cell_at ev_law_cell_at
  exact fn_m F sc_law_cell_at fun cdv A outer s H E hr =>
    (xs_cons (xs_if (x_ltT (x_var 1) (x_len m_len (x_var 0)))
      (xs_one (xs_ret (x_ix (x_var 0) (x_var 1))))
      xs_nil)
    (xs_one (xs_ret x_int)))
theorem sc_law_stir : FnScope ["cell", "k", "number"] ["cell", "k"] (defScope (top 14)) := ⟨rfl, rfl, rfl, by decide +kernel, rfl, by decide +kernel, by decide +kernel⟩
noncomputable def ev_law_stir : SV :=
    (sSeq (sAsg (v2 fPlus (v2 fPlus (v2 fMod (vVar 0) (v2 fPow (vC (.int 10)) (vC (.int 60)))) (v2 fTimes (vC (.int 3)) (vVar 1))) (vC (.int 1))) (gvName 2))
    (sRet (v2 fMod (v2 fDiv (v2 fTimesW (v2 fTimesW (vVar 2) (v2 fPlus (vVar 2) (v2 fTimes (vC (.int 2)) (vVar 1)))) (v2 fPlus (vVar 2) (vC (.int 5)))) (vC (.int 7))) (v2 fPow (vC (.int 10)) (vC (.int 40))))))
noncomputable def mi_law_stir : List D → M → Option (D × M) := runF 3 2 (ev_law_stir)
theorem ok_law_stir {k : Nat} (F : Fun K "_law_stir" "_law_stir" (top 14) f fd) : FnOk P w K mg base CX0 (k + 1) f fd ["cell", "k"] (spM K (mi_law_stir)) := by
  unfold mi_law_stir ev_law_stir
  exact fn_m F sc_law_stir fun cdv A outer s H E hr =>
    (xs_cons (xs_set (i := 2) sc_law_stir.nd rfl (Or.inl rfl) (x_plus (x_plus (x_mod (x_var 0) (x_pow x_int x_int)) (x_times x_int (x_var 1))) x_int))
    (xs_one (xs_ret (x_mod (x_fdiv (x_timesW (x_timesW (x_var 2) (x_plus (x_var 2) (x_times x_int (x_var 1)))) (x_plus (x_var 2) x_int)) x_int) (x_pow x_int x_int)))))
theorem sc_law_digit : FnScope ["cell", "k", "many"] ["cell", "k", "many"] (defScope (top 15)) := ⟨rfl, rfl, rfl, by decide +kernel, rfl, by decide +kernel, by decide +kernel⟩
noncomputable def ev_law_digit (f_law_stir : List D → M → Option (D × M)) : SV :=
    (sSeq (sIf (vT (v2 fGe (vVar 0) (v2 fPow (vC (.int 10)) (vC (.int 18)))))
      (sRet (v2 fMod (v2 fMod (v2 fShr (vVar 0) (v2 fTimes (vC (.int 16)) (vVar 1))) (vC (.int 65536))) (vVar 2)))
      sNx)
    (sRet (v2 fMod (vL f_law_stir (lCons (vVar 0) (lCons (vVar 1) lNil))) (vVar 2))))
noncomputable def mi_law_digit (f_law_stir : List D → M → Option (D × M)) : List D → M → Option (D × M) := runF 3 3 (ev_law_digit f_law_stir)
theorem ok_law_digit {f_law_stir : List D → M → Option (D × M)} {k_law_stir k : Nat} (F : Fun K "_law_digit" "_law_digit" (top 15) f fd) (D_law_stir : Df P w K mg base k_law_stir "_law_stir" ["cell", "k"] (spM K f_law_stir)) (h_law_stir : k_law_stir ≤ k) : FnOk P w K mg base CX0 (k + 1) f fd ["cell", "k", "many"] (spM K (mi_law_digit f_law_stir)) := by
  unfold mi_law_digit ev_law_digit
  exact fn_m F sc_law_digit fun cdv A outer s H E hr =>
    (xs_cons (xs_if (x_geT (x_var 0) (x_pow x_int x_int))
      (xs_one (xs_ret (x_mod (x_mod (x_shr (x_var 0) (x_times x_int (x_var 1))) x_int) (x_var 2))))
      xs_nil)
    (xs_one (xs_ret (x_mod (x_df D_law_stir (hr.mono h_law_stir) (xa_cons (x_var 0) (xa_cons (x_var 1) xa_nil))) (x_var 2)))))
theorem sc_law_class : FnScope ["e", "flags"] ["e"] (defScope (top 16)) := ⟨rfl, rfl, rfl, by decide +kernel, rfl, by decide +kernel, by decide +kernel⟩
noncomputable def ev_law_class (q_NoName : Addr → Option Bool) (q_TooMany : Addr → Option Bool) (q_NoFit : Addr → Option Bool) (q_NoThing : Addr → Option Bool) (q_NoneYet : Addr → Option Bool) (q_NoForm : Addr → Option Bool) (q_NoText : Addr → Option Bool) (q_NoAsk : Addr → Option Bool) (q_ValueError : Addr → Option Bool) : SV :=
    (sSeq (sAsg (vL fLst (lCons (v1 (fIsiX q_NoThing) (vVar 0)) (lCons (v1 (fIsiX q_NoFit) (vVar 0)) (lCons (v1 (fIsiX q_TooMany) (vVar 0)) (lCons (v1 (fIsiX q_NoName) (vVar 0)) lNil))))) (gvName 1))
    (sSeq (sAsg (v2 fPlus (vVar 1) (vL fLst (lCons (v1 (fIsiX q_NoAsk) (vVar 0)) (lCons (v1 (fIsiX q_NoText) (vVar 0)) (lCons (v1 (fIsiX q_NoForm) (vVar 0)) (lCons (v1 (fIsiX q_NoneYet) (vVar 0)) lNil)))))) (gvName 1))
    (sRet (v2 fPlus (vVar 1) (vL fLst (lCons (v1 fNot (v1 (fIsiX q_ValueError) (vVar 0))) lNil))))))
noncomputable def mi_law_class (q_NoName : Addr → Option Bool) (q_TooMany : Addr → Option Bool) (q_NoFit : Addr → Option Bool) (q_NoThing : Addr → Option Bool) (q_NoneYet : Addr → Option Bool) (q_NoForm : Addr → Option Bool) (q_NoText : Addr → Option Bool) (q_NoAsk : Addr → Option Bool) (q_ValueError : Addr → Option Bool) : List D → M → Option (D × M) := runF 2 1 (ev_law_class q_NoName q_TooMany q_NoFit q_NoThing q_NoneYet q_NoForm q_NoText q_NoAsk q_ValueError)
theorem ok_law_class {k : Nat} {D_NoName : Addr} {q_NoName : Addr → Option Bool} {D_TooMany : Addr} {q_TooMany : Addr → Option Bool} {D_NoFit : Addr} {q_NoFit : Addr → Option Bool} {D_NoThing : Addr} {q_NoThing : Addr → Option Bool} {D_NoneYet : Addr} {q_NoneYet : Addr → Option Bool} {D_NoForm : Addr} {q_NoForm : Addr → Option Bool} {D_NoText : Addr} {q_NoText : Addr → Option Bool} {D_NoAsk : Addr} {q_NoAsk : Addr → Option Bool} {q_ValueError : Addr → Option Bool} (F : Fun K "_law_class" "_law_class" (top 16) f fd) (i_NoName : mg "NoName" = some (.ref D_NoName) ∧ IsX K (.ref D_NoName) q_NoName) (i_TooMany : mg "TooMany" = some (.ref D_TooMany) ∧ IsX K (.ref D_TooMany) q_TooMany) (i_NoFit : mg "NoFit" = some (.ref D_NoFit) ∧ IsX K (.ref D_NoFit) q_NoFit) (i_NoThing : mg "NoThing" = some (.ref D_NoThing) ∧ IsX K (.ref D_NoThing) q_NoThing) (i_NoneYet : mg "NoneYet" = some (.ref D_NoneYet) ∧ IsX K (.ref D_NoneYet) q_NoneYet) (i_NoForm : mg "NoForm" = some (.ref D_NoForm) ∧ IsX K (.ref D_NoForm) q_NoForm) (i_NoText : mg "NoText" = some (.ref D_NoText) ∧ IsX K (.ref D_NoText) q_NoText) (i_NoAsk : mg "NoAsk" = some (.ref D_NoAsk) ∧ IsX K (.ref D_NoAsk) q_NoAsk) (i_ValueError : IsX K (.ty "ValueError") q_ValueError) (m_isinstance : mg "isinstance" = none) (m_ValueError : mg "ValueError" = none) : FnOkU P w K mg base CX0 (k + 1) f fd ["e"] (spM K (mi_law_class q_NoName q_TooMany q_NoFit q_NoThing q_NoneYet q_NoForm q_NoText q_NoAsk q_ValueError)) := by
  unfold mi_law_class ev_law_class
  exact fn_mU F sc_law_class fun cdv A outer s H E hr =>
    (xs_cons (xs_set (i := 1) sc_law_class.nd rfl (Or.inl rfl) (x_lst (xa_cons (x_isiX i_NoThing.2 m_isinstance (x_var 0) (pe_glob rfl i_NoThing.1 rfl (v := .ref D_NoThing))) (xa_cons (x_isiX i_NoFit.2 m_isinstance (x_var 0) (pe_glob rfl i_NoFit.1 rfl (v := .ref D_NoFit))) (xa_cons (x_isiX i_TooMany.2 m_isinstance (x_var 0) (pe_glob rfl i_TooMany.1 rfl (v := .ref D_TooMany))) (xa_cons (x_isiX i_NoName.2 m_isinstance (x_var 0) (pe_glob rfl i_NoName.1 rfl (v := .ref D_NoName))) xa_nil))))))
    (xs_cons (xs_set (i := 1) sc_law_class.nd rfl (Or.inl rfl) (x_plus (x_var 1) (x_lst (xa_cons (x_isiX i_NoAsk.2 m_isinstance (x_var 0) (pe_glob rfl i_NoAsk.1 rfl (v := .ref D_NoAsk))) (xa_cons (x_isiX i_NoText.2 m_isinstance (x_var 0) (pe_glob rfl i_NoText.1 rfl (v := .ref D_NoText))) (xa_cons (x_isiX i_NoForm.2 m_isinstance (x_var 0) (pe_glob rfl i_NoForm.1 rfl (v := .ref D_NoForm))) (xa_cons (x_isiX i_NoneYet.2 m_isinstance (x_var 0) (pe_glob rfl i_NoneYet.1 rfl (v := .ref D_NoneYet))) xa_nil)))))))
    (xs_one (xs_ret (x_plus (x_var 1) (x_lst (xa_cons (x_not (x_isiX i_ValueError m_isinstance (x_var 0) (pe_bltn rfl m_ValueError rfl (v := .ty "ValueError") rfl))) xa_nil)))))))
theorem sc_law_due : FnScope ["word", "names"] ["word"] (defScope (top 17)) := ⟨rfl, rfl, rfl, by decide +kernel, rfl, by decide +kernel, by decide +kernel⟩
theorem nd_law_due_0 : ((["name"] : List Str) ++ ([("word", 0)] : List (Str × Nat)).map (·.1)).Nodup := by decide +kernel
noncomputable def ev_law_due : SV :=
    (sSeq (sAsg (vL fLst (lCons (vC (.str "NoThing")) (lCons (vC (.str "NoFit")) (lCons (vC (.str "TooMany")) (lCons (vC (.str "NoName")) (lCons (vC (.str "NoAsk")) (lCons (vC (.str "NoText")) (lCons (vC (.str "NoForm")) (lCons (vC (.str "NoneYet")) lNil))))))))) (gvName 1))
    (sRet (v2 fPlus (vComp ["name"] [("word", 0)] (ivL (vVar 1)) (gvName 0) bYes (v2 fEq (vVar 0) (vVar 1))) (vL fLst (lCons (vC (.bl false)) lNil)))))
noncomputable def mi_law_due : List D → M → Option (D × M) := runF 2 1 (ev_law_due)
theorem ok_law_due {k : Nat} (F : Fun K "_law_due" "_law_due" (top 17) f fd) : FnOk P w K mg base CX0 (k + 1) f fd ["word"] (spM K (mi_law_due)) := by
  unfold mi_law_due ev_law_due
  exact fn_m F sc_law_due fun cdv A outer s H E hr =>
    (xs_cons (xs_set (i := 1) sc_law_due.nd rfl (Or.inl rfl) (x_lst (xa_cons x_str (xa_cons x_str (xa_cons x_str (xa_cons x_str (xa_cons x_str (xa_cons x_str (xa_cons x_str (xa_cons x_str xa_nil))))))))))
    (xs_one (xs_ret (x_plus (x_comp (own := ["name"]) (cap := [("word", 0)]) (cscope rfl) (xi_list (x_var 1))
      (fun _ _ _ _ _ => (xg_name (i := 0) nd_law_due_0 rfl (Or.inl rfl))) (fun _ _ _ _ _ => xif_nil)
      (fun _ _ _ _ _ => (x_eq hr (x_var 0) (x_var 1)))) (x_lst (xa_cons x_bl xa_nil))))))
theorem sc_law_done : FnScope ["keeper", "way", "name", "found", "e"] ["keeper", "way", "name"] (defScope (top 18)) := ⟨rfl, rfl, rfl, by decide +kernel, rfl, by decide +kernel, by decide +kernel⟩
noncomputable def ev_law_done (f_law_class : List D → M → Option (D × M)) (f_Keeper_come : FX) (f_Keeper_go : FX) (f_Keeper_hear : FX) (f_Keeper_most : FX) (f_Keeper_groups : FX) (f_Keeper_heard : FX) (A_Keeper : Addr) (cs_HalfError : List Addr) : SV :=
    (sSeq (sAsg (vC (.str "told")) (gvName 3))
    (sSeq (sTry cs_HalfError 4
      (sIfX (upB (vT (v2 fEq (vVar 1) (vC (.int 0)))))
        (sExprX (vMethX A_Keeper "come" f_Keeper_come (up (vVar 0)) (upL (lCons (vVar 2) lNil))))
        (sIfX (upB (vT (v2 fEq (vVar 1) (vC (.int 1)))))
          (sExprX (vMethX A_Keeper "go" f_Keeper_go (up (vVar 0)) (upL (lCons (vVar 2) lNil))))
          (sIfX (upB (vT (v2 fEq (vVar 1) (vC (.int 2)))))
            (sExprX (vMethX A_Keeper "hear" f_Keeper_hear (up (vVar 0)) (upL (lCons (v2 fEq (v2 fMod (vVar 2) (vC (.int 2))) (vC (.int 0))) lNil))))
            (sIfX (upB (vT (v2 fEq (vVar 1) (vC (.int 3)))))
              (sExprX (vMethX A_Keeper "most" f_Keeper_most (up (vVar 0)) (upL lNil)))
              (sIfX (upB (vT (v2 fEq (vVar 1) (vC (.int 4)))))
                (sExprX (vMethX A_Keeper "groups" f_Keeper_groups (up (vVar 0)) (upL lNil)))
                (sExprX (vMethX A_Keeper "heard" f_Keeper_heard (up (vVar 0)) (upL lNil))))))))
      (sAsg (vL f_law_class (lCons (vVar 4) lNil)) (gvName 3)))
    (sRet (vVar 3))))
noncomputable def mi_law_done (f_law_class : List D → M → Option (D × M)) (f_Keeper_come : FX) (f_Keeper_go : FX) (f_Keeper_hear : FX) (f_Keeper_most : FX) (f_Keeper_groups : FX) (f_Keeper_heard : FX) (A_Keeper : Addr) (cs_HalfError : List Addr) : List D → M → Option (D × M) := runF 5 3 (ev_law_done f_law_class f_Keeper_come f_Keeper_go f_Keeper_hear f_Keeper_most f_Keeper_groups f_Keeper_heard A_Keeper cs_HalfError)
theorem ok_law_done {f_law_class : List D → M → Option (D × M)} {f_Keeper_come f_Keeper_go f_Keeper_hear f_Keeper_most f_Keeper_groups f_Keeper_heard : FX} {k_law_class k_Keeper_come k_Keeper_go k_Keeper_hear k_Keeper_most k_Keeper_groups k_Keeper_heard k : Nat} {A_Keeper : Addr} {T_HalfError : Addr} {cs_HalfError : List Addr} (F : Fun K "_law_done" "_law_done" (top 18) f fd) (D_law_class : DfU P w K mg base k_law_class "_law_class" ["e"] (spM K f_law_class)) (h_law_class : k_law_class ≤ k) (D_Keeper_come : MtC P w K mg base (CXr P w) k_Keeper_come A_Keeper "come" ["self", "name"] (spX K f_Keeper_come)) (h_Keeper_come : k_Keeper_come ≤ k) (D_Keeper_go : MtC P w K mg base (CXr P w) k_Keeper_go A_Keeper "go" ["self", "name"] (spX K f_Keeper_go)) (h_Keeper_go : k_Keeper_go ≤ k) (D_Keeper_hear : MtC P w K mg base (CXr P w) k_Keeper_hear A_Keeper "hear" ["self", "alike"] (spX K f_Keeper_hear)) (h_Keeper_hear : k_Keeper_hear ≤ k) (D_Keeper_most : MtC P w K mg base (CXr P w) k_Keeper_most A_Keeper "most" ["self"] (spX K f_Keeper_most)) (h_Keeper_most : k_Keeper_most ≤ k) (D_Keeper_groups : MtC P w K mg base (CXr P w) k_Keeper_groups A_Keeper "groups" ["self"] (spX K f_Keeper_groups)) (h_Keeper_groups : k_Keeper_groups ≤ k) (D_Keeper_heard : MtC P w K mg base (CXr P w) k_Keeper_heard A_Keeper "heard" ["self"] (spX K f_Keeper_heard)) (h_Keeper_heard : k_Keeper_heard ≤ k) (t_HalfError : mg "HalfError" = some (.ref T_HalfError) ∧ ∀ C ∈ cs_HalfError, PySem.W.exmOne K (.ref C) (.ref T_HalfError) = some true) : FnOk P w K mg base CX0 (k + 1) f fd ["keeper", "way", "name"] (spM K (mi_law_done f_law_class f_Keeper_come f_Keeper_go f_Keeper_hear f_Keeper_most f_Keeper_groups f_Keeper_heard A_Keeper cs_HalfError)) := by
  unfold mi_law_done ev_law_done
  exact fn_m F sc_law_done fun cdv A outer s H E hr =>
    (xs_cons (xs_set (i := 3) sc_law_done.nd rfl (Or.inl rfl) x_str)
    (xs_cons (xs_try (i := 4) ⟨rfl, rfl⟩ sc_law_done.nd rfl rfl t_HalfError.1 t_HalfError.2 (fun _ _ =>
      (ys_one (ys_if (yt_up (x_eqT hr (x_var 1) x_int))
        (ys_one (ys_expr (y_meth D_Keeper_come (hr.mono h_Keeper_come) (y_up (x_var 0)) (ya_up (xa_cons (x_var 2) xa_nil)))))
        (ys_one (ys_if (yt_up (x_eqT hr (x_var 1) x_int))
          (ys_one (ys_expr (y_meth D_Keeper_go (hr.mono h_Keeper_go) (y_up (x_var 0)) (ya_up (xa_cons (x_var 2) xa_nil)))))
          (ys_one (ys_if (yt_up (x_eqT hr (x_var 1) x_int))
            (ys_one (ys_expr (y_meth D_Keeper_hear (hr.mono h_Keeper_hear) (y_up (x_var 0)) (ya_up (xa_cons (x_eq hr (x_mod (x_var 2) x_int) x_int) xa_nil)))))
            (ys_one (ys_if (yt_up (x_eqT hr (x_var 1) x_int))
              (ys_one (ys_expr (y_meth0 D_Keeper_most (hr.mono h_Keeper_most) (y_up (x_var 0)))))
              (ys_one (ys_if (yt_up (x_eqT hr (x_var 1) x_int))
                (ys_one (ys_expr (y_meth0 D_Keeper_groups (hr.mono h_Keeper_groups) (y_up (x_var 0)))))
                (ys_one (ys_expr (y_meth0 D_Keeper_heard (hr.mono h_Keeper_heard) (y_up (x_var 0)))))))))))))))) fun _ =>
      (xs_one (xs_set (i := 3) sc_law_done.nd rfl (Or.inl rfl) (x_dfU D_law_class (hr.mono h_law_class).mkd (xa_cons (x_var 4) xa_nil)))))
    (xs_one (xs_ret (x_var 3)))))
theorem sc_law_made : FnScope ["cell", "many", "keeper", "k", "one", "other"] ["cell", "many"] (defScope (top 19)) := ⟨rfl, rfl, rfl, by decide +kernel, rfl, by decide +kernel, by decide +kernel⟩
noncomputable def ev_law_made (f_Keeper___init : List D → M → Option (D × M)) (f_Keeper_come : List D → M → Option (D × M)) (f_Keeper_wants : List D → M → Option (D × M)) (f_Keeper_hear : List D → M → Option (D × M)) (f_law_digit : List D → M → Option (D × M)) (A_Keeper : Addr) : SV :=
    (sSeq (sAsg (vMake A_Keeper f_Keeper___init lNil) (gvName 2))
    (sSeq (sFor (ivR (vVar 1)) (gvName 3)
      (sSeq (sExpr (vMeth A_Keeper "come" f_Keeper_come (vVar 2) (lCons (v2 fTimes (vC (.int 10)) (vVar 3)) lNil)))
      (whileG (vT (v2 fNotN (vMeth A_Keeper "wants" f_Keeper_wants (vVar 2) lNil) (vC .non)))
        (sSeq (sAsg (vMeth A_Keeper "wants" f_Keeper_wants (vVar 2) lNil) (gvTup 2 (gvCons (gvName 4) (gvCons (gvName 5) gvNil))))
        (sExpr (vMeth A_Keeper "hear" f_Keeper_hear (vVar 2) (lCons (v2 fEq (vL f_law_digit (lCons (vVar 0) (lCons (v2 fDiv (vVar 4) (vC (.int 10))) (lCons (vC (.int 3)) lNil)))) (vL f_law_digit (lCons (vVar 0) (lCons (v2 fDiv (vVar 5) (vC (.int 10))) (lCons (vC (.int 3)) lNil))))) lNil)))) 1000000)))
    (sRet (vVar 2))))
noncomputable def mi_law_made (f_Keeper___init : List D → M → Option (D × M)) (f_Keeper_come : List D → M → Option (D × M)) (f_Keeper_wants : List D → M → Option (D × M)) (f_Keeper_hear : List D → M → Option (D × M)) (f_law_digit : List D → M → Option (D × M)) (A_Keeper : Addr) : List D → M → Option (D × M) := runF 6 2 (ev_law_made f_Keeper___init f_Keeper_come f_Keeper_wants f_Keeper_hear f_law_digit A_Keeper)
theorem ok_law_made {f_Keeper___init f_Keeper_come f_Keeper_wants f_Keeper_hear f_law_digit : List D → M → Option (D × M)} {k_Keeper___init k_Keeper_come k_Keeper_wants k_Keeper_hear k_law_digit k : Nat} {A_Keeper : Addr} (F : Fun K "_law_made" "_law_made" (top 19) f fd) (D_Keeper___init : MkC P w K mg base CX0 k_Keeper___init A_Keeper "Keeper" ["self"] (spM K f_Keeper___init)) (h_Keeper___init : k_Keeper___init + 1 ≤ k) (D_Keeper_come : MtC P w K mg base CX0 k_Keeper_come A_Keeper "come" ["self", "name"] (spM K f_Keeper_come)) (h_Keeper_come : k_Keeper_come ≤ k) (D_Keeper_wants : MtC P w K mg base CX0 k_Keeper_wants A_Keeper "wants" ["self"] (spM K f_Keeper_wants)) (h_Keeper_wants : k_Keeper_wants ≤ k) (D_Keeper_hear : MtC P w K mg base CX0 k_Keeper_hear A_Keeper "hear" ["self", "alike"] (spM K f_Keeper_hear)) (h_Keeper_hear : k_Keeper_hear ≤ k) (D_law_digit : Df P w K mg base k_law_digit "_law_digit" ["cell", "k", "many"] (spM K f_law_digit)) (h_law_digit : k_law_digit ≤ k) (m_range : mg "range" = none) : FnOk P w K mg base CX0 (k + 1) f fd ["cell", "many"] (spM K (mi_law_made f_Keeper___init f_Keeper_come f_Keeper_wants f_Keeper_hear f_law_digit A_Keeper)) := by
  unfold mi_law_made ev_law_made
  exact fn_m F sc_law_made fun cdv A outer s H E hr =>
    (xs_cons (xs_set (i := 2) sc_law_made.nd rfl (Or.inl rfl) (x_make0 D_Keeper___init (hr.mono h_Keeper___init)))
    (xs_cons (xs_for PassesOwn.never rfl (xi_range m_range (x_var 1)) (xg_name (i := 3) sc_law_made.nd rfl (Or.inl rfl))
      (xs_cons (xs_expr (x_meth D_Keeper_come (hr.mono h_Keeper_come) (x_var 2) (xa_cons (x_times x_int (x_var 3)) xa_nil)))
      (xs_one (xs_while 1000000 PassesOwn.never (x_notNT (x_meth0 D_Keeper_wants (hr.mono h_Keeper_wants) (x_var 2)) x_non)
        (xs_cons (xs_asg (x_meth0 D_Keeper_wants (hr.mono h_Keeper_wants) (x_var 2)) (xg_tup (n := 2) (xgs_cons (xg_name (i := 4) sc_law_made.nd rfl (Or.inl rfl)) (xgs_cons (xg_name (i := 5) sc_law_made.nd rfl (Or.inl rfl)) xgs_nil))))
        (xs_one (xs_expr (x_meth D_Keeper_hear (hr.mono h_Keeper_hear) (x_var 2) (xa_cons (x_eq hr (x_df D_law_digit (hr.mono h_law_digit) (xa_cons (x_var 0) (xa_cons (x_fdiv (x_var 4) x_int) (xa_cons x_int xa_nil)))) (x_df D_law_digit (hr.mono h_law_digit) (xa_cons (x_var 0) (xa_cons (x_fdiv (x_var 5) x_int) (xa_cons x_int xa_nil))))) xa_nil)))))))))
    (xs_one (xs_ret (x_var 2)))))
theorem sc_law_idle_good : FnScope ["keeper", "script", "many", "ahead", "k", "other"] ["keeper", "script", "many", "ahead"] (defScope (top 20)) := ⟨rfl, rfl, rfl, by decide +kernel, rfl, by decide +kernel, by decide +kernel⟩
noncomputable def ev_law_idle_good (f_law_cell_at : List D → M → Option (D × M)) (f_law_digit : List D → M → Option (D × M)) (f_law_done : List D → M → Option (D × M)) (f_law_due : List D → M → Option (D × M)) (f_Keeper_heard : List D → M → Option (D × M)) (f_Keeper_groups : List D → M → Option (D × M)) (f_Keeper_most : List D → M → Option (D × M)) (f_Keeper_wants : List D → M → Option (D × M)) (A_Keeper : Addr) : SV :=
    (sSeq (sFor (ivR (vC (.int 6))) (gvName 4)
      (sSeq (sAsg (vL f_law_cell_at (lCons (vVar 1) (lCons (v2 fPlus (vC (.int 1)) (vVar 4)) lNil))) (gvName 5))
      (sSeq (sIf (vT (v2 fNe (vL f_law_done (lCons (vVar 0) (lCons (vC (.int 2)) (lCons (vL f_law_digit (lCons (vVar 5) (lCons (vC (.int 0)) (lCons (vC (.int 2)) lNil)))) lNil)))) (vL f_law_due (lCons (vC (.str "NoAsk")) lNil))))
        (sRet (vC (.bl false)))
        sNx)
      (sSeq (sIf (bAnd (vT (v2 fGt (vVar 2) (vC (.int 0)))) (vT (v2 fNe (vL f_law_done (lCons (vVar 0) (lCons (vC (.int 0)) (lCons (v2 fTimes (vC (.int 10)) (vL f_law_digit (lCons (vVar 5) (lCons (vC (.int 1)) (lCons (vVar 2) lNil))))) lNil)))) (vL f_law_due (lCons (vC (.str "NoName")) lNil)))))
        (sRet (vC (.bl false)))
        sNx)
      (sSeq (sIf (vT (v2 fNe (vL f_law_done (lCons (vVar 0) (lCons (vC (.int 1)) (lCons (v2 fIx (vL fLst (lCons (vC (.int 5)) (lCons (v1 fNeg (vC (.int 10))) (lCons (v2 fTimes (vC (.int 10)) (vVar 2)) (lCons (v2 fPow (vC (.int 10)) (vC (.int 20))) lNil))))) (vL f_law_digit (lCons (vVar 5) (lCons (vC (.int 2)) (lCons (vC (.int 4)) lNil))))) lNil)))) (vL f_law_due (lCons (vC (.str "NoName")) lNil))))
        (sRet (vC (.bl false)))
        sNx)
      (sIf (bOr (vT (v2 fNe (vL fLst (lCons (vMeth A_Keeper "most" f_Keeper_most (vVar 0) lNil) (lCons (vMeth A_Keeper "groups" f_Keeper_groups (vVar 0) lNil) (lCons (vMeth A_Keeper "heard" f_Keeper_heard (vVar 0) lNil) lNil)))) (vVar 3))) (vT (v2 fNotN (vMeth A_Keeper "wants" f_Keeper_wants (vVar 0) lNil) (vC .non))))
        (sRet (vC (.bl false)))
        sNx))))))
    (sRet (vC (.bl true))))
noncomputable def mi_law_idle_good (f_law_cell_at : List D → M → Option (D × M)) (f_law_digit : List D → M → Option (D × M)) (f_law_done : List D → M → Option (D × M)) (f_law_due : List D → M → Option (D × M)) (f_Keeper_heard : List D → M → Option (D × M)) (f_Keeper_groups : List D → M → Option (D × M)) (f_Keeper_most : List D → M → Option (D × M)) (f_Keeper_wants : List D → M → Option (D × M)) (A_Keeper : Addr) : List D → M → Option (D × M) := runF 6 4 (ev_law_idle_good f_law_cell_at f_law_digit f_law_done f_law_due f_Keeper_heard f_Keeper_groups f_Keeper_most f_Keeper_wants A_Keeper)
theorem ok_law_idle_good {f_law_cell_at f_law_digit f_law_done f_law_due f_Keeper_heard f_Keeper_groups f_Keeper_most f_Keeper_wants : List D → M → Option (D × M)} {k_law_cell_at k_law_digit k_law_done k_law_due k_Keeper_heard k_Keeper_groups k_Keeper_most k_Keeper_wants k : Nat} {A_Keeper : Addr} (F : Fun K "_law_idle_good" "_law_idle_good" (top 20) f fd) (D_law_cell_at : Df P w K mg base k_law_cell_at "_law_cell_at" ["script", "k"] (spM K f_law_cell_at)) (h_law_cell_at : k_law_cell_at ≤ k) (D_law_digit : Df P w K mg base k_law_digit "_law_digit" ["cell", "k", "many"] (spM K f_law_digit)) (h_law_digit : k_law_digit ≤ k) (D_law_done : Df P w K mg base k_law_done "_law_done" ["keeper", "way", "name"] (spM K f_law_done)) (h_law_done : k_law_done ≤ k) (D_law_due : Df P w K mg base k_law_due "_law_due" ["word"] (spM K f_law_due)) (h_law_due : k_law_due ≤ k) (D_Keeper_heard : MtC P w K mg base CX0 k_Keeper_heard A_Keeper "heard" ["self"] (spM K f_Keeper_heard)) (h_Keeper_heard : k_Keeper_heard ≤ k) (D_Keeper_groups : MtC P w K mg base CX0 k_Keeper_groups A_Keeper "groups" ["self"] (spM K f_Keeper_groups)) (h_Keeper_groups : k_Keeper_groups ≤ k) (D_Keeper_most : MtC P w K mg base CX0 k_Keeper_most A_Keeper "most" ["self"] (spM K f_Keeper_most)) (h_Keeper_most : k_Keeper_most ≤ k) (D_Keeper_wants : MtC P w K mg base CX0 k_Keeper_wants A_Keeper "wants" ["self"] (spM K f_Keeper_wants)) (h_Keeper_wants : k_Keeper_wants ≤ k) (m_range : mg "range" = none) : FnOk P w K mg base CX0 (k + 1) f fd ["keeper", "script", "many", "ahead"] (spM K (mi_law_idle_good f_law_cell_at f_law_digit f_law_done f_law_due f_Keeper_heard f_Keeper_groups f_Keeper_most f_Keeper_wants A_Keeper)) := by
  unfold mi_law_idle_good ev_law_idle_good
  exact fn_m F sc_law_idle_good fun cdv A outer s H E hr =>
    (xs_cons (xs_for PassesOwn.never rfl (xi_range m_range x_int) (xg_name (i := 4) sc_law_idle_good.nd rfl (Or.inl rfl))
      (xs_cons (xs_set (i := 5) sc_law_idle_good.nd rfl (Or.inl rfl) (x_df D_law_cell_at (hr.mono h_law_cell_at) (xa_cons (x_var 1) (xa_cons (x_plus x_int (x_var 4)) xa_nil))))
      (xs_cons (xs_if (x_neT hr (x_df D_law_done (hr.mono h_law_done) (xa_cons (x_var 0) (xa_cons x_int (xa_cons (x_df D_law_digit (hr.mono h_law_digit) (xa_cons (x_var 5) (xa_cons x_int (xa_cons x_int xa_nil)))) xa_nil)))) (x_df D_law_due (hr.mono h_law_due) (xa_cons x_str xa_nil)))
        (xs_one (xs_ret x_bl))
        xs_nil)
      (xs_cons (xs_if (PW.pt (xw_and (x_gtT (x_var 2) x_int) (xw_and1 (x_neT hr (x_df D_law_done (hr.mono h_law_done) (xa_cons (x_var 0) (xa_cons x_int (xa_cons (x_times x_int (x_df D_law_digit (hr.mono h_law_digit) (xa_cons (x_var 5) (xa_cons x_int (xa_cons (x_var 2) xa_nil))))) xa_nil)))) (x_df D_law_due (hr.mono h_law_due) (xa_cons x_str xa_nil))))))
        (xs_one (xs_ret x_bl))
        xs_nil)
      (xs_cons (xs_if (x_neT hr (x_df D_law_done (hr.mono h_law_done) (xa_cons (x_var 0) (xa_cons x_int (xa_cons (x_ix (x_lst (xa_cons x_int (xa_cons (x_neg x_int) (xa_cons (x_times x_int (x_var 2)) (xa_cons (x_pow x_int x_int) xa_nil))))) (x_df D_law_digit (hr.mono h_law_digit) (xa_cons (x_var 5) (xa_cons x_int (xa_cons x_int xa_nil))))) xa_nil)))) (x_df D_law_due (hr.mono h_law_due) (xa_cons x_str xa_nil)))
        (xs_one (xs_ret x_bl))
        xs_nil)
      (xs_one (xs_if (PW.pt (xw_or (x_neT hr (x_lst (xa_cons (x_meth0 D_Keeper_most (hr.mono h_Keeper_most) (x_var 0)) (xa_cons (x_meth0 D_Keeper_groups (hr.mono h_Keeper_groups) (x_var 0)) (xa_cons (x_meth0 D_Keeper_heard (hr.mono h_Keeper_heard) (x_var 0)) xa_nil)))) (x_var 3)) (xw_or1 (x_notNT (x_meth0 D_Keeper_wants (hr.mono h_Keeper_wants) (x_var 0)) x_non))))
        (xs_one (xs_ret x_bl))
        xs_nil)))))))
    (xs_one (xs_ret x_bl)))
theorem sc_law : FnScope ["script", "cell", "many", "keeper", "ahead", "beside", "wants", "k", "other", "way", "name", "due"] ["script"] (defScope (top 21)) := ⟨rfl, rfl, rfl, by decide +kernel, rfl, by decide +kernel, by decide +kernel⟩
noncomputable def ev_law (f_law_cell_at : List D → M → Option (D × M)) (f_law_digit : List D → M → Option (D × M)) (f_law_made : List D → M → Option (D × M)) (f_Keeper_come : List D → M → Option (D × M)) (f_Keeper_wants : List D → M → Option (D × M)) (f_Keeper_hear : List D → M → Option (D × M)) (f_Keeper_go : List D → M → Option (D × M)) (f_Keeper_heard : List D → M → Option (D × M)) (f_Keeper_groups : List D → M → Option (D × M)) (f_Keeper_most : List D → M → Option (D × M)) (f_law_idle_good : List D → M → Option (D × M)) (f_Keeper___init : List D → M → Option (D × M)) (f_law_done : List D → M → Option (D × M)) (f_law_due : List D → M → Option (D × M)) (A_Keeper : Addr) : SV :=
    (sSeq (sAsg (vL f_law_cell_at (lCons (vVar 0) (lCons (vC (.int 0)) lNil))) (gvName 1))
    (sSeq (sAsg (vL f_law_digit (lCons (vVar 1) (lCons (vC (.int 20)) (lCons (vC (.int 7)) lNil)))) (gvName 2))
    (sSeq (sAsg (vL f_law_made (lCons (vVar 1) (lCons (vVar 2) lNil))) (gvName 3))
    (sSeq (sExpr (vMeth A_Keeper "come" f_Keeper_come (vVar 3) (lCons (vC (.int 5)) lNil)))
    (sSeq (whileG (vT (v2 fNotN (vMeth A_Keeper "wants" f_Keeper_wants (vVar 3) lNil) (vC .non)))
      (sExpr (vMeth A_Keeper "hear" f_Keeper_hear (vVar 3) (lCons (vC (.bl false)) lNil))) 1000000)
    (sSeq (sExpr (vMeth A_Keeper "go" f_Keeper_go (vVar 3) (lCons (vC (.int 5)) lNil)))
    (sSeq (sAsg (vL fLst (lCons (vMeth A_Keeper "most" f_Keeper_most (vVar 3) lNil) (lCons (vMeth A_Keeper "groups" f_Keeper_groups (vVar 3) lNil) (lCons (vMeth A_Keeper "heard" f_Keeper_heard (vVar 3) lNil) lNil)))) (gvName 4))
    (sSeq (sIf (bNot (bTru (vL f_law_idle_good (lCons (vVar 3) (lCons (vVar 0) (lCons (vVar 2) (lCons (vVar 4) lNil)))))))
      (sRet (vC (.bl false)))
      sNx)
    (sSeq (sIf (vT (v2 fEq (vVar 2) (vC (.int 0))))
      (sRet (vAnd (v2 fIsN (vMeth A_Keeper "wants" f_Keeper_wants (vVar 3) lNil) (vC .non)) (v2 fEq (vVar 4) (vL fLst (lCons (vL fLst lNil) (lCons (vC (.int 0)) (lCons (vC (.int 0)) lNil)))))))
      sNx)
    (sSeq (sAsg (vMake A_Keeper f_Keeper___init lNil) (gvName 5))
    (sSeq (sExpr (vMeth A_Keeper "come" f_Keeper_come (vVar 5) (lCons (vC (.int 1)) lNil)))
    (sSeq (sExpr (vMeth A_Keeper "come" f_Keeper_come (vVar 5) (lCons (vC (.int 2)) lNil)))
    (sSeq (sExpr (vMeth A_Keeper "come" f_Keeper_come (vVar 3) (lCons (v2 fTimes (vC (.int 10)) (vVar 2)) lNil)))
    (sSeq (sAsg (vMeth A_Keeper "wants" f_Keeper_wants (vVar 3) lNil) (gvName 6))
    (sSeq (sIf (vT (v2 fNe (vVar 6) (vL fTup (lCons (vC (.int 0)) (lCons (v2 fTimes (vC (.int 10)) (vVar 2)) lNil)))))
      (sRet (vC (.bl false)))
      sNx)
    (sSeq (sFor (ivR (vC (.int 8))) (gvName 7)
      (sSeq (sAsg (vL f_law_cell_at (lCons (vVar 0) (lCons (v2 fPlus (vC (.int 1)) (vVar 7)) lNil))) (gvName 8))
      (sSeq (sAsg (v2 fIx (vL fLst (lCons (vC (.int 0)) (lCons (vC (.int 1)) (lCons (vC (.int 3)) (lCons (vC (.int 4)) (lCons (vC (.int 5)) lNil)))))) (vL f_law_digit (lCons (vVar 8) (lCons (vC (.int 3)) (lCons (vC (.int 5)) lNil))))) (gvName 9))
      (sSeq (sAsg (v2 fIx (vL fLst (lCons (vC (.int 0)) (lCons (v2 fTimes (vC (.int 10)) (vVar 2)) (lCons (vC (.int 7)) (lCons (v1 fNeg (vC (.int 1))) lNil))))) (vL f_law_digit (lCons (vVar 8) (lCons (vC (.int 4)) (lCons (vC (.int 4)) lNil))))) (gvName 10))
      (sIf (bOr (vT (v2 fNe (vL f_law_done (lCons (vVar 3) (lCons (vVar 9) (lCons (vVar 10) lNil)))) (vL f_law_due (lCons (vC (.str "NoAsk")) lNil)))) (vT (v2 fNe (vMeth A_Keeper "wants" f_Keeper_wants (vVar 3) lNil) (vVar 6))))
        (sRet (vC (.bl false)))
        sNx)))))
    (sSeq (sExpr (vMeth A_Keeper "hear" f_Keeper_hear (vVar 3) (lCons (vC (.bl true)) lNil)))
    (sSeq (sAsg (vL fLst (lCons (vMeth A_Keeper "groups" f_Keeper_groups (vVar 3) lNil) (lCons (vMeth A_Keeper "heard" f_Keeper_heard (vVar 3) lNil) lNil))) (gvName 11))
    (sSeq (sIf (bOr (vT (v2 fNotN (vMeth A_Keeper "wants" f_Keeper_wants (vVar 3) lNil) (vC .non))) (bOr (vT (v2 fNe (vVar 11) (vL fLst (lCons (v2 fIx (vVar 4) (vC (.int 1))) (lCons (v2 fPlus (v2 fIx (vVar 4) (vC (.int 2))) (vC (.int 1))) lNil))))) (vT (v2 fNe (vMeth A_Keeper "wants" f_Keeper_wants (vVar 5) lNil) (vL fTup (lCons (vC (.int 1)) (lCons (vC (.int 2)) lNil)))))))
      (sRet (vC (.bl false)))
      sNx)
    (sSeq (sExpr (vMeth A_Keeper "hear" f_Keeper_hear (vVar 5) (lCons (vC (.bl false)) lNil)))
    (sRet (vAnd (v2 fEq (vL fLst (lCons (vMeth A_Keeper "groups" f_Keeper_groups (vVar 5) lNil) (lCons (vMeth A_Keeper "heard" f_Keeper_heard (vVar 5) lNil) lNil))) (vL fLst (lCons (vC (.int 2)) (lCons (vC (.int 1)) lNil)))) (v2 fEq (vMeth A_Keeper "groups" f_Keeper_groups (vVar 3) lNil) (v2 fIx (vVar 11) (vC (.int 0))))))))))))))))))))))))))
noncomputable def mi_law (f_law_cell_at : List D → M → Option (D × M)) (f_law_digit : List D → M → Option (D × M)) (f_law_made : List D → M → Option (D × M)) (f_Keeper_come : List D → M → Option (D × M)) (f_Keeper_wants : List D → M → Option (D × M)) (f_Keeper_hear : List D → M → Option (D × M)) (f_Keeper_go : List D → M → Option (D × M)) (f_Keeper_heard : List D → M → Option (D × M)) (f_Keeper_groups : List D → M → Option (D × M)) (f_Keeper_most : List D → M → Option (D × M)) (f_law_idle_good : List D → M → Option (D × M)) (f_Keeper___init : List D → M → Option (D × M)) (f_law_done : List D → M → Option (D × M)) (f_law_due : List D → M → Option (D × M)) (A_Keeper : Addr) : List D → M → Option (D × M) := runF 12 1 (ev_law f_law_cell_at f_law_digit f_law_made f_Keeper_come f_Keeper_wants f_Keeper_hear f_Keeper_go f_Keeper_heard f_Keeper_groups f_Keeper_most f_law_idle_good f_Keeper___init f_law_done f_law_due A_Keeper)
theorem ok_law {f_law_cell_at f_law_digit f_law_made f_Keeper_come f_Keeper_wants f_Keeper_hear f_Keeper_go f_Keeper_heard f_Keeper_groups f_Keeper_most f_law_idle_good f_Keeper___init f_law_done f_law_due : List D → M → Option (D × M)} {k_law_cell_at k_law_digit k_law_made k_Keeper_come k_Keeper_wants k_Keeper_hear k_Keeper_go k_Keeper_heard k_Keeper_groups k_Keeper_most k_law_idle_good k_Keeper___init k_law_done k_law_due k : Nat} {A_Keeper : Addr} (F : Fun K "law" "law" (top 21) f fd) (D_law_cell_at : Df P w K mg base k_law_cell_at "_law_cell_at" ["script", "k"] (spM K f_law_cell_at)) (h_law_cell_at : k_law_cell_at ≤ k) (D_law_digit : Df P w K mg base k_law_digit "_law_digit" ["cell", "k", "many"] (spM K f_law_digit)) (h_law_digit : k_law_digit ≤ k) (D_law_made : Df P w K mg base k_law_made "_law_made" ["cell", "many"] (spM K f_law_made)) (h_law_made : k_law_made ≤ k) (D_Keeper_come : MtC P w K mg base CX0 k_Keeper_come A_Keeper "come" ["self", "name"] (spM K f_Keeper_come)) (h_Keeper_come : k_Keeper_come ≤ k) (D_Keeper_wants : MtC P w K mg base CX0 k_Keeper_wants A_Keeper "wants" ["self"] (spM K f_Keeper_wants)) (h_Keeper_wants : k_Keeper_wants ≤ k) (D_Keeper_hear : MtC P w K mg base CX0 k_Keeper_hear A_Keeper "hear" ["self", "alike"] (spM K f_Keeper_hear)) (h_Keeper_hear : k_Keeper_hear ≤ k) (D_Keeper_go : MtC P w K mg base CX0 k_Keeper_go A_Keeper "go" ["self", "name"] (spM K f_Keeper_go)) (h_Keeper_go : k_Keeper_go ≤ k) (D_Keeper_heard : MtC P w K mg base CX0 k_Keeper_heard A_Keeper "heard" ["self"] (spM K f_Keeper_heard)) (h_Keeper_heard : k_Keeper_heard ≤ k) (D_Keeper_groups : MtC P w K mg base CX0 k_Keeper_groups A_Keeper "groups" ["self"] (spM K f_Keeper_groups)) (h_Keeper_groups : k_Keeper_groups ≤ k) (D_Keeper_most : MtC P w K mg base CX0 k_Keeper_most A_Keeper "most" ["self"] (spM K f_Keeper_most)) (h_Keeper_most : k_Keeper_most ≤ k) (D_law_idle_good : Df P w K mg base k_law_idle_good "_law_idle_good" ["keeper", "script", "many", "ahead"] (spM K f_law_idle_good)) (h_law_idle_good : k_law_idle_good ≤ k) (D_Keeper___init : MkC P w K mg base CX0 k_Keeper___init A_Keeper "Keeper" ["self"] (spM K f_Keeper___init)) (h_Keeper___init : k_Keeper___init + 1 ≤ k) (D_law_done : Df P w K mg base k_law_done "_law_done" ["keeper", "way", "name"] (spM K f_law_done)) (h_law_done : k_law_done ≤ k) (D_law_due : Df P w K mg base k_law_due "_law_due" ["word"] (spM K f_law_due)) (h_law_due : k_law_due ≤ k) (m_range : mg "range" = none) : FnOk P w K mg base CX0 (k + 1) f fd ["script"] (spM K (mi_law f_law_cell_at f_law_digit f_law_made f_Keeper_come f_Keeper_wants f_Keeper_hear f_Keeper_go f_Keeper_heard f_Keeper_groups f_Keeper_most f_law_idle_good f_Keeper___init f_law_done f_law_due A_Keeper)) := by
  unfold mi_law ev_law
  exact fn_m F sc_law fun cdv A outer s H E hr =>
    (xs_cons (xs_set (i := 1) sc_law.nd rfl (Or.inl rfl) (x_df D_law_cell_at (hr.mono h_law_cell_at) (xa_cons (x_var 0) (xa_cons x_int xa_nil))))
    (xs_cons (xs_set (i := 2) sc_law.nd rfl (Or.inl rfl) (x_df D_law_digit (hr.mono h_law_digit) (xa_cons (x_var 1) (xa_cons x_int (xa_cons x_int xa_nil)))))
    (xs_cons (xs_set (i := 3) sc_law.nd rfl (Or.inl rfl) (x_df D_law_made (hr.mono h_law_made) (xa_cons (x_var 1) (xa_cons (x_var 2) xa_nil))))
    (xs_cons (xs_expr (x_meth D_Keeper_come (hr.mono h_Keeper_come) (x_var 3) (xa_cons x_int xa_nil)))
    (xs_cons (xs_while 1000000 PassesOwn.never (x_notNT (x_meth0 D_Keeper_wants (hr.mono h_Keeper_wants) (x_var 3)) x_non)
      (xs_one (xs_expr (x_meth D_Keeper_hear (hr.mono h_Keeper_hear) (x_var 3) (xa_cons x_bl xa_nil)))))
    (xs_cons (xs_expr (x_meth D_Keeper_go (hr.mono h_Keeper_go) (x_var 3) (xa_cons x_int xa_nil)))
    (xs_cons (xs_set (i := 4) sc_law.nd rfl (Or.inl rfl) (x_lst (xa_cons (x_meth0 D_Keeper_most (hr.mono h_Keeper_most) (x_var 3)) (xa_cons (x_meth0 D_Keeper_groups (hr.mono h_Keeper_groups) (x_var 3)) (xa_cons (x_meth0 D_Keeper_heard (hr.mono h_Keeper_heard) (x_var 3)) xa_nil)))))
    (xs_cons (xs_if (x_notT (x_truth (x_df D_law_idle_good (hr.mono h_law_idle_good) (xa_cons (x_var 3) (xa_cons (x_var 0) (xa_cons (x_var 2) (xa_cons (x_var 4) xa_nil)))))))
      (xs_one (xs_ret x_bl))
      xs_nil)
    (xs_cons (xs_if (x_eqT hr (x_var 2) x_int)
      (xs_one (xs_ret (x_and (x_isN (x_meth0 D_Keeper_wants (hr.mono h_Keeper_wants) (x_var 3)) x_non) (x_one (x_eq hr (x_var 4) (x_lst (xa_cons (x_lst xa_nil) (xa_cons x_int (xa_cons x_int xa_nil)))))))))
      xs_nil)
    (xs_cons (xs_set (i := 5) sc_law.nd rfl (Or.inl rfl) (x_make0 D_Keeper___init (hr.mono h_Keeper___init)))
    (xs_cons (xs_expr (x_meth D_Keeper_come (hr.mono h_Keeper_come) (x_var 5) (xa_cons x_int xa_nil)))
    (xs_cons (xs_expr (x_meth D_Keeper_come (hr.mono h_Keeper_come) (x_var 5) (xa_cons x_int xa_nil)))
    (xs_cons (xs_expr (x_meth D_Keeper_come (hr.mono h_Keeper_come) (x_var 3) (xa_cons (x_times x_int (x_var 2)) xa_nil)))
    (xs_cons (xs_set (i := 6) sc_law.nd rfl (Or.inl rfl) (x_meth0 D_Keeper_wants (hr.mono h_Keeper_wants) (x_var 3)))
    (xs_cons (xs_if (x_neT hr (x_var 6) (x_tup (xa_cons x_int (xa_cons (x_times x_int (x_var 2)) xa_nil))))
      (xs_one (xs_ret x_bl))
      xs_nil)
    (xs_cons (xs_for PassesOwn.never rfl (xi_range m_range x_int) (xg_name (i := 7) sc_law.nd rfl (Or.inl rfl))
      (xs_cons (xs_set (i := 8) sc_law.nd rfl (Or.inl rfl) (x_df D_law_cell_at (hr.mono h_law_cell_at) (xa_cons (x_var 0) (xa_cons (x_plus x_int (x_var 7)) xa_nil))))
      (xs_cons (xs_set (i := 9) sc_law.nd rfl (Or.inl rfl) (x_ix (x_lst (xa_cons x_int (xa_cons x_int (xa_cons x_int (xa_cons x_int (xa_cons x_int xa_nil)))))) (x_df D_law_digit (hr.mono h_law_digit) (xa_cons (x_var 8) (xa_cons x_int (xa_cons x_int xa_nil))))))
      (xs_cons (xs_set (i := 10) sc_law.nd rfl (Or.inl rfl) (x_ix (x_lst (xa_cons x_int (xa_cons (x_times x_int (x_var 2)) (xa_cons x_int (xa_cons (x_neg x_int) xa_nil))))) (x_df D_law_digit (hr.mono h_law_digit) (xa_cons (x_var 8) (xa_cons x_int (xa_cons x_int xa_nil))))))
      (xs_one (xs_if (PW.pt (xw_or (x_neT hr (x_df D_law_done (hr.mono h_law_done) (xa_cons (x_var 3) (xa_cons (x_var 9) (xa_cons (x_var 10) xa_nil)))) (x_df D_law_due (hr.mono h_law_due) (xa_cons x_str xa_nil))) (xw_or1 (x_neT hr (x_meth0 D_Keeper_wants (hr.mono h_Keeper_wants) (x_var 3)) (x_var 6)))))
        (xs_one (xs_ret x_bl))
        xs_nil))))))
    (xs_cons (xs_expr (x_meth D_Keeper_hear (hr.mono h_Keeper_hear) (x_var 3) (xa_cons x_bl xa_nil)))
    (xs_cons (xs_set (i := 11) sc_law.nd rfl (Or.inl rfl) (x_lst (xa_cons (x_meth0 D_Keeper_groups (hr.mono h_Keeper_groups) (x_var 3)) (xa_cons (x_meth0 D_Keeper_heard (hr.mono h_Keeper_heard) (x_var 3)) xa_nil))))
    (xs_cons (xs_if (PW.pt (xw_or (x_notNT (x_meth0 D_Keeper_wants (hr.mono h_Keeper_wants) (x_var 3)) x_non) (xw_or (x_neT hr (x_var 11) (x_lst (xa_cons (x_ix (x_var 4) x_int) (xa_cons (x_plus (x_ix (x_var 4) x_int) x_int) xa_nil)))) (xw_or1 (x_neT hr (x_meth0 D_Keeper_wants (hr.mono h_Keeper_wants) (x_var 5)) (x_tup (xa_cons x_int (xa_cons x_int xa_nil))))))))
      (xs_one (xs_ret x_bl))
      xs_nil)
    (xs_cons (xs_expr (x_meth D_Keeper_hear (hr.mono h_Keeper_hear) (x_var 5) (xa_cons x_bl xa_nil)))
    (xs_one (xs_ret (x_and (x_eq hr (x_lst (xa_cons (x_meth0 D_Keeper_groups (hr.mono h_Keeper_groups) (x_var 5)) (xa_cons (x_meth0 D_Keeper_heard (hr.mono h_Keeper_heard) (x_var 5)) xa_nil))) (x_lst (xa_cons x_int (xa_cons x_int xa_nil)))) (x_one (x_eq hr (x_meth0 D_Keeper_groups (hr.mono h_Keeper_groups) (x_var 3)) (x_ix (x_var 11) x_int))))))))))))))))))))))))))
end
end Law
set_option Elab.async false
set_option linter.all false
set_option maxRecDepth 100000
set_option maxHeartbeats 0
namespace Law
open PySem L2 L3
theorem q1 : (("coming" : Str) == "kept") = false := by decide +kernel
theorem q2 : (("passed" : Str) == "kept") = false := by decide +kernel
theorem q3 : (("answered" : Str) == "kept") = false := by decide +kernel
theorem q4 : (("passed" : Str) == "coming") = false := by decide +kernel
theorem q5 : (("answered" : Str) == "coming") = false := by decide +kernel
theorem q6 : (("answered" : Str) == "passed") = false := by decide +kernel
def fl (r : Nat) (c : D) (p n : Int) : List (Str × D) := [("kept", .ref r), ("coming", c), ("passed", .int p), ("answered", .int n)]
section
variable {r : Nat} {c d : D} {p n : Int}
theorem fl_kept : (fl r c p n).lookup ("kept" : Str) = some (.ref r) := by simp [fl, List.lookup]
theorem fl_coming : (fl r c p n).lookup ("coming" : Str) = some c := by simp [fl, List.lookup, q1]
theorem fl_passed : (fl r c p n).lookup ("passed" : Str) = some (.int p) := by simp [fl, List.lookup, q2, q4]
theorem fl_answered : (fl r c p n).lookup ("answered" : Str) = some (.int n) := by simp [fl, List.lookup, q3, q5, q6]
theorem ne_of_beq {a b : Str} (h : (a == b) = false) : ¬ b = a := fun e => by rw [e] at h; simp at h
theorem pu_kept {s : Nat} : putFD "kept" (.ref s) (fl r c p n) = fl s c p n := by simp [fl, putFD]
theorem pu_coming : putFD "coming" d (fl r c p n) = fl r d p n := by simp [fl, putFD, ne_of_beq q1]
theorem pu_passed {m : Int} : putFD "passed" (.int m) (fl r c p n) = fl r c m n := by simp [fl, putFD, ne_of_beq q2, ne_of_beq q4]
theorem pu_answered {m : Int} : putFD "answered" (.int m) (fl r c p n) = fl r c p m := by simp [fl, putFD, ne_of_beq q3, ne_of_beq q5, ne_of_beq q6]
end
theorem no_m {x : Str} {r : Nat} {c : D} {p n : Int} (h1 : (x == "kept") = false) (h2 : (x == "coming") = false) (h3 : (x == "passed") = false) (h4 : (x == "answered") = false) : (fl r c p n).lookup x = none := by simp [fl, List.lookup, h1, h2, h3, h4]
theorem fl_len {r : Nat} {c : D} {p n : Int} : (fl r c p n).length = 4 := rfl
abbrev Ps := List (Nat × List Int)
def rf (ps : Ps) : List D := ps.map fun e => D.ref e.1
def ft (r : Nat) (ps : Ps) : List Nat := r :: ps.map (·.1)
structure Rw (μ : M) (r : Nat) (ps : Ps) : Prop where
  li : μ[r]? = some (some (.lst (rf ps)))
  at_ : ∀ e ∈ ps, μ[e.1]? = some (some (.lst (e.2.map D.int)))
  nd : (ft r ps).Nodup
structure Kr (A : Addr) (μ : M) (k r : Nat) (ps : Ps) (c : D) (p n : Int) : Prop where
  ob : μ[k]? = some (some (.ins A (fl r c p n)))
  rw : Rw μ r ps
  nk : k ∉ ft r ps
structure Fr (F : List Nat) (μ μ' : M) : Prop where
  len : μ.length ≤ μ'.length
  at_ : ∀ j, j < μ.length → j ∉ F → μ'[j]? = μ[j]?
theorem Fr.refl {F : List Nat} {μ : M} : Fr F μ μ := ⟨Nat.le_refl _, fun _ _ _ => rfl⟩
theorem Fr.get {F : List Nat} {μ μ' : M} {j : Nat} {o : Option O} (h : Fr F μ μ') (e : μ[j]? = some o) (n : j ∉ F) : μ'[j]? = some o := (h.at_ j (List.getElem?_eq_some_iff.mp e).1 n).trans e
theorem Fr.trans {F G : List Nat} {μ μ1 μ2 : M} (h : Fr F μ μ1) (g : Fr G μ1 μ2) (hG : ∀ j ∈ G, j ∈ F ∨ μ.length ≤ j) : Fr F μ μ2 := ⟨Nat.le_trans h.len g.len, fun j hj n => (g.at_ j (Nat.lt_of_lt_of_le hj h.len) fun z => (hG j z).elim n (fun z => Nat.lt_irrefl _ (Nat.lt_of_lt_of_le hj z))).trans (h.at_ j hj n)⟩
theorem Fr.mono {F G : List Nat} {μ μ1 : M} (h : Fr F μ μ1) (hG : ∀ j ∈ F, j ∈ G) : Fr G μ μ1 := ⟨h.len, fun j hj n => h.at_ j hj fun z => n (hG j z)⟩
theorem fr_set {F : List Nat} {μ : M} {k : Nat} {o : Option O} (h : k ∈ F) : Fr F μ (μ.set k o) := ⟨by simp, fun j _ n => set_get_ne fun z => n (z ▸ h)⟩
theorem fr_app {F : List Nat} {μ ex : M} : Fr F μ (μ ++ ex) := ⟨by simp, fun j hj _ => List.getElem?_append_left hj⟩
theorem Rw.lt {μ : M} {r : Nat} {ps : Ps} (h : Rw μ r ps) : ∀ j ∈ ft r ps, j < μ.length := by
  intro j hj
  rcases List.mem_cons.mp hj with rfl | hj
  · exact (List.getElem?_eq_some_iff.mp h.li).1
  · obtain ⟨e, he, rfl⟩ := List.mem_map.mp hj
    exact (List.getElem?_eq_some_iff.mp (h.at_ e he)).1
theorem mem_ft {r : Nat} {ps : Ps} {e : Nat × List Int} (h : e ∈ ps) : e.1 ∈ ft r ps := List.mem_cons_of_mem _ (List.mem_map.mpr ⟨e, h, rfl⟩)
theorem r_ft {r : Nat} {ps : Ps} : r ∈ ft r ps := List.mem_cons_self
theorem Rw.fr {F : List Nat} {μ μ' : M} {r : Nat} {ps : Ps} (h : Rw μ r ps) (f : Fr F μ μ') (d : ∀ j ∈ ft r ps, j ∉ F) : Rw μ' r ps :=
  ⟨f.get h.li (d r r_ft), fun e he => f.get (h.at_ e he) (d e.1 (mem_ft he)), h.nd⟩
section
variable {A : Addr} {μ : M} {k r : Nat} {ps : Ps} {c : D} {p n : Int}
theorem Kr.fr {F : List Nat} {μ' : M} (h : Kr A μ k r ps c p n) (f : Fr F μ μ') (d : ∀ j ∈ k :: ft r ps, j ∉ F) : Kr A μ' k r ps c p n :=
  ⟨f.get h.ob (d k (by simp)), h.rw.fr f fun j hj => d j (List.mem_cons_of_mem _ hj), h.nk⟩
theorem Kr.lt (h : Kr A μ k r ps c p n) : ∀ j ∈ k :: ft r ps, j < μ.length := by
  intro j hj
  rcases List.mem_cons.mp hj with rfl | hj
  · exact (List.getElem?_eq_some_iff.mp h.ob).1
  · exact h.rw.lt j hj
theorem f_kept (h : Kr A μ k r ps c p n) : fFld A "kept" (.ref k) μ = some (.ref r, μ) := by simp [fFld, h.ob, fl_kept]
theorem f_coming (h : Kr A μ k r ps c p n) : fFld A "coming" (.ref k) μ = some (c, μ) := by simp [fFld, h.ob, fl_coming]
theorem f_passed (h : Kr A μ k r ps c p n) : fFld A "passed" (.ref k) μ = some (.int p, μ) := by simp [fFld, h.ob, fl_passed]
theorem f_answered (h : Kr A μ k r ps c p n) : fFld A "answered" (.ref k) μ = some (.int n, μ) := by simp [fFld, h.ob, fl_answered]
def okM (m : Str) : Bool := !(m == "kept") && !(m == "coming") && !(m == "passed") && !(m == "answered")
theorem noM_ok {m : Str} (h : Kr A μ k r ps c p n) (hm : okM m = true) : noM μ A m (.ref k) = true := by
  simp only [okM, Bool.and_eq_true, Bool.not_eq_true'] at hm
  simp [noM, h.ob, no_m hm.1.1.1 hm.1.1.2 hm.1.2 hm.2]
theorem sF {Γ : G} {ev : EV} {d : D} {μ1 : M} {f : Str} {fs fs' : List (Str × D)} (hv : ev Γ μ = some (d, μ1)) (h0 : Γ[0]? = some (some (.ref k))) (ob : μ1[k]? = some (some (.ins A fs))) (hl : fs.length = 4) (e : putFD f d fs = fs') :
    sFldS A f (vVar 0) ev Γ μ = some (.nx, Γ, μ1.set k (some (.ins A fs'))) := by
  subst e
  simp [sFldS, hv, vVar_eq, h0, ob, hl]
theorem Kr.put {c' : D} {p' n' : Int} (h : Kr A μ k r ps c p n) : Kr A (μ.set k (some (.ins A (fl r c' p' n')))) k r ps c' p' n' ∧ Fr [k] μ (μ.set k (some (.ins A (fl r c' p' n')))) := by
  have f : Fr [k] μ (μ.set k (some (.ins A (fl r c' p' n')))) := fr_set (by simp)
  exact ⟨⟨set_get h.ob, h.rw.fr f fun j hj z => h.nk (by simp at z; exact z ▸ hj), h.nk⟩, f⟩
theorem set_coming {Γ : G} {ev : EV} {d : D} {μ1 : M} (hv : ev Γ μ = some (d, μ1)) (h0 : Γ[0]? = some (some (.ref k))) (h : Kr A μ1 k r ps c p n) :
    ∃ μ', sFldS A "coming" (vVar 0) ev Γ μ = some (.nx, Γ, μ') ∧ Kr A μ' k r ps d p n ∧ Fr [k] μ1 μ' :=
  ⟨_, sF hv h0 h.ob fl_len pu_coming, h.put⟩
theorem set_passed {Γ : G} {ev : EV} {m : Int} {μ1 : M} (hv : ev Γ μ = some (.int m, μ1)) (h0 : Γ[0]? = some (some (.ref k))) (h : Kr A μ1 k r ps c p n) :
    ∃ μ', sFldS A "passed" (vVar 0) ev Γ μ = some (.nx, Γ, μ') ∧ Kr A μ' k r ps c m n ∧ Fr [k] μ1 μ' :=
  ⟨_, sF hv h0 h.ob fl_len pu_passed, h.put⟩
theorem aug_answered {Γ : G} (h0 : Γ[0]? = some (some (.ref k))) (h : Kr A μ k r ps c p n) :
    ∃ μ', sFldAugS A "answered" iAdd (vVar 0) (vC (.int 1)) Γ μ = some (.nx, Γ, μ') ∧ Kr A μ' k r ps c p (n + 1) ∧ Fr [k] μ μ' :=
  ⟨_, by simp [sFldAugS, vVar_eq, h0, h.ob, fl_answered, fl_len, pu_answered, iAdd], h.put⟩
theorem aug_passed {Γ : G} (h0 : Γ[0]? = some (some (.ref k))) (h : Kr A μ k r ps c p n) :
    ∃ μ', sFldAugS A "passed" iAdd (vVar 0) (vC (.int 1)) Γ μ = some (.nx, Γ, μ') ∧ Kr A μ' k r ps c (p + 1) n ∧ Fr [k] μ μ' :=
  ⟨_, by simp [sFldAugS, vVar_eq, h0, h.ob, fl_passed, fl_len, pu_passed, iAdd], h.put⟩
theorem run_wants_non (h : Kr A μ k r ps .non p n) : mi_Keeper_wants A [.ref k] μ = some (.non, μ) := by
  simp [mi_Keeper_wants, ev_Keeper_wants, f_coming h, fIsN]
theorem run_wants {i : Nat} {x y g : Int} {t : List Int} {q : Nat} (h : Kr A μ k r ps (.int x) (i : Nat) n) (hi : ps[i]? = some (q, y :: t)) : mi_Keeper_wants A [.ref k] μ = some (.tup [.int y, .int x], μ) := by
  have e1 : atI (rf ps) ((i : Nat) : Int) = some (.ref q) := atI_nat (by simp [rf, hi])
  have e2 : μ[q]? = some (some (.lst ((y :: t).map D.int))) := h.rw.at_ (q, y :: t) (List.mem_of_getElem? hi)
  have e3 : atI ((y :: t).map D.int) 0 = some (.int y) := atI_nat (j := 0) (by simp)
  simp [mi_Keeper_wants, ev_Keeper_wants, f_coming h, f_kept h, f_passed h, fIsN, fIx_ref h.rw.li, e1, fIx_ref e2, e3, fTup]
theorem run_check {C : Addr} (h : Kr A μ k r ps .non p n) : mi_Keeper_check_nothing_wanted A C [.ref k] μ = some (.ok .non, μ) := by
  refine runX_nx (Γ1 := [some (.ref k)]) rfl ?_
  unfold ev_Keeper_check_nothing_wanted
  rw [ifX_f (upB_s (b := false) (μ1 := μ) (by simp [f_coming h, fNotN]))]
  exact upS_s (o := .nx) rfl
end
end Law
set_option Elab.async false
set_option linter.all false
set_option maxRecDepth 100000
set_option maxHeartbeats 0
namespace Law
open PySem L2 L3
section
variable {A : Addr} {μ : M} {k r : Nat} {ps : Ps} {c : D} {p n : Int}
theorem fl_ints {row : List Int} : optAll flV (row.map D.int) = some (row.map V.int) := optAll_map fun _ _ => rfl
theorem in_ref {neg : Bool} {x : Int} {g : Nat} {row : List Int} (h : μ[g]? = some (some (.lst (row.map D.int)))) : fIn neg (.int x) (.ref g) μ = some (.bl (if neg then !decide (x ∈ row) else decide (x ∈ row)), μ) := by
  have e1 : sqOf μ (.ref g) = some (row.map D.int) := by simp only [sqOf, lsOf_ref h]
  have e2 : flV (.int x) = some (.int x) := rfl
  simp only [fIn, e1, e2, fl_ints, bs, in_ints]
abbrev gB : SV := sIf (vT (v2 (fIn false) (vVar 1) (vVar 2))) (sRet (vVar 2)) sNx
theorem grp_loop {raw : List D} (li : μ[r]? = some (some (.lst raw))) {x : Int} : ∀ (l : Ps) (o : Option D), (∀ e ∈ l, μ[e.1]? = some (some (.lst (e.2.map D.int)))) →
    (l.find? (fun e => decide (x ∈ e.2)) = none → ∃ o', forG (some (r, raw)) (gvName 2) gB (rf l) [some (.ref k), some (.int x), o] μ = some (.nx, [some (.ref k), some (.int x), o'], μ)) ∧
    (∀ e, l.find? (fun e => decide (x ∈ e.2)) = some e → forG (some (r, raw)) (gvName 2) gB (rf l) [some (.ref k), some (.int x), o] μ = some (.rt (.ref e.1), [some (.ref k), some (.int x), some (.ref e.1)], μ))
  | [], o, _ => ⟨fun _ => ⟨o, rfl⟩, fun e h => by cases h⟩
  | e :: l, o, h => by
    have ih := grp_loop li (x := x) l (some (.ref e.1)) fun e' he => h e' (by simp [he])
    have he := h e (by simp)
    have hb : ∀ b : Bool, decide (x ∈ e.2) = b → gB [some (.ref k), some (.int x), some (.ref e.1)] μ = if b = true then some (.rt (.ref e.1), [some (.ref k), some (.int x), some (.ref e.1)], μ) else some (.nx, [some (.ref k), some (.int x), some (.ref e.1)], μ) := fun b hb => by
      simp only [gB, sIf_eq, vT_eq, v2_eq, vVar_eq]
      simp [in_ref he, hb]
    have hg : gvName 2 (.ref e.1) [some (.ref k), some (.int x), o] μ = some ([some (.ref k), some (.int x), some (.ref e.1)], μ) := rfl
    cases hd : decide (x ∈ e.2) with
    | true =>
      have hbt := hb true hd
      rw [if_pos rfl] at hbt
      refine ⟨fun z => by simp [List.find?, hd] at z, fun e' z => ?_⟩
      have : e = e' := by simpa [List.find?, hd] using z
      subst this
      show forG _ _ _ (D.ref e.1 :: rf l) _ _ = _
      simp only [forG, hg, bs, hbt]
    | false =>
      have hbf := hb false hd
      rw [if_neg (by simp)] at hbf
      have hc : ckOf (some (r, raw)) μ := li
      have step : forG (some (r, raw)) (gvName 2) gB (rf (e :: l)) [some (.ref k), some (.int x), o] μ = forG (some (r, raw)) (gvName 2) gB (rf l) [some (.ref k), some (.int x), some (.ref e.1)] μ := by
        show forG _ _ _ (D.ref e.1 :: rf l) _ _ = _
        simp only [forG, hg, bs, hbf]
        rw [chk_pos hc]
      rw [step]
      simp only [List.find?, hd]
      exact ih
theorem run_group_none {x : Int} (h : Kr A μ k r ps c p n) (hx : ps.find? (fun e => decide (x ∈ e.2)) = none) : mi_Keeper_group_with A [.ref k, .int x] μ = some (.non, μ) := by
  obtain ⟨o', e⟩ := (grp_loop (k := k) h.rw.li (x := x) ps none h.rw.at_).1 hx
  simp [mi_Keeper_group_with, ev_Keeper_group_with, f_kept h, lsC_ref h.rw.li, e]
theorem run_group_some {x : Int} {e : Nat × List Int} (h : Kr A μ k r ps c p n) (hx : ps.find? (fun e => decide (x ∈ e.2)) = some e) : mi_Keeper_group_with A [.ref k, .int x] μ = some (.ref e.1, μ) := by
  have e := (grp_loop (k := k) h.rw.li (x := x) ps none h.rw.at_).2 e hx
  simp [mi_Keeper_group_with, ev_Keeper_group_with, f_kept h, lsC_ref h.rw.li, e]
theorem run_groups {C : Addr} (h : Kr A μ k r ps .non p n) : dn (mi_Keeper_groups (mi_Keeper_check_nothing_wanted A C) A) [.ref k] μ = some (.int ps.length, μ) := by
  have e : mi_Keeper_groups (mi_Keeper_check_nothing_wanted A C) A [.ref k] μ = some (.ok (.int ps.length), μ) := by
    refine runX_rt (Γ1 := [some (.ref k)]) rfl ?_
    unfold ev_Keeper_groups
    have e1 : vMethX A "check_nothing_wanted" (mi_Keeper_check_nothing_wanted A C) (up (vVar 0)) (upL lNil) [some (.ref k)] μ = some (.ok .non, μ) := by
      simp [vMethX, up, upL, vVar_eq, noM_ok h (m := "check_nothing_wanted") (by decide +kernel), run_check h]
    show sSeqX _ _ [some (.ref k)] μ = _
    rw [seqX_nx (exprX_o e1)]
    refine upS_s (o := .rt _) ?_
    simp [f_kept h, fLen_ref h.rw.li, rf]
  simp [dn, e]
theorem run_heard {C : Addr} (h : Kr A μ k r ps .non p n) : dn (mi_Keeper_heard (mi_Keeper_check_nothing_wanted A C) A) [.ref k] μ = some (.int n, μ) := by
  have e : mi_Keeper_heard (mi_Keeper_check_nothing_wanted A C) A [.ref k] μ = some (.ok (.int n), μ) := by
    refine runX_rt (Γ1 := [some (.ref k)]) rfl ?_
    unfold ev_Keeper_heard
    have e1 : vMethX A "check_nothing_wanted" (mi_Keeper_check_nothing_wanted A C) (up (vVar 0)) (upL lNil) [some (.ref k)] μ = some (.ok .non, μ) := by
      simp [vMethX, up, upL, vVar_eq, noM_ok h (m := "check_nothing_wanted") (by decide +kernel), run_check h]
    show sSeqX _ _ [some (.ref k)] μ = _
    rw [seqX_nx (exprX_o e1)]
    refine upS_s (o := .rt _) ?_
    simp [f_answered h]
  simp [dn, e]
end
end Law
set_option Elab.async false
set_option linter.all false
set_option maxRecDepth 100000
set_option maxHeartbeats 0
namespace Law
open PySem L2 L3
section
variable {A : Addr} {μ : M} {k r : Nat} {ps : Ps} {c : D} {p n : Int}
theorem Rw.ne (h : Rw μ r ps) {e : Nat × List Int} (he : e ∈ ps) : r ≠ e.1 := fun z => (List.nodup_cons.mp h.nd).1 (List.mem_map.mpr ⟨e, he, z.symm⟩)
theorem Rw.grow {μ' : M} {g : Nat} {row : List Int} (h : Rw μ r ps) (f : Fr [r] μ μ') (h1 : μ'[r]? = some (some (.lst (rf ps ++ [.ref g])))) (h2 : μ'[g]? = some (some (.lst (row.map D.int)))) (hg : μ.length ≤ g) : Rw μ' r (ps ++ [(g, row)]) where
  li := by rw [h1]; simp [rf]
  at_ e he := by
    rcases List.mem_append.mp he with he | he
    · exact f.get (h.at_ e he) fun z => h.ne he (by simp at z; exact z.symm)
    · simp at he
      subst he
      exact h2
  nd := by
    have hn : g ∉ ft r ps := fun z => Nat.lt_irrefl _ (Nat.lt_of_lt_of_le (h.lt g z) hg)
    have e : ft r (ps ++ [(g, row)]) = ft r ps ++ [g] := by simp [ft]
    rw [e, List.nodup_append]
    refine ⟨h.nd, by simp, fun a ha b hb e => ?_⟩
    simp at hb
    rw [e, hb] at ha
    exact hn ha
theorem ft_grow {g : Nat} {row : List Int} : ∀ j ∈ ft r (ps ++ [(g, row)]), j ∈ ft r ps ∨ j = g := by
  intro j hj
  simp only [ft, List.map_append, List.mem_cons, List.mem_append, List.map_cons, List.map_nil, List.not_mem_nil, or_false] at hj ⊢
  rcases hj with h | h | h
  · exact .inl (.inl h)
  · exact .inl (.inr h)
  · exact .inr h
theorem ft_set {i : Nat} {e : Nat × List Int} {row : List Int} (hi : ps[i]? = some e) : ft r (ps.set i (e.1, row)) = ft r ps := by
  simp only [ft, List.map_set]
  congr 1
  refine List.ext_getElem? fun j => ?_
  rw [List.getElem?_set]
  split
  · rename_i h
    subst h
    rw [if_pos (by simpa using (List.getElem?_eq_some_iff.mp hi).1), List.getElem?_map, hi]
    rfl
  · rfl
theorem Rw.upd {i : Nat} {e : Nat × List Int} {row : List Int} (h : Rw μ r ps) (hi : ps[i]? = some e) : Rw (μ.set e.1 (some (.lst (row.map D.int)))) r (ps.set i (e.1, row)) ∧ Fr [e.1] μ (μ.set e.1 (some (.lst (row.map D.int)))) := by
  have he := List.mem_of_getElem? hi
  have hne : r ≠ e.1 := h.ne he
  have hf : Fr [e.1] μ (μ.set e.1 (some (.lst (row.map D.int)))) := fr_set (by simp)
  refine ⟨⟨?_, fun e' he' => ?_, by rw [ft_set hi]; exact h.nd⟩, hf⟩
  · rw [set_get_ne hne, h.li]
    have : rf (ps.set i (e.1, row)) = rf ps := by
      have := congrArg List.tail (ft_set (r := r) (row := row) hi)
      simp only [ft, List.tail_cons] at this
      have := congrArg (List.map D.ref) this
      simpa [rf, Function.comp_def] using this
    rw [this]
  · obtain ⟨j, hj⟩ := List.getElem?_of_mem he'
    rw [List.getElem?_set] at hj
    split at hj
    · rename_i hij
      split at hj
      · cases hj
        exact set_get (h.at_ e he)
      · cases hj
    · rename_i hij
      have hne2 : e'.1 ≠ e.1 := fun z => by
        have nd := (List.nodup_cons.mp h.nd).2
        have h1 : (ps.map (·.1))[i]? = some e.1 := by simp [hi]
        have h2 : (ps.map (·.1))[j]? = some e.1 := by simp [hj, z]
        exact hij ((List.getElem?_inj (List.getElem?_eq_some_iff.mp h1).1 nd).mp (h1.trans h2.symm))
      rw [set_get_ne hne2]
      exact h.at_ e' (List.mem_of_getElem? hj)
theorem run_begin_no {i : Nat} (h : Kr A μ k r ps c (i : Nat) n) (hi : i ≠ ps.length) : mi_Keeper_begin_group_if_unlike_all A [.ref k] μ = some (.non, μ) := by
  have hi' : ¬ ((i : Int) = (ps.length : Nat)) := by omega
  simp [mi_Keeper_begin_group_if_unlike_all, ev_Keeper_begin_group_if_unlike_all, f_kept h, f_passed h, fLen_ref h.rw.li, rf, fEq, eqD, hi']
theorem run_begin_yes {x : Int} (h : Kr A μ k r ps (.int x) (ps.length : Nat) n) (hl : ps.length < 1000) : ∃ μ' g, mi_Keeper_begin_group_if_unlike_all A [.ref k] μ = some (.non, μ') ∧ Kr A μ' k r (ps ++ [(g, [x])]) .non (ps.length : Nat) n ∧ Fr (k :: ft r ps) μ μ' ∧ μ.length ≤ g := by
  have f1 : Fr [r] μ (μ ++ [some (O.lst [D.int x])]) := fr_app
  have li1 : (μ ++ [some (O.lst [D.int x])])[r]? = some (some (.lst (rf ps))) := by rw [List.getElem?_append_left (h.lt r (by simp [ft]))]; exact h.rw.li
  have hlr : (rf ps).length < 1000000 := by simp [rf]; omega
  have f2 : Fr [r] μ ((μ ++ [some (O.lst [D.int x])]).set r (some (.lst (rf ps ++ [.ref μ.length])))) := f1.trans (fr_set (by simp)) fun j hj => .inl hj
  have hgr : μ.length ≠ r := fun z => Nat.lt_irrefl _ (z ▸ h.lt r (by simp [ft]))
  have R := h.rw.grow (g := μ.length) (row := [x]) f2 (set_get li1) (by rw [set_get_ne hgr]; simp) (Nat.le_refl _)
  have K1 : Kr A ((μ ++ [some (O.lst [D.int x])]).set r (some (.lst (rf ps ++ [.ref μ.length])))) k r (ps ++ [(μ.length, [x])]) (.int x) (ps.length : Nat) n := ⟨f2.get h.ob (fun z => h.nk (by simp at z; simp [ft, z])), R, fun z => by
    rcases ft_grow k z with z | z
    · exact h.nk z
    · exact Nat.lt_irrefl _ (z ▸ h.lt k (by simp))⟩
  generalize hμ2 : (μ ++ [some (O.lst [D.int x])]).set r (some (.lst (rf ps ++ [.ref μ.length]))) = μ2 at f2 K1
  obtain ⟨μ3, e3, K3, f3⟩ := set_coming (Γ := [some (.ref k)]) (ev := vC .non) (μ := μ2) rfl rfl K1
  refine ⟨μ3, μ.length, ?_, K3, (f2.mono (fun j hj => by simp at hj; simp [ft, hj])).trans f3 (fun j hj => .inl (by simp at hj; simp [hj])), Nat.le_refl _⟩
  have ea : fApp (.ref r) (.ref μ.length) (μ ++ [some (O.lst [D.int x])]) = some (.non, μ2) := by rw [← hμ2]; simp only [fApp, onL_ref li1, if_pos hlr, kOn_s]
  have ls : lsOf μ (.ref r) = some (rf ps) := lsOf_ref h.rw.li
  simp [mi_Keeper_begin_group_if_unlike_all, ev_Keeper_begin_group_if_unlike_all, f_kept h, f_passed h, f_coming h, fLen_ref h.rw.li, fEq, eqD, ls, fNew, ea, e3, show (rf ps).length = ps.length by simp [rf]]
end
end Law
set_option Elab.async false
set_option linter.all false
set_option maxRecDepth 100000
set_option maxHeartbeats 0
namespace Law
open PySem L2 L3
section
variable {A C : Addr} {μ : M} {k r : Nat} {ps : Ps} {c : D} {p n : Int}
theorem v_check {Γ : G} (h0 : Γ[0]? = some (some (.ref k))) (h : Kr A μ k r ps .non p n) : vMethX A "check_nothing_wanted" (mi_Keeper_check_nothing_wanted A C) (up (vVar 0)) (upL lNil) Γ μ = some (.ok .non, μ) := by
  simp [vMethX, up, upL, vVar_eq, h0, noM_ok h (m := "check_nothing_wanted") (by decide +kernel), run_check h]
theorem v_begin_no {Γ : G} {i : Nat} (h0 : Γ[0]? = some (some (.ref k))) (h : Kr A μ k r ps c (i : Nat) n) (hi : i ≠ ps.length) : vMeth A "begin_group_if_unlike_all" (mi_Keeper_begin_group_if_unlike_all A) (vVar 0) lNil Γ μ = some (.non, μ) := by
  simp [vMeth, vVar_eq, h0, noM_ok h (m := "begin_group_if_unlike_all") (by decide +kernel), run_begin_no h hi]
theorem v_begin_yes {Γ : G} {x : Int} (h0 : Γ[0]? = some (some (.ref k))) (h : Kr A μ k r ps (.int x) (ps.length : Nat) n) (hl : ps.length < 1000) : ∃ μ' g, vMeth A "begin_group_if_unlike_all" (mi_Keeper_begin_group_if_unlike_all A) (vVar 0) lNil Γ μ = some (.non, μ') ∧ Kr A μ' k r (ps ++ [(g, [x])]) .non (ps.length : Nat) n ∧ Fr (k :: ft r ps) μ μ' ∧ μ.length ≤ g := by
  obtain ⟨μ', g, e, K, f, hg⟩ := run_begin_yes h hl
  exact ⟨μ', g, by simp [vMeth, vVar_eq, h0, noM_ok h (m := "begin_group_if_unlike_all") (by decide +kernel), e], K, f, hg⟩
noncomputable abbrev miCome (A C C2 : Addr) : FX := mi_Keeper_come (mi_Keeper_group_with A) (mi_Keeper_begin_group_if_unlike_all A) (mi_Keeper_check_nothing_wanted A C) A C2
theorem dn_ok {f : FX} {ds : List D} {d : D} {μ μ' : M} (h : f ds μ = some (.ok d, μ')) : dn f ds μ = some (d, μ') := by simp [dn, h]
theorem come_head {C2 : Addr} {x : Int} {s : SX} (h : Kr A μ k r ps .non p n) (hx : ps.find? (fun e => decide (x ∈ e.2)) = none) :
    sSeqX (sExprX (vMethX A "check_nothing_wanted" (mi_Keeper_check_nothing_wanted A C) (up (vVar 0)) (upL lNil))) (sSeqX (sIfX (upB (vT (v2 fNotN (vMeth A "group_with" (mi_Keeper_group_with A) (vVar 0) (lCons (vVar 1) lNil)) (vC .non))))
      (sRaiseM C2 ((vVar 1) :: [])) (upS sNx)) s) [some (.ref k), some (.int x)] μ = s [some (.ref k), some (.int x)] μ := by
  rw [seqX_nx (exprX_o (v_check rfl h))]
  refine seqX_nx ?_
  rw [ifX_f (upB_s (b := false) (μ1 := μ) ?_)]
  · exact upS_s (o := .nx) rfl
  · simp [vMeth, noM_ok h (m := "group_with") (by decide +kernel), run_group_none h hx, fNotN]
theorem run_come_cons {C2 : Addr} {x : Int} (h : Kr A μ k r ps .non p n) (hx : ps.find? (fun e => decide (x ∈ e.2)) = none) (hn : ps ≠ []) :
    ∃ μ', dn (miCome A C C2) [.ref k, .int x] μ = some (.non, μ') ∧ Kr A μ' k r ps (.int x) ((0 : Nat) : Int) n ∧ Fr (k :: ft r ps) μ μ' := by
  obtain ⟨μ1, e1, K1, f1⟩ := set_coming (Γ := [some (.ref k), some (.int x)]) (ev := vVar 1) (μ := μ) rfl rfl h
  obtain ⟨μ2, e2, K2, f2⟩ := set_passed (Γ := [some (.ref k), some (.int x)]) (ev := vC (.int 0)) (μ := μ1) (m := ((0 : Nat) : Int)) rfl rfl K1
  have e3 := v_begin_no (Γ := [some (.ref k), some (.int x)]) rfl K2 (by intro z; exact hn (List.length_eq_zero_iff.mp z.symm))
  refine ⟨μ2, dn_ok (runX_nx (Γ1 := [some (.ref k), some (.int x)]) rfl ?_), K2, (f1.trans f2 fun j hj => .inl hj).mono (fun j hj => by simp at hj; simp [hj])⟩
  unfold ev_Keeper_come
  refine (come_head h hx).trans (upS_s (o := .nx) ?_)
  simp only [sSeq_eq, e1, kSeq_nx, e2, sExpr_eq, e3, kEx_s]
theorem run_come_nil {C2 : Addr} {x : Int} (h : Kr A μ k r [] .non p n) :
    ∃ μ' g, dn (miCome A C C2) [.ref k, .int x] μ = some (.non, μ') ∧ Kr A μ' k r [(g, [x])] .non ((0 : Nat) : Int) n ∧ Fr (k :: ft r []) μ μ' ∧ μ.length ≤ g := by
  obtain ⟨μ1, e1, K1, f1⟩ := set_coming (Γ := [some (.ref k), some (.int x)]) (ev := vVar 1) (μ := μ) rfl rfl h
  obtain ⟨μ2, e2, K2, f2⟩ := set_passed (Γ := [some (.ref k), some (.int x)]) (ev := vC (.int 0)) (μ := μ1) (m := ((0 : Nat) : Int)) rfl rfl K1
  obtain ⟨μ3, g, e3, K3, f3, hg⟩ := v_begin_yes (Γ := [some (.ref k), some (.int x)]) rfl K2 (by decide)
  have f12 : Fr (k :: ft r []) μ μ2 := (f1.trans f2 fun j hj => .inl hj).mono (fun j hj => by simp at hj; simp [hj])
  refine ⟨μ3, g, dn_ok (runX_nx (Γ1 := [some (.ref k), some (.int x)]) rfl ?_), K3, f12.trans f3 (fun j hj => .inl hj), Nat.le_trans f12.len hg⟩
  unfold ev_Keeper_come
  refine (come_head h rfl).trans (upS_s (o := .nx) ?_)
  simp only [sSeq_eq, e1, kSeq_nx, e2, sExpr_eq, e3, kEx_s]
noncomputable abbrev miHear (A C : Addr) : FX := mi_Keeper_hear (mi_Keeper_begin_group_if_unlike_all A) A C
theorem hear_head {x : Int} {b : Bool} {s : SX} (h : Kr A μ k r ps (.int x) p n) :
    sSeqX (sIfX (upB (vT (v2 fIsN (v1 (fFld A "coming") (vVar 0)) (vC .non)))) (sRaise C (vC (.str "nothing is asked for"))) (upS sNx)) s [some (.ref k), some (.bl b)] μ = s [some (.ref k), some (.bl b)] μ := by
  refine seqX_nx ?_
  rw [ifX_f (upB_s (b := false) (μ1 := μ) ?_)]
  · exact upS_s (o := .nx) rfl
  · simp [f_coming h, fIsN]
theorem run_hear_yes {x : Int} {i : Nat} {e : Nat × List Int} (h : Kr A μ k r ps (.int x) (i : Nat) n) (hi : ps[i]? = some e) (hl : e.2.length < 1000) :
    ∃ μ', dn (miHear A C) [.ref k, .bl true] μ = some (.non, μ') ∧ Kr A μ' k r (ps.set i (e.1, e.2 ++ [x])) .non (i : Nat) (n + 1) ∧ Fr (k :: ft r ps) μ μ' := by
  obtain ⟨μ1, e1, K1, f1⟩ := aug_answered (Γ := [some (.ref k), some (.bl true)]) rfl h
  have he := List.mem_of_getElem? hi
  have i1 : atI (rf ps) ((i : Nat) : Int) = some (.ref e.1) := atI_nat (by simp [rf, hi])
  have g1 := K1.rw.at_ e he
  have ls : lsOf μ1 (.ref e.1) = some (e.2.map D.int) := lsOf_ref g1
  obtain ⟨R, f2⟩ := K1.rw.upd (row := e.2 ++ [x]) hi
  have ea : fApp (.ref e.1) (.int x) μ1 = some (.non, μ1.set e.1 (some (.lst ((e.2 ++ [x]).map D.int)))) := by
    simp only [fApp, onL_ref g1, if_pos (show (e.2.map D.int).length < 1000000 by simp; omega), kOn_s]
    simp
  have K2 : Kr A (μ1.set e.1 (some (.lst ((e.2 ++ [x]).map D.int)))) k r (ps.set i (e.1, e.2 ++ [x])) (.int x) (i : Nat) (n + 1) := ⟨f2.get K1.ob (fun z => K1.nk (by simp at z; rw [z]; exact mem_ft he)), R, by rw [ft_set hi]; exact K1.nk⟩
  generalize μ1.set e.1 (some (.lst ((e.2 ++ [x]).map D.int))) = μ2 at K2 f2 ea
  obtain ⟨μ3, e3, K3, f3⟩ := set_coming (Γ := [some (.ref k), some (.bl true)]) (ev := vC .non) (μ := μ2) rfl rfl K2
  refine ⟨μ3, dn_ok (runX_nx (Γ1 := [some (.ref k), some (.bl true)]) rfl ?_), K3, ((f1.mono (fun j hj => by simp at hj; simp [hj])).trans f2 (fun j hj => .inl (by simp at hj; rw [hj]; exact List.mem_cons_of_mem _ (mem_ft he)))).trans f3 (fun j hj => .inl (by simp at hj; simp [hj]))⟩
  unfold ev_Keeper_hear
  refine (hear_head h).trans (upS_s (o := .nx) ?_)
  simp only [sSeq_eq, e1, kSeq_nx]
  simp [f_kept K1, f_passed K1, f_coming K1, fIx_ref K1.rw.li, i1, ls, ea, e3]
theorem run_hear_more {x : Int} {i : Nat} (h : Kr A μ k r ps (.int x) (i : Nat) n) (hi : i + 1 < ps.length) :
    ∃ μ', dn (miHear A C) [.ref k, .bl false] μ = some (.non, μ') ∧ Kr A μ' k r ps (.int x) ((i + 1 : Nat) : Int) (n + 1) ∧ Fr (k :: ft r ps) μ μ' := by
  obtain ⟨μ1, e1, K1, f1⟩ := aug_answered (Γ := [some (.ref k), some (.bl false)]) rfl h
  obtain ⟨μ2, e2, K2, f2⟩ := aug_passed (Γ := [some (.ref k), some (.bl false)]) rfl K1
  have K2 : Kr A μ2 k r ps (.int x) ((i + 1 : Nat) : Int) (n + 1) := by simpa using K2
  have e3 := v_begin_no (Γ := [some (.ref k), some (.bl false)]) rfl K2 (by omega)
  refine ⟨μ2, dn_ok (runX_nx (Γ1 := [some (.ref k), some (.bl false)]) rfl ?_), K2, (f1.trans f2 fun j hj => .inl hj).mono (fun j hj => by simp at hj; simp [hj])⟩
  unfold ev_Keeper_hear
  refine (hear_head h).trans (upS_s (o := .nx) ?_)
  simp only [sSeq_eq, e1, kSeq_nx]
  simp [e2, e3]
theorem run_hear_last {x : Int} {i : Nat} (h : Kr A μ k r ps (.int x) (i : Nat) n) (hi : i + 1 = ps.length) (hl : ps.length < 1000) :
    ∃ μ' g, dn (miHear A C) [.ref k, .bl false] μ = some (.non, μ') ∧ Kr A μ' k r (ps ++ [(g, [x])]) .non (ps.length : Nat) (n + 1) ∧ Fr (k :: ft r ps) μ μ' ∧ μ.length ≤ g := by
  obtain ⟨μ1, e1, K1, f1⟩ := aug_answered (Γ := [some (.ref k), some (.bl false)]) rfl h
  obtain ⟨μ2, e2, K2, f2⟩ := aug_passed (Γ := [some (.ref k), some (.bl false)]) rfl K1
  have K2 : Kr A μ2 k r ps (.int x) (ps.length : Nat) (n + 1) := by rw [← hi]; simpa using K2
  obtain ⟨μ3, g, e3, K3, f3, hg⟩ := v_begin_yes (Γ := [some (.ref k), some (.bl false)]) rfl K2 hl
  have f12 : Fr (k :: ft r ps) μ μ2 := (f1.trans f2 fun j hj => .inl hj).mono (fun j hj => by simp at hj; simp [hj])
  refine ⟨μ3, g, dn_ok (runX_nx (Γ1 := [some (.ref k), some (.bl false)]) rfl ?_), K3, f12.trans f3 (fun j hj => .inl hj), Nat.le_trans f12.len hg⟩
  unfold ev_Keeper_hear
  refine (hear_head h).trans (upS_s (o := .nx) ?_)
  simp only [sSeq_eq, e1, kSeq_nx]
  simp [e2, e3]
end
end Law
set_option Elab.async false
set_option linter.all false
set_option maxRecDepth 100000
set_option maxHeartbeats 0
namespace Law
open PySem L2 L3
theorem compG_pureC {c : Ck} {g : GV} {tc : BV} {te : EV} {α : Type} {dn : α → D} {keep : α → Bool} {val : α → D} (Pv : G → Prop) {μ : M} (hc : ckOf c μ) : ∀ (l : List α) (Γ : G), Pv Γ →
    (∀ x ∈ l, ∀ Γ, Pv Γ → ∃ Γ1, g (dn x) Γ μ = some (Γ1, μ) ∧ tc Γ1 μ = some (keep x, μ) ∧ (keep x = true → te Γ1 μ = some (val x, μ)) ∧ Pv Γ1) →
    compG c g tc te (l.map dn) Γ μ = some ((l.filter keep).map val, μ)
  | [], _, _, _ => rfl
  | x :: r, Γ, h, hs => by
    obtain ⟨Γ1, h1, h2, h3, h4⟩ := hs x (by simp) Γ h
    have ih := compG_pureC Pv hc r Γ1 h4 fun x hx => hs x (by simp [hx])
    simp only [List.map_cons, compG, h1, bs, h2]
    cases hk : keep x with
    | true => simp only [if_true, h3 hk, bs, chk_pos hc, ih, List.filter_cons_of_pos hk, List.map_cons]
    | false => simp only [Bool.false_eq_true, if_false, chk_pos hc, ih, List.filter_cons, hk]
theorem find_loop {α : Type} {c : Ck} {body : SV} {nm : GV} {dnm : α → D} {q : α → Bool} {Γ : Option D → G} {μ : M} {zd : α → D} {zμ : α → M} (hc : ckOf c μ) : ∀ (l : List α) (o : Option D), (∀ a ∈ l, ∀ o, nm (dnm a) (Γ o) μ = some (Γ (some (dnm a)), μ)) →
    (∀ a ∈ l, body (Γ (some (dnm a))) μ = if q a = true then some (.rt (zd a), Γ (some (dnm a)), zμ a) else some (.nx, Γ (some (dnm a)), μ)) →
    (∀ a, l.find? q = some a → forG c nm body (l.map dnm) (Γ o) μ = some (.rt (zd a), Γ (some (dnm a)), zμ a)) ∧ (l.find? q = none → ∃ o', forG c nm body (l.map dnm) (Γ o) μ = some (.nx, Γ o', μ))
  | [], o, _, _ => ⟨(fun a h => by cases h), fun _ => ⟨o, rfl⟩⟩
  | a :: l, o, h1, h2 => by
    have ih := find_loop (q := q) (zd := zd) (zμ := zμ) hc l (some (dnm a)) (fun b hb => h1 b (by simp [hb])) (fun b hb => h2 b (by simp [hb]))
    have e1 := h1 a (by simp) o
    have e2 := h2 a (by simp)
    cases hq : q a with
    | true =>
      rw [hq, if_pos rfl] at e2
      refine ⟨fun b hb => ?_, fun z => by simp [List.find?, hq] at z⟩
      have : a = b := by simpa [List.find?, hq] using hb
      subst this
      simp only [List.map_cons, forG, e1, bs, e2]
    | false =>
      rw [hq, if_neg (by simp)] at e2
      have step : forG c nm body ((a :: l).map dnm) (Γ o) μ = forG c nm body (l.map dnm) (Γ (some (dnm a))) μ := by
        simp only [List.map_cons, forG, e1, bs, e2]
        rw [chk_pos hc]
      rw [step]
      simp only [List.find?, hq]
      exact ih
def totR (rows : List (List Int)) : Int := (rows.map fun row => (row.length : Int)).sum
def mostR (rows : List (List Int)) : List Int := (rows.find? fun row => decide (totR rows < 2 * (row.length : Int))).getD []
def rw_ (ps : Ps) : List (List Int) := ps.map (·.2)
theorem most_ps (ps : Ps) : mostR (rw_ ps) = (((ps.find? fun e => decide (totR (rw_ ps) < 2 * (e.2.length : Int))).map (·.2)).getD []) := by
  unfold mostR
  congr 1
  generalize totR (rw_ ps) = t
  induction ps with
  | nil => rfl
  | cons e r ih =>
    simp only [rw_, List.map_cons, List.find?] at ih ⊢
    cases decide (t < 2 * (e.2.length : Int)) with
    | true => rfl
    | false => exact ih
section
variable {A C : Addr} {μ : M} {k r : Nat} {ps : Ps} {c : D} {p n : Int}
theorem tot_comp {Γ : G} {e : EV} {nm : Str} (he : e Γ μ = some (.ref r, μ)) (h : Rw μ r ps) (hl : ps.length < 1000) : v1 fSum (vComp [nm] [] (ivL e) (gvName 0) bYes (v1 fLen (vVar 0))) Γ μ = some (.int (totR (rw_ ps)), μ) := by
  have hc : ckOf (some (r, rf ps)) μ := h.li
  have e1 : compG (some (r, rf ps)) (gvName 0) bYes (v1 fLen (vVar 0)) (rf ps) [none] μ = some ((ps.filter fun _ => true).map fun e => D.int (e.2.length : Int), μ) :=
    compG_pureC (dn := fun e : Nat × List Int => D.ref e.1) (fun Γ => ∃ o, Γ = [o]) hc ps [none] ⟨none, rfl⟩ (by
      rintro e hm Γ ⟨o, rfl⟩
      exact ⟨[some (.ref e.1)], rfl, rfl, fun _ => by simp [fLen_ref (h.at_ e hm)], _, rfl⟩)
  have e0 : ps.filter (fun _ => true) = ps := List.filter_eq_self.mpr (by simp)
  rw [e0] at e1
  have e2 : capG [nm] [] Γ = [none] := rfl
  have e3 : optAll inI (ps.map fun e => D.int (e.2.length : Int)) = some (ps.map fun e => (e.2.length : Int)) := optAll_map fun _ _ => rfl
  have hl' : (rf ps).length ≤ 1000000 := by simp [rf]; omega
  have e4 : (ps.map fun e => (e.2.length : Int)).sum = totR (rw_ ps) := by simp [totR, rw_, Function.comp_def]
  simp [he, lsC_ref h.li, e1, e2, hl', fSum, lsOf, e3, e4]
theorem run_most (h : Kr A μ k r ps .non p n) (hl : ps.length < 1000) : dn (mi_Keeper_most (mi_Keeper_check_nothing_wanted A C) A) [.ref k] μ = some (.ref μ.length, μ ++ [some (.lst ((mostR (rw_ ps)).map D.int))]) := by
  have et := tot_comp (nm := "group") (Γ := [some (.ref k), none, none]) (e := v1 (fFld A "kept") (vVar 0)) (μ := μ) (by simp [f_kept h]) h.rw hl
  have hc : ckOf (some (r, rf ps)) μ := h.rw.li
  have fl := find_loop (α := Nat × List Int) (c := some (r, rf ps)) (nm := gvName 2) (dnm := fun e => D.ref e.1) (q := fun e => decide (totR (rw_ ps) < 2 * (e.2.length : Int)))
    (body := sIf (vT (v2 fGt (v2 fTimes (vC (.int 2)) (v1 fLen (vVar 2))) (vVar 1))) (sRet (v1 fListM (vVar 2))) sNx)
    (Γ := fun o => [some (.ref k), some (.int (totR (rw_ ps))), o]) (zd := fun _ => .ref μ.length) (zμ := fun e => μ ++ [some (.lst (e.2.map D.int))]) hc ps none (fun _ _ _ => rfl) (fun e he => by
      have g := h.rw.at_ e he
      have m : CMul 2 ((e.2.map D.int).length : Int) := .inl ⟨by decide, by decide⟩
      have sq : sqOf μ (.ref e.1) = some (e.2.map D.int) := by simp only [sqOf, lsOf_ref g]
      by_cases hq : totR (rw_ ps) < 2 * (e.2.length : Int)
      · simp [fLen_ref g, fTimes, hq, fListM, sq, CMul]
      · simp [fLen_ref g, fTimes, hq, CMul])
  have go : mi_Keeper_most (mi_Keeper_check_nothing_wanted A C) A [.ref k] μ = some (.ok (.ref μ.length), μ ++ [some (.lst ((mostR (rw_ ps)).map D.int))]) := by
    have fin : ∀ Γ1, (sSeq (sAsg (v1 fSum (vComp ["group"] [] (ivL (v1 (fFld A "kept") (vVar 0))) (gvName 0) bYes (v1 fLen (vVar 0)))) (gvName 1))
      (sSeq (sFor (ivL (v1 (fFld A "kept") (vVar 0))) (gvName 2) (sIf (vT (v2 fGt (v2 fTimes (vC (.int 2)) (v1 fLen (vVar 2))) (vVar 1))) (sRet (v1 fListM (vVar 2))) sNx))
      (sRet (vL fNew lNil)))) [some (.ref k), none, none] μ = some (.rt (.ref μ.length), Γ1, μ ++ [some (.lst ((mostR (rw_ ps)).map D.int))]) → mi_Keeper_most (mi_Keeper_check_nothing_wanted A C) A [.ref k] μ = some (.ok (.ref μ.length), μ ++ [some (.lst ((mostR (rw_ ps)).map D.int))]) := fun Γ1 hh => by
      refine runX_rt (Γ1 := Γ1) rfl ?_
      unfold ev_Keeper_most
      show sSeqX _ _ [some (.ref k), none, none] μ = _
      rw [seqX_nx (exprX_o (v_check rfl h))]
      exact upS_s (o := .rt _) hh
    have es : ∀ rest : SV, (sSeq (sAsg (v1 fSum (vComp ["group"] [] (ivL (v1 (fFld A "kept") (vVar 0))) (gvName 0) bYes (v1 fLen (vVar 0)))) (gvName 1)) rest) [some (.ref k), none, none] μ = rest [some (.ref k), some (.int (totR (rw_ ps))), none] μ := fun rest => by
      rw [sSeq_eq, sAsg_eq, et]; rfl
    have ei : ivL (v1 (fFld A "kept") (vVar 0)) [some (.ref k), some (.int (totR (rw_ ps))), none] μ = some ((rf ps, some (r, rf ps)), μ) := by simp [f_kept h, lsC_ref h.rw.li]
    rw [most_ps] at fin ⊢
    cases hf : ps.find? fun e => decide (totR (rw_ ps) < 2 * (e.2.length : Int)) with
    | some e =>
      have z := fl.1 e hf
      rw [hf] at fin
      refine fin [some (.ref k), some (.int (totR (rw_ ps))), some (.ref e.1)] ((es _).trans ?_)
      rw [sSeq_eq, sFor_eq, ei, kFor_s]
      show kSeq _ (forG (some (r, rf ps)) _ _ (ps.map fun e => D.ref e.1) _ _) = _
      rw [z]
      rfl
    | none =>
      obtain ⟨o', z⟩ := fl.2 hf
      rw [hf] at fin
      refine fin [some (.ref k), some (.int (totR (rw_ ps))), o'] ((es _).trans ?_)
      rw [sSeq_eq, sFor_eq, ei, kFor_s]
      show kSeq _ (forG (some (r, rf ps)) _ _ (ps.map fun e => D.ref e.1) _ _) = _
      rw [z]
      rfl
  exact dn_ok go
end
end Law
set_option Elab.async false
set_option linter.all false
set_option maxRecDepth 100000
set_option maxHeartbeats 0
namespace Law
open PySem L2 L3
section
variable {A C : Addr} {μ : M} {k r : Nat} {ps : Ps} {c : D} {p n : Int}
theorem inI_all {l : List Int} : optAll inI (l.map D.int) = some l := by
  have := optAll_map (f := inI) (g := D.int) (h := id) (l := l) fun _ _ => rfl
  simpa using this
theorem remove_at {g : Nat} {l : List Int} {x : Int} (h : μ[g]? = some (some (.lst (l.map D.int)))) (hx : x ∈ l) : fRemove (.ref g) (.int x) μ = some (.non, μ.set g (some (.lst ((l.erase x).map D.int)))) := by
  simp only [fRemove, onL_ref h, inI_all, bs, if_pos hx, kOn_s]
def goP (ps : Ps) (i : Nat) (e : Nat × List Int) (x : Int) : Ps := (ps.set i (e.1, e.2.erase x)).filter fun e => !e.2.isEmpty
theorem Rw.filt {μ' : M} {q : Nat × List Int → Bool} {r' : Nat} (h : Rw μ r ps) (h1 : μ'[r']? = some (some (.lst (rf (ps.filter q))))) (f : ∀ e ∈ ps, μ'[e.1]? = μ[e.1]?) (hr : r' ∉ ps.map (·.1)) : Rw μ' r' (ps.filter q) where
  li := h1
  at_ e he := by rw [f e (List.mem_filter.mp he).1]; exact h.at_ e (List.mem_filter.mp he).1
  nd := by
    have sub : ((ps.filter q).map (·.1)).Sublist (ps.map (·.1)) := List.filter_sublist.map _
    exact List.nodup_cons.mpr ⟨fun z => hr (sub.subset z), (List.nodup_cons.mp h.nd).2.sublist sub⟩
theorem tru_ref {g : Nat} {l : List D} (h : μ[g]? = some (some (.lst l))) : tru μ (.ref g) = some (!l.isEmpty) := by simp only [tru, h]
theorem run_go {C2 : Addr} {x : Int} {i : Nat} {e : Nat × List Int} (h : Kr A μ k r ps .non p n) (hi : ps[i]? = some e) (hf : ps.find? (fun e => decide (x ∈ e.2)) = some e) (hl : ps.length < 1000) :
    ∃ μ' r', dn (mi_Keeper_go (mi_Keeper_group_with A) (mi_Keeper_check_nothing_wanted A C) A C2) [.ref k, .int x] μ = some (.non, μ') ∧ Kr A μ' k r' (goP ps i e x) .non p n ∧ Fr (k :: ft r ps) μ μ' ∧ (∀ j ∈ ft r' (goP ps i e x), j ∈ ft r ps ∨ μ.length ≤ j) := by
  have he := List.mem_of_getElem? hi
  have hx : x ∈ e.2 := by simpa using List.find?_some hf
  have g0 := h.rw.at_ e he
  obtain ⟨R1, f1⟩ := h.rw.upd (row := e.2.erase x) hi
  have er := remove_at g0 hx
  have hk1 : k ≠ e.1 := fun z => h.nk (z ▸ mem_ft he)
  have ob1 : (μ.set e.1 (some (.lst ((e.2.erase x).map D.int))))[k]? = some (some (.ins A (fl r .non p n))) := by rw [set_get_ne hk1]; exact h.ob
  have K1 : Kr A (μ.set e.1 (some (.lst ((e.2.erase x).map D.int)))) k r (ps.set i (e.1, e.2.erase x)) .non p n := ⟨ob1, R1, by rw [ft_set hi]; exact h.nk⟩
  have ln1 : (μ.set e.1 (some (O.lst ((e.2.erase x).map D.int)))).length = μ.length := by simp
  generalize hμ1 : μ.set e.1 (some (O.lst ((e.2.erase x).map D.int))) = μ1 at K1 R1 f1 er ob1 ln1
  have hlp : (ps.set i (e.1, e.2.erase x)).length < 1000 := by simpa using hl
  have ef : ft r (ps.set i (e.1, e.2.erase x)) = ft r ps := ft_set hi
  have eg : goP ps i e x = (ps.set i (e.1, e.2.erase x)).filter fun e => !e.2.isEmpty := rfl
  rw [eg]
  generalize hps1 : ps.set i (e.1, e.2.erase x) = ps1 at K1 R1 hlp ef
  have hc : ckOf (some (r, rf ps1)) μ1 := R1.li
  have ec : compG (some (r, rf ps1)) (gvName 0) (bTru (vVar 0)) (vVar 0) (rf ps1) [none] μ1 = some (rf (ps1.filter fun e => !e.2.isEmpty), μ1) :=
    compG_pureC (dn := fun e : Nat × List Int => D.ref e.1) (fun Γ => ∃ o, Γ = [o]) hc ps1 [none] ⟨none, rfl⟩ (by
      rintro e hm Γ ⟨o, rfl⟩
      have t := tru_ref (R1.at_ e hm)
      exact ⟨[some (.ref e.1)], rfl, by simp [t], fun _ => rfl, _, rfl⟩)
  have ev : vCompM ["each"] [] (ivL (v1 (fFld A "kept") (vVar 0))) (gvName 0) (bTru (vVar 0)) (vVar 0) [some (.ref k), some (.int x), some (.ref e.1)] μ1 = some (.ref μ1.length, μ1 ++ [some (.lst (rf (ps1.filter fun e => !e.2.isEmpty)))]) := by
    have e1 : ivL (v1 (fFld A "kept") (vVar 0)) [some (.ref k), some (.int x), some (.ref e.1)] μ1 = some ((rf ps1, some (r, rf ps1)), μ1) := by simp [f_kept K1, lsC_ref R1.li]
    have e2 : capG (["each"] : List Str) [] [some (.ref k), some (.int x), some (.ref e.1)] = [none] := rfl
    have hl' : (rf ps1).length ≤ 1000000 := by simp [rf]; omega
    simp only [vCompM, e1, bs, if_pos hl', e2, ec]
  have f2 : Fr [e.1] μ (μ1 ++ [some (.lst (rf (ps1.filter fun e => !e.2.isEmpty)))]) := f1.trans (fr_app (F := [e.1])) fun j hj => .inl hj
  have ob2 : (μ1 ++ [some (O.lst (rf (ps1.filter fun e => !e.2.isEmpty)))])[k]? = some (some (.ins A (fl r .non p n))) := by rw [List.getElem?_append_left (K1.lt k (by simp))]; exact ob1
  have es := sF (A := A) (f := "kept") (Γ := [some (.ref k), some (.int x), some (.ref e.1)]) (μ := μ1) ev rfl ob2 fl_len pu_kept
  have hR : μ1.length ∉ ps1.map (·.1) := fun z => Nat.lt_irrefl _ (R1.lt _ (List.mem_cons_of_mem _ z))
  have hkn : k ≠ μ1.length := Nat.ne_of_lt (K1.lt k (by simp))
  have R3 : Rw ((μ1 ++ [some (O.lst (rf (ps1.filter fun e => !e.2.isEmpty)))]).set k (some (.ins A (fl μ1.length .non p n)))) μ1.length (ps1.filter fun e => !e.2.isEmpty) := R1.filt (by rw [set_get_ne (Ne.symm hkn)]; simp) (fun e he => by
    have hne : e.1 ≠ k := fun z => K1.nk (z ▸ mem_ft he)
    rw [set_get_ne hne, List.getElem?_append_left (R1.lt _ (mem_ft he))]) hR
  refine ⟨(μ1 ++ [some (O.lst (rf (ps1.filter fun e => !e.2.isEmpty)))]).set k (some (.ins A (fl μ1.length .non p n))), μ1.length, dn_ok (runX_nx (Γ1 := [some (.ref k), some (.int x), some (.ref e.1)]) rfl ?_), ⟨set_get ob2, R3, fun z => ?_⟩, ?_, fun j hj => ?_⟩
  · unfold ev_Keeper_go
    show sSeqX _ _ [some (.ref k), some (.int x), none] μ = _
    rw [seqX_nx (exprX_o (v_check rfl h))]
    rw [seqX_nx (Γ1 := [some (.ref k), some (.int x), some (.ref e.1)]) (μ1 := μ) (upS_s (o := .nx) (by simp [vMeth, noM_ok h (m := "group_with") (by decide +kernel), run_group_some h hf]))]
    rw [seqX_nx (Γ1 := [some (.ref k), some (.int x), some (.ref e.1)]) (μ1 := μ) (by
      rw [ifX_f (upB_s (b := false) (μ1 := μ) (by simp [fIsN]))]
      exact upS_s (o := .nx) rfl)]
    refine upS_s (o := .nx) ?_
    rw [sSeq_eq]
    have ls : lsOf μ (.ref e.1) = some (e.2.map D.int) := lsOf_ref g0
    have e0 : sExpr (v2l fRemove (vVar 2) (vVar 1)) [some (.ref k), some (.int x), some (.ref e.1)] μ = some (.nx, [some (.ref k), some (.int x), some (.ref e.1)], μ1) := by simp [ls, er]
    rw [e0, kSeq_nx, es]
  · rcases List.mem_cons.mp z with z | z
    · exact hkn z
    · obtain ⟨e', he', hz⟩ := List.mem_map.mp z
      exact K1.nk (hz ▸ mem_ft (List.mem_filter.mp he').1)
  · refine (f2.mono (fun j hj => by simp at hj; rw [hj]; exact List.mem_cons_of_mem _ (mem_ft he))).trans (fr_set (F := [k]) (by simp)) (fun j hj => .inl (by simp at hj; simp [hj]))
  · rcases List.mem_cons.mp hj with hj | hj
    · exact .inr (by rw [hj, ln1]; exact Nat.le_refl _)
    · obtain ⟨e', he', hz⟩ := List.mem_map.mp hj
      refine .inl ?_
      rw [← ef, ← hz]
      exact mem_ft (List.mem_filter.mp he').1
end
end Law
set_option Elab.async false
set_option linter.all false
set_option maxRecDepth 100000
set_option maxHeartbeats 0
namespace Law
open PySem L2 L3
section
variable {A C : Addr} {μ : M}
theorem run_cellat {ns : List Int} {j : Nat} : ∃ v : Int, mi_law_cell_at [.scr (ns.map D.int), .int (j : Nat)] μ = some (.int v, μ) := by
  by_cases hj : j < ns.length
  · have e1 : atI (ns.map D.int) ((j : Nat) : Int) = some (.int ns[j]) := atI_nat (by simp [hj])
    have hj' : ((j : Nat) : Int) < (ns.length : Int) := by omega
    exact ⟨ns[j], by simp [mi_law_cell_at, ev_law_cell_at, fLen, lsOf, hj', fIx, e1]⟩
  · have hj' : ¬ ((j : Nat) : Int) < (ns.length : Int) := by omega
    exact ⟨0, by simp [mi_law_cell_at, ev_law_cell_at, fLen, lsOf, hj']⟩
theorem big60 : (10 : Int) ^ 60 = 1000000000000000000000000000000000000000000000000000000000000 := by decide
theorem run_stir {c : Int} {j : Nat} (hj : j < 100) : ∃ v : Int, ∀ μ : M, mi_law_stir [.int c, .int (j : Nat)] μ = some (.int v, μ) := by
  have p1 : CPow 10 60 := ⟨by decide, by decide, by decide⟩
  have p2 : CPow 10 40 := ⟨by decide, by decide, by decide⟩
  have a1 := Int.emod_nonneg c (b := 10 ^ 60) (by decide)
  have a2 := Int.emod_lt_of_pos c (b := 10 ^ 60) (by decide)
  rw [big60] at a1 a2
  have c1 : CPos c (10 ^ (60 : Int).toNat) := by unfold CPos; decide
  have m1 : CMul 3 (j : Int) := .inl ⟨by decide, by decide⟩
  have m2 : CMul 2 (j : Int) := .inl ⟨by decide, by decide⟩
  have e60 : (10 : Int) ^ (60 : Int).toNat = 1000000000000000000000000000000000000000000000000000000000000 := by decide
  have e40 : (10 : Int) ^ (40 : Int).toNat = 10000000000000000000000000000000000000000 := by decide
  generalize hz : c % 1000000000000000000000000000000000000000000000000000000000000 + 3 * (j : Int) + 1 = z
  have z0 : 0 ≤ z := by omega
  have z1 : z < 2000000000000000000000000000000000000000000000000000000000000 := by omega
  have w1 : CMulB z (z + 2 * (j : Int)) := ⟨by omega, by omega⟩
  have w2 : CMulB (z * (z + 2 * (j : Int))) (z + 5) := by
    refine ⟨?_, by omega⟩
    rw [Int.natAbs_mul]
    have h1 : z.natAbs < 2 ^ 201 := by omega
    have h2 : (z + 2 * (j : Int)).natAbs < 2 ^ 202 := by omega
    have : z.natAbs * (z + 2 * (j : Int)).natAbs < 2 ^ 201 * 2 ^ 202 := Nat.mul_lt_mul'' h1 h2
    exact Nat.lt_trans this (by decide)
  have d1 : ∀ x, CDivW x 7 := fun x => by unfold CDivW; decide
  have d2 : ∀ x, CPos x 10000000000000000000000000000000000000000 := fun x => by unfold CPos; decide
  have d3 : ∀ x, CPos x 1000000000000000000000000000000000000000000000000000000000000 := fun x => by unfold CPos; decide
  exact ⟨_, fun μ => by simp only [mi_law_stir, ev_law_stir, runF_eq]; simp [p1, p2, m1, m2, fPlus, fTimes, e60, e40, d3, hz, w1, w2, d1, d2]; rfl⟩
theorem run_digit {c m : Int} {j : Nat} (hj : j < 100) (hm : 0 < m) : ∃ v : Nat, (∀ μ : M, mi_law_digit mi_law_stir [.int c, .int (j : Nat), .int m] μ = some (.int (v : Nat), μ)) ∧ (v : Int) < m := by
  have p1 : CPow 10 18 := ⟨by decide, by decide, by decide⟩
  have e18 : (10 : Int) ^ (18 : Int).toNat = 1000000000000000000 := by decide
  have hM : ∀ x, CPos x m := fun x => hm
  by_cases hc : (1000000000000000000 : Int) ≤ c
  · have m1 : CMul 16 (j : Int) := .inl ⟨by decide, by decide⟩
    have s1 : (0 : Int) ≤ 16 * (j : Int) := by omega
    have d1 : ∀ x, CPos x 65536 := fun x => by unfold CPos; decide
    generalize hz : c / 2 ^ (16 * (j : Int)).toNat % 65536 = z
    have h1 := Int.emod_nonneg z (b := m) (by omega)
    have h2 := Int.emod_lt_of_pos z hm
    refine ⟨(z % m).toNat, fun μ => ?_, by omega⟩
    have hr : (((z % m).toNat : Nat) : Int) = z % m := by omega
    rw [hr]
    simp only [mi_law_digit, ev_law_digit, runF_eq]
    simp [p1, e18, hc, fTimes, m1, s1, d1, hM, hz]
  · obtain ⟨v, ev⟩ := run_stir (c := c) hj
    have h1 := Int.emod_nonneg v (b := m) (by omega)
    have h2 := Int.emod_lt_of_pos v hm
    refine ⟨(v % m).toNat, fun μ => ?_, by omega⟩
    have hr : (((v % m).toNat : Nat) : Int) = v % m := by omega
    rw [hr]
    simp only [mi_law_digit, ev_law_digit, runF_eq]
    simp [p1, e18, hc, ev, hM]
end
end Law
set_option Elab.async false
set_option linter.all false
set_option maxRecDepth 100000
set_option maxHeartbeats 0
namespace Law
open PySem L2 L3
section
variable {A C C2 : Addr} {μ : M} {k r : Nat} {ps : Ps} {c : D} {p n : Int} {x : Int}
theorem check_no (h : Kr A μ k r ps (.int x) p n) : mi_Keeper_check_nothing_wanted A C [.ref k] μ = some (.ex C, μ) := by
  refine runX_ex (Γ1 := [some (.ref k)]) rfl ?_
  unfold ev_Keeper_check_nothing_wanted
  rw [ifX_t (upB_s (b := true) (μ1 := μ) (by simp [f_coming h, fNotN]))]
  exact raise_s (d := .str "an answer is wanted first") rfl
theorem v_check_no {Γ : G} (h0 : Γ[0]? = some (some (.ref k))) (h : Kr A μ k r ps (.int x) p n) : vMethX A "check_nothing_wanted" (mi_Keeper_check_nothing_wanted A C) (up (vVar 0)) (upL lNil) Γ μ = some (.ex C, μ) := by
  simp [vMethX, up, upL, vVar_eq, h0, noM_ok h (m := "check_nothing_wanted") (by decide +kernel), check_no h]
noncomputable abbrev miGo (A C C2 : Addr) : FX := mi_Keeper_go (mi_Keeper_group_with A) (mi_Keeper_check_nothing_wanted A C) A C2
noncomputable abbrev miMost (A C : Addr) : FX := mi_Keeper_most (mi_Keeper_check_nothing_wanted A C) A
noncomputable abbrev miGroups (A C : Addr) : FX := mi_Keeper_groups (mi_Keeper_check_nothing_wanted A C) A
noncomputable abbrev miHeard (A C : Addr) : FX := mi_Keeper_heard (mi_Keeper_check_nothing_wanted A C) A
theorem come_no {y : Int} (h : Kr A μ k r ps (.int x) p n) : miCome A C C2 [.ref k, .int y] μ = some (.ex C, μ) := by
  refine runX_ex (Γ1 := [some (.ref k), some (.int y)]) rfl ?_
  unfold ev_Keeper_come
  exact seqX_ex (exprX_e (v_check_no rfl h))
theorem go_no {y : Int} (h : Kr A μ k r ps (.int x) p n) : miGo A C C2 [.ref k, .int y] μ = some (.ex C, μ) := by
  refine runX_ex (Γ1 := [some (.ref k), some (.int y), none]) rfl ?_
  unfold ev_Keeper_go
  exact seqX_ex (exprX_e (v_check_no rfl h))
theorem most_no (h : Kr A μ k r ps (.int x) p n) : miMost A C [.ref k] μ = some (.ex C, μ) := by
  refine runX_ex (Γ1 := [some (.ref k), none, none]) rfl ?_
  unfold ev_Keeper_most
  exact seqX_ex (exprX_e (v_check_no rfl h))
theorem groups_no (h : Kr A μ k r ps (.int x) p n) : miGroups A C [.ref k] μ = some (.ex C, μ) := by
  refine runX_ex (Γ1 := [some (.ref k)]) rfl ?_
  unfold ev_Keeper_groups
  exact seqX_ex (exprX_e (v_check_no rfl h))
theorem heard_no (h : Kr A μ k r ps (.int x) p n) : miHeard A C [.ref k] μ = some (.ex C, μ) := by
  refine runX_ex (Γ1 := [some (.ref k)]) rfl ?_
  unfold ev_Keeper_heard
  exact seqX_ex (exprX_e (v_check_no rfl h))
theorem hear_no {b : Bool} (h : Kr A μ k r ps .non p n) : miHear A C [.ref k, .bl b] μ = some (.ex C, μ) := by
  refine runX_ex (Γ1 := [some (.ref k), some (.bl b)]) rfl ?_
  unfold ev_Keeper_hear
  refine seqX_ex ?_
  rw [ifX_t (upB_s (b := true) (μ1 := μ) (by simp [f_coming h, fIsN]))]
  exact raise_s (d := .str "nothing is asked for") rfl
theorem raiseM1 {Γ : G} {y : Int} {i : Nat} (h : Γ[i]? = some (some (.int y))) (hy : y.natAbs.log2 < 1920) : sRaiseM C ((vVar i) :: []) Γ μ = some (.ex C, Γ, μ) := by
  simp [sRaiseM, runM, vVar_eq, h, hy]
theorem come_name {y : Int} {e : Nat × List Int} (h : Kr A μ k r ps .non p n) (hf : ps.find? (fun e => decide (y ∈ e.2)) = some e) (hy : y.natAbs.log2 < 1920) : miCome A C C2 [.ref k, .int y] μ = some (.ex C2, μ) := by
  refine runX_ex (Γ1 := [some (.ref k), some (.int y)]) rfl ?_
  unfold ev_Keeper_come
  show sSeqX _ _ [some (.ref k), some (.int y)] μ = _
  rw [seqX_nx (exprX_o (v_check rfl h))]
  refine seqX_ex ?_
  rw [ifX_t (upB_s (b := true) (μ1 := μ) (by simp [vMeth, noM_ok h (m := "group_with") (by decide +kernel), run_group_some h hf, fNotN]))]
  exact raiseM1 rfl hy
theorem go_name {y : Int} (h : Kr A μ k r ps .non p n) (hf : ps.find? (fun e => decide (y ∈ e.2)) = none) (hy : y.natAbs.log2 < 1920) : miGo A C C2 [.ref k, .int y] μ = some (.ex C2, μ) := by
  refine runX_ex (Γ1 := [some (.ref k), some (.int y), some .non]) rfl ?_
  unfold ev_Keeper_go
  show sSeqX _ _ [some (.ref k), some (.int y), none] μ = _
  rw [seqX_nx (exprX_o (v_check rfl h))]
  rw [seqX_nx (Γ1 := [some (.ref k), some (.int y), some .non]) (μ1 := μ) (upS_s (o := .nx) (by simp [vMeth, noM_ok h (m := "group_with") (by decide +kernel), run_group_none h hf]))]
  refine seqX_ex ?_
  rw [ifX_t (upB_s (b := true) (μ1 := μ) (by simp [fIsN]))]
  exact raiseM1 rfl hy
end
end Law
set_option Elab.async false
set_option linter.all false
set_option maxRecDepth 100000
set_option maxHeartbeats 0
namespace Law
open PySem L2 L3
structure Fl (q1 q2 q3 q4 q5 q6 q7 q8 q9 : Addr → Option Bool) (C : Addr) (b1 b2 b3 b4 b5 b6 b7 b8 : Bool) : Prop where
  h1 : q1 C = some b1
  h2 : q2 C = some b2
  h3 : q3 C = some b3
  h4 : q4 C = some b4
  h5 : q5 C = some b5
  h6 : q6 C = some b6
  h7 : q7 C = some b7
  h8 : q8 C = some b8
  h9 : q9 C = some true
section
variable {qN qT qF qH qY qO qX qA qV : Addr → Option Bool} {C : Addr} {μ : M} {e : Nat}
theorem run_class {bN bT bF bH bY bO bX bA : Bool} (F : Fl qN qT qF qH qY qO qX qA qV C bN bT bF bH bY bO bX bA) (hk : μ[e]? = some (some (.exc C))) :
    mi_law_class qN qT qF qH qY qO qX qA qV [.ref e] μ = some (.lst ([bH, bF, bT, bN, bA, bX, bO, bY, false].map D.bl), μ) := by
  have x : ∀ q b, q C = some b → fIsiX q (.ref e) μ = some (.bl b, μ) := fun q b h => by simp only [fIsiX, hk, h, Option.bind_some]
  simp [mi_law_class, ev_law_class, x _ _ F.h1, x _ _ F.h2, x _ _ F.h3, x _ _ F.h4, x _ _ F.h5, x _ _ F.h6, x _ _ F.h7, x _ _ F.h8, x _ _ F.h9, fLst, fPlus, fCat, wlOf, fNot]
def names8 : List Str := ["NoThing", "NoFit", "TooMany", "NoName", "NoAsk", "NoText", "NoForm", "NoneYet"]
theorem ok8 : ∀ t ∈ names8, PyData.strOk t = true := by decide +kernel
theorem run_due {w : Str} (hw : PyData.strOk w = true) : mi_law_due [.str w] μ = some (.lst ((names8.map fun x => D.bl (decide (x = w))) ++ [.bl false]), μ) := by
  have ec : compG none (gvName 0) bYes (v2 fEq (vVar 0) (vVar 1)) (names8.map D.str) [none, some (.str w)] μ = some (names8.map fun x => D.bl (decide (x = w)), μ) := by
    have := compG_pure (g := gvName 0) (tc := bYes) (te := v2 fEq (vVar 0) (vVar 1)) (dn := D.str) (keep := fun _ => true) (val := fun x => D.bl (decide (x = w))) (fun Γ => ∃ o, Γ = [o, some (.str w)]) (μ := μ) names8 [none, some (.str w)] ⟨none, rfl⟩ (by
      rintro t ht Γ ⟨o, rfl⟩
      have h8 := ok8 t ht
      exact ⟨[some (.str t), some (.str w)], rfl, rfl, fun _ => by
        rw [e_2 (x := .str t) (μ1 := μ) (y := .str w) (μ2 := μ) rfl rfl, fEq_eq]
        simp [h8, hw, kB], _, rfl⟩)
    have e0 : names8.filter (fun _ => true) = names8 := List.filter_eq_self.mpr (by simp)
    rw [e0] at this
    exact this
  have e2 : capG (["name"] : List Str) [("word", 0)] [some (.str w), some (.lst (names8.map D.str))] = [none, some (.str w)] := rfl
  have s1 : sAsg (vL fLst (lCons (vC (.str "NoThing")) (lCons (vC (.str "NoFit")) (lCons (vC (.str "TooMany")) (lCons (vC (.str "NoName")) (lCons (vC (.str "NoAsk")) (lCons (vC (.str "NoText")) (lCons (vC (.str "NoForm")) (lCons (vC (.str "NoneYet")) lNil))))))))) (gvName 1) [some (.str w), none] μ = some (.nx, [some (.str w), some (.lst (names8.map D.str))], μ) := rfl
  have s2 : vComp ["name"] [("word", 0)] (ivL (vVar 1)) (gvName 0) bYes (v2 fEq (vVar 0) (vVar 1)) [some (.str w), some (.lst (names8.map D.str))] μ = some (.lst (names8.map fun x => D.bl (decide (x = w))), μ) := by
    have e3 : ivL (vVar 1) [some (.str w), some (.lst (names8.map D.str))] μ = some ((names8.map D.str, none), μ) := rfl
    rw [vComp_eq, e3, kComp_s, if_pos (by simp [names8]), e2, ec]
    rfl
  unfold mi_law_due ev_law_due
  rw [runF_eq, if_pos (show [D.str w].length = 1 from rfl)]
  show kRun (sSeq _ _ [some (.str w), none] μ) = _
  have s3 : vL fLst (lCons (vC (.bl false)) lNil) [some (.str w), some (.lst (names8.map D.str))] μ = some (.lst [.bl false], μ) := rfl
  rw [sSeq_eq, s1, kSeq_nx, sRet_eq, e_2 s2 s3]
  rfl
variable {A CA CN : Addr} {f : List D → M → Option (D × M)} {fc fg fh fm fr fe : FX} {cs : List Addr} {k : Nat} {x : Int} {fs : List D}
theorem done_at {way : Nat} (hC : C ∈ cs) (hf : ∀ (μ : M) (e : Nat), μ[e]? = some (some (.exc C)) → f [.ref e] μ = some (.lst fs, μ))
    (hn : ∀ m : Str, m ∈ (["come", "go", "hear", "most", "groups", "heard"] : List Str) → noM μ A m (.ref k) = true)
    (h : (way = 0 ∧ fc [.ref k, .int x] μ = some (.ex C, μ)) ∨ (way = 1 ∧ fg [.ref k, .int x] μ = some (.ex C, μ)) ∨ (way = 2 ∧ fh [.ref k, .bl (decide (x % 2 = 0))] μ = some (.ex C, μ)) ∨ (way = 3 ∧ fm [.ref k] μ = some (.ex C, μ)) ∨ (way = 4 ∧ fr [.ref k] μ = some (.ex C, μ)) ∨ (way = 5 ∧ fe [.ref k] μ = some (.ex C, μ))) :
    ∃ μ', mi_law_done f fc fg fh fm fr fe A cs [.ref k, .int (way : Nat), .int x] μ = some (.lst fs, μ') ∧ Fr [] μ μ' := by
  refine ⟨μ ++ [some (.exc C)], ?_, fr_app⟩
  have hex : (μ ++ [some (O.exc C)])[μ.length]? = some (some (.exc C)) := by simp
  have hfx := hf (μ ++ [some (.exc C)]) μ.length hex
  have p2 : CPos x 2 := by unfold CPos; decide
  have n1 := hn "come" (by simp)
  have n2 := hn "go" (by simp)
  have n3 := hn "hear" (by simp)
  have n4 := hn "most" (by simp)
  have n5 := hn "groups" (by simp)
  have n6 := hn "heard" (by simp)
  have body : ∀ (b : SX), b [some (.ref k), some (.int (way : Nat)), some (.int x), some (.str "told"), none] μ = some (.ex C, [some (.ref k), some (.int (way : Nat)), some (.int x), some (.str "told"), none], μ) →
      kRun (sSeq (sAsg (vC (.str "told")) (gvName 3)) (sSeq (sTry cs 4 b (sAsg (vL f (lCons (vVar 4) lNil)) (gvName 3))) (sRet (vVar 3))) [some (.ref k), some (.int (way : Nat)), some (.int x), none, none] μ) = some (.lst fs, μ ++ [some (.exc C)]) := by
    intro b hb
    have s1 : sAsg (vC (.str "told")) (gvName 3) [some (.ref k), some (.int (way : Nat)), some (.int x), none, none] μ = some (.nx, [some (.ref k), some (.int (way : Nat)), some (.int x), some (.str "told"), none], μ) := rfl
    have s2 : (sAsg (vL f (lCons (vVar 4) lNil)) (gvName 3)) [some (.ref k), some (.int (way : Nat)), some (.int x), some (.str "told"), some (.ref μ.length)] (μ ++ [some (.exc C)]) = some (.nx, [some (.ref k), some (.int (way : Nat)), some (.int x), some (.lst fs), some (.ref μ.length)], μ ++ [some (.exc C)]) := by
      simp [hfx]
    rw [sSeq_eq, s1, kSeq_nx, sSeq_eq, try_ex hb hC s2]
    rfl
  unfold mi_law_done ev_law_done
  rw [runF_eq, if_pos (show [D.ref k, D.int (way : Nat), D.int x].length = 3 from rfl)]
  refine body _ ?_
  have t : ∀ j : Int, (upB (vT (v2 fEq (vVar 1) (vC (.int j))))) [some (.ref k), some (.int (way : Nat)), some (.int x), some (.str "told"), none] μ = some (.ok (decide (((way : Nat) : Int) = j)), μ) := fun j => upB_s (by simp)
  rcases h with ⟨rfl, h⟩ | ⟨rfl, h⟩ | ⟨rfl, h⟩ | ⟨rfl, h⟩ | ⟨rfl, h⟩ | ⟨rfl, h⟩
  · rw [ifX_t (t 0)]
    exact exprX_e (by simp [vMethX, up, upL, n1, h])
  · rw [ifX_f (t 0), ifX_t (t 1)]
    exact exprX_e (by simp [vMethX, up, upL, n2, h])
  · rw [ifX_f (t 0), ifX_f (t 1), ifX_t (t 2)]
    exact exprX_e (by simp [vMethX, up, upL, n3, p2, kB, h])
  · rw [ifX_f (t 0), ifX_f (t 1), ifX_f (t 2), ifX_t (t 3)]
    exact exprX_e (by simp [vMethX, up, upL, n4, h])
  · rw [ifX_f (t 0), ifX_f (t 1), ifX_f (t 2), ifX_f (t 3), ifX_t (t 4)]
    exact exprX_e (by simp [vMethX, up, upL, n5, h])
  · rw [ifX_f (t 0), ifX_f (t 1), ifX_f (t 2), ifX_f (t 3), ifX_f (t 4)]
    exact exprX_e (by simp [vMethX, up, upL, n6, h])
end
end Law
set_option Elab.async false
set_option linter.all false
set_option maxRecDepth 100000
set_option maxHeartbeats 0
namespace Law
open PySem L2 L3
theorem perm_set {x : Int} {row : List Int} : ∀ (rows : List (List Int)) (t : Nat), rows[t]? = some row → (rows.set t (row ++ [x])).flatten.Perm (x :: rows.flatten)
  | [], _, h => by simp at h
  | a :: r, 0, h => by
    have : a = row := by simpa using h
    subst this
    simp only [List.set_cons_zero, List.flatten_cons, List.append_assoc, List.singleton_append]
    exact List.perm_middle
  | a :: r, t + 1, h => by
    have ih := perm_set (x := x) r t (by simpa using h)
    simp only [List.set_cons_succ, List.flatten_cons]
    exact (ih.append_left a).trans List.perm_middle
theorem rw_set {t : Nat} {q : Nat} {row : List Int} (ps : Ps) : rw_ (ps.set t (q, row)) = (rw_ ps).set t row := by simp [rw_, List.map_set]
theorem rw_app {q : Nat} {row : List Int} (ps : Ps) : rw_ (ps ++ [(q, row)]) = rw_ ps ++ [row] := by simp [rw_]
section
variable {A C C2 : Addr} {k r : Nat} {x : Int} {t : BV} {body : SV} {GI : G → Prop}
theorem wh_f {μ : M} {Γ : G} {n : Nat} (h : t Γ μ = some (false, μ)) : whileG t body (n + 1) Γ μ = some (.nx, Γ, μ) := by simp [whileG, h]
theorem wh_t {μ μ1 : M} {Γ Γ1 : G} {n : Nat} (h : t Γ μ = some (true, μ)) (hb : body Γ μ = some (.nx, Γ1, μ1)) : whileG t body (n + 1) Γ μ = whileG t body n Γ1 μ1 := by simp [whileG, h, hb]
structure After (x : Int) (ps ps' : Ps) : Prop where
  pm : (rw_ ps').flatten.Perm (x :: (rw_ ps).flatten)
  ne : ∀ e ∈ ps', e.2 ≠ []
  hd : ∀ q y t, ps[0]? = some (q, y :: t) → ∃ t', ps'[0]? = some (q, y :: t')
theorem wh_loop (hN : ∀ Γ μ ps p n, GI Γ → Kr A μ k r ps .non p n → t Γ μ = some (false, μ))
    {ps : Ps} (hW : ∀ Γ μ (i : Nat) n q y tl, GI Γ → Kr A μ k r ps (.int x) (i : Nat) n → ps[i]? = some (q, y :: tl) → y ∈ (rw_ ps).flatten → t Γ μ = some (true, μ) ∧ ∃ b, ∀ μ1, dn (miHear A C) [.ref k, .bl b] μ = some (.non, μ1) → ∃ Γ', body Γ μ = some (.nx, Γ', μ1) ∧ GI Γ')
    (hl : ps.length < 100) (hlr : ∀ e ∈ ps, e.2.length < 100) (hne : ∀ e ∈ ps, e.2 ≠ []) :
    ∀ (m i : Nat) (Γ : G) (μ : M) (n : Int) (fuel : Nat), ps.length - i = m → i < ps.length → GI Γ → Kr A μ k r ps (.int x) (i : Nat) n →
      ∃ Γ' μ' ps' p' n', whileG t body (m + 1 + fuel) Γ μ = some (.nx, Γ', μ') ∧ GI Γ' ∧ Kr A μ' k r ps' .non p' n' ∧ Fr (k :: ft r ps) μ μ' ∧ After x ps ps' := by
  intro m
  induction m with
  | zero => intro i Γ μ n fuel h1 h2; omega
  | succ m ih =>
    intro i Γ μ n fuel hm hi hG K
    have he : ps[i]? = some ps[i] := List.getElem?_eq_getElem hi
    generalize ps[i] = e at he
    have hme := List.mem_of_getElem? he
    obtain ⟨q, row⟩ := e
    cases row with
    | nil => exact absurd rfl (hne _ hme)
    | cons y tl =>
    have hyf : y ∈ (rw_ ps).flatten := List.mem_flatten.mpr ⟨y :: tl, List.mem_map.mpr ⟨_, hme, rfl⟩, by simp⟩
    obtain ⟨t1, b, hb⟩ := hW Γ μ i n q y tl hG K he hyf
    have ef : m + 1 + 1 + fuel = (m + 1 + fuel) + 1 := by omega
    rw [ef]
    cases b with
    | true =>
      obtain ⟨μ1, e1, K1, f1⟩ := run_hear_yes (C := C) K he (by have := hlr _ hme; omega)
      obtain ⟨Γ1, eb, G1⟩ := hb μ1 e1
      have ef2 : m + 1 + fuel = (m + fuel) + 1 := by omega
      refine ⟨Γ1, μ1, _, _, _, ?_, G1, K1, f1, ⟨?_, ?_, ?_⟩⟩
      · rw [wh_t t1 eb, ef2, wh_f (hN _ _ _ _ _ G1 K1)]
      · rw [rw_set]; exact perm_set (rw_ ps) i (by simp [rw_, he])
      · intro e' he'
        obtain ⟨j, hj⟩ := List.getElem?_of_mem he'
        rw [List.getElem?_set] at hj
        split at hj
        · first
            | (cases hj; simp)
            | (rw [if_pos hi] at hj; cases hj; simp)
        · exact hne e' (List.mem_of_getElem? hj)
      · intro q' y' t' h0
        rw [List.getElem?_set]
        split
        · rename_i hi0
          subst hi0
          try rw [if_pos hi]
          rw [he] at h0
          cases h0
          exact ⟨_, rfl⟩
        · exact ⟨t', h0⟩
    | false =>
      by_cases hlast : i + 1 < ps.length
      · obtain ⟨μ1, e1, K1, f1⟩ := run_hear_more (C := C) K hlast
        obtain ⟨Γ1, eb, G1⟩ := hb μ1 e1
        obtain ⟨Γ', μ', ps', p', n', a1, a2, a3, a4, a5⟩ := ih (i + 1) Γ1 μ1 _ fuel (by omega) hlast G1 K1
        exact ⟨Γ', μ', ps', p', n', by rw [wh_t t1 eb, a1], a2, a3, f1.trans a4 fun j hj => .inl hj, a5⟩
      · obtain ⟨μ1, g, e1, K1, f1, hg⟩ := run_hear_last (C := C) K (by omega) (by omega)
        obtain ⟨Γ1, eb, G1⟩ := hb μ1 e1
        have ef2 : m + 1 + fuel = (m + fuel) + 1 := by omega
        refine ⟨Γ1, μ1, _, _, _, by rw [wh_t t1 eb, ef2, wh_f (hN _ _ _ _ _ G1 K1)], G1, K1, f1, ⟨?_, ?_, ?_⟩⟩
        · rw [rw_app, List.flatten_append]
          simp only [List.flatten_cons, List.flatten_nil, List.append_nil]
          exact List.perm_append_comm.trans (.refl _)
        · intro e' he'
          rcases List.mem_append.mp he' with h | h
          · exact hne e' h
          · simp at h; rw [h]; simp
        · intro q' y' t' h0
          exact ⟨t', by rw [List.getElem?_append_left (List.getElem?_eq_some_iff.mp h0).1]; exact h0⟩
theorem wh_false (hN : ∀ Γ μ ps p n, GI Γ → Kr A μ k r ps .non p n → t Γ μ = some (false, μ))
    (hW : ∀ Γ μ (i : Nat) ps n q y tl, GI Γ → Kr A μ k r ps (.int x) (i : Nat) n → ps[i]? = some (q, y :: tl) → t Γ μ = some (true, μ) ∧ ∀ μ1, dn (miHear A C) [.ref k, .bl false] μ = some (.non, μ1) → ∃ Γ', body Γ μ = some (.nx, Γ', μ1) ∧ GI Γ')
    {ps : Ps} (hl : ps.length < 100) (hne : ∀ e ∈ ps, e.2 ≠ []) :
    ∀ (m i : Nat) (Γ : G) (μ : M) (n : Int) (fuel : Nat), ps.length - i = m → i < ps.length → GI Γ → Kr A μ k r ps (.int x) (i : Nat) n →
      ∃ Γ' μ' g p' n', whileG t body (m + 1 + fuel) Γ μ = some (.nx, Γ', μ') ∧ GI Γ' ∧ Kr A μ' k r (ps ++ [(g, [x])]) .non p' n' ∧ Fr (k :: ft r ps) μ μ' := by
  intro m
  induction m with
  | zero => intro i Γ μ n fuel h1 h2; omega
  | succ m ih =>
    intro i Γ μ n fuel hm hi hG K
    have he : ps[i]? = some ps[i] := List.getElem?_eq_getElem hi
    generalize ps[i] = e at he
    have hme := List.mem_of_getElem? he
    obtain ⟨q, row⟩ := e
    cases row with
    | nil => exact absurd rfl (hne _ hme)
    | cons y tl =>
    obtain ⟨t1, hb⟩ := hW Γ μ i ps n q y tl hG K he
    have ef : m + 1 + 1 + fuel = (m + 1 + fuel) + 1 := by omega
    rw [ef]
    by_cases hlast : i + 1 < ps.length
    · obtain ⟨μ1, e1, K1, f1⟩ := run_hear_more (C := C) K hlast
      obtain ⟨Γ1, eb, G1⟩ := hb μ1 e1
      obtain ⟨Γ', μ', g, p', n', a1, a2, a3, a4⟩ := ih (i + 1) Γ1 μ1 _ fuel (by omega) hlast G1 K1
      exact ⟨Γ', μ', g, p', n', by rw [wh_t t1 eb, a1], a2, a3, f1.trans a4 fun j hj => .inl hj⟩
    · obtain ⟨μ1, g, e1, K1, f1, hg⟩ := run_hear_last (C := C) K (by omega) (by omega)
      obtain ⟨Γ1, eb, G1⟩ := hb μ1 e1
      have ef2 : m + 1 + fuel = (m + fuel) + 1 := by omega
      exact ⟨Γ1, μ1, g, _, _, by rw [wh_t t1 eb, ef2, wh_f (hN _ _ _ _ _ G1 K1)], G1, K1, f1⟩
end
end Law
set_option Elab.async false
set_option linter.all false
set_option maxRecDepth 100000
set_option maxHeartbeats 0
namespace Law
open PySem L2 L3
section
variable {A C C2 : Addr} {μ : M}
theorem run_make {Γ : G} : ∃ μ', vMake A (mi_Keeper___init A) lNil Γ μ = some (.ref μ.length, μ') ∧ Kr A μ' μ.length (μ.length + 1) [] .non 0 0 ∧ Fr [] μ μ' ∧ μ'.length = μ.length + 2 := by
  have n1 : ¬ (("kept" : Str) = "coming") := ne_of_beq q1
  have n2 : ¬ (("kept" : Str) = "passed") := ne_of_beq q2
  have n3 : ¬ (("kept" : Str) = "answered") := ne_of_beq q3
  have n4 : ¬ (("coming" : Str) = "passed") := ne_of_beq q4
  have n5 : ¬ (("coming" : Str) = "answered") := ne_of_beq q5
  have n6 : ¬ (("passed" : Str) = "answered") := ne_of_beq q6
  refine ⟨(μ ++ [some (.ins A (fl (μ.length + 1) .non 0 0)), some (.lst [])]), ?_, ⟨by simp, ⟨by simp [rf], by simp, by simp [ft]⟩, by simp [ft]⟩, ⟨by simp, fun j hj _ => List.getElem?_append_left hj⟩, by simp⟩
  simp [vMake, mi_Keeper___init, ev_Keeper___init, sFldS, fNew, putFD, n1, n2, n3, n4, n5, n6, fl]
theorem vm {k rk : Nat} {psK : Ps} {cc : D} {p n : Int} {m : Str} {g : List D → M → Option (D × M)} {Γ : G} {i : Nat} {z : D} {μ' : M} (P : Kr A μ k rk psK cc p n) (hi : Γ[i]? = some (some (.ref k))) (hm : okM m = true) (h : g [.ref k] μ = some (z, μ')) : vMeth A m g (vVar i) lNil Γ μ = some (z, μ') := by
  simp [vMeth, vVar_eq, hi, noM_ok P hm, h]
theorem vm1 {k rk : Nat} {psK : Ps} {cc : D} {p n : Int} {m : Str} {g : List D → M → Option (D × M)} {Γ : G} {i : Nat} {ea : EV} {a z : D} {μ' : M} (P : Kr A μ k rk psK cc p n) (hi : Γ[i]? = some (some (.ref k))) (hm : okM m = true) (ha : ea Γ μ = some (a, μ)) (h : g [.ref k, a] μ = some (z, μ')) : vMeth A m g (vVar i) (lCons ea lNil) Γ μ = some (z, μ') := by
  simp [vMeth, vVar_eq, hi, noM_ok P hm, ha, h]
structure Md (j : Nat) (ps : Ps) : Prop where
  mem : ∀ y, y ∈ (rw_ ps).flatten ↔ ∃ t : Nat, t < j ∧ y = 10 * (t : Int)
  nd : (rw_ ps).flatten.Nodup
  ln : (rw_ ps).flatten.length = j
  ne : ∀ e ∈ ps, e.2 ≠ []
  hd : 0 < j → ∃ q t, ps[0]? = some (q, 0 :: t)
theorem len_rows : ∀ (rows : List (List Int)), (∀ row ∈ rows, row ≠ []) → rows.length ≤ rows.flatten.length
  | [], _ => Nat.le_refl _
  | a :: r, h => by
    have ih := len_rows r fun row hr => h row (by simp [hr])
    have : 0 < a.length := List.length_pos_iff.mpr (h a (by simp))
    simp
    simp at ih
    omega
theorem Md.few {j : Nat} {ps : Ps} (h : Md j ps) : ps.length ≤ j ∧ ∀ e ∈ ps, e.2.length ≤ j := by
  have h1 := len_rows (rw_ ps) fun row hr => by obtain ⟨e, he, rfl⟩ := List.mem_map.mp hr; exact h.ne e he
  have h2 : (rw_ ps).length = ps.length := by simp [rw_]
  have := h.ln
  refine ⟨by omega, fun e he => ?_⟩
  have hs := (List.sublist_flatten_of_mem (List.mem_map.mpr ⟨e, he, rfl⟩ : e.2 ∈ rw_ ps)).length_le
  rw [← h.ln]
  exact hs
theorem Md.find {j : Nat} {ps : Ps} {y : Int} (h : Md j ps) (hy : ∀ t : Nat, t < j → y ≠ 10 * (t : Int)) : ps.find? (fun e => decide (y ∈ e.2)) = none := by
  rw [List.find?_eq_none]
  intro e he z
  obtain ⟨t, h1, h2⟩ := (h.mem y).mp (List.mem_flatten.mpr ⟨e.2, List.mem_map.mpr ⟨e, he, rfl⟩, by simpa using z⟩)
  exact hy t h1 h2
theorem Md.found {j : Nat} {ps : Ps} {t : Nat} (h : Md j ps) (ht : t < j) : ∃ e, ps.find? (fun e => decide ((10 * (t : Int)) ∈ e.2)) = some e := by
  cases hf : ps.find? (fun e => decide ((10 * (t : Int)) ∈ e.2)) with
  | some e => exact ⟨e, rfl⟩
  | none =>
    obtain ⟨row, h1, h2⟩ := List.mem_flatten.mp ((h.mem (10 * (t : Int))).mpr ⟨t, ht, rfl⟩)
    obtain ⟨e, he, rfl⟩ := List.mem_map.mp h1
    have := List.find?_eq_none.mp hf e he
    simp [h2] at this
theorem Md.next {j : Nat} {ps ps' : Ps} (h : Md j ps) (a : After (10 * (j : Int)) ps ps') (hj : 0 < j) : Md (j + 1) ps' where
  mem y := by
    rw [a.pm.mem_iff, List.mem_cons, h.mem]
    constructor
    · rintro (z | ⟨t, h1, h2⟩)
      · exact ⟨j, by omega, z⟩
      · exact ⟨t, by omega, h2⟩
    · rintro ⟨t, h1, h2⟩
      by_cases e : t = j
      · exact .inl (by rw [h2, e])
      · exact .inr ⟨t, by omega, h2⟩
  nd := a.pm.nodup_iff.mpr (List.nodup_cons.mpr ⟨fun z => by obtain ⟨t, h1, h2⟩ := (h.mem _).mp z; omega, h.nd⟩)
  ln := by rw [a.pm.length_eq, List.length_cons, h.ln]
  ne := a.ne
  hd _ := by
    obtain ⟨q, t, h0⟩ := h.hd hj
    obtain ⟨t', h1⟩ := a.hd q 0 t h0
    exact ⟨q, t', h1⟩
noncomputable abbrev wT (A : Addr) (i : Nat) : BV := vT (v2 fNotN (vMeth A "wants" (mi_Keeper_wants A) (vVar i) lNil) (vC .non))
theorem wT_no {k rk i : Nat} {ps : Ps} {p n : Int} {Γ : G} (K : Kr A μ k rk ps .non p n) (h : Γ[i]? = some (some (.ref k))) : wT A i Γ μ = some (false, μ) := by
  rw [wT, vT_eq, e_2 (vm K h (by decide +kernel) (run_wants_non K)) vC_eq]; rfl
theorem wT_yes {k rk i j : Nat} {ps : Ps} {n : Int} {x y : Int} {q : Nat} {t : List Int} {Γ : G} (K : Kr A μ k rk ps (.int x) (j : Nat) n) (he : ps[j]? = some (q, y :: t)) (h : Γ[i]? = some (some (.ref k))) : wT A i Γ μ = some (true, μ) := by
  rw [wT, vT_eq, e_2 (vm K h (by decide +kernel) (run_wants (g := 0) K he)) vC_eq]; rfl
noncomputable abbrev madeB (A C : Addr) : SV := (sSeq (sAsg (vMeth A "wants" (mi_Keeper_wants A) (vVar 2) lNil) (gvTup 2 (gvCons (gvName 4) (gvCons (gvName 5) gvNil))))
        (sExpr (vMeth A "hear" (dn (miHear A C)) (vVar 2) (lCons (v2 fEq (vL (mi_law_digit mi_law_stir) (lCons (vVar 0) (lCons (v2 fDiv (vVar 4) (vC (.int 10))) (lCons (vC (.int 3)) lNil)))) (vL (mi_law_digit mi_law_stir) (lCons (vVar 0) (lCons (v2 fDiv (vVar 5) (vC (.int 10))) (lCons (vC (.int 3)) lNil))))) lNil))))
theorem run_madeB {k rk j : Nat} {ps : Ps} {n c : Int} {x1 x3 x4 x5 : Option D} {i : Nat} {q t t2 : Nat} {tl : List Int} (K : Kr A μ k rk ps (.int (10 * (t2 : Int))) (i : Nat) n) (he : ps[i]? = some (q, 10 * (t : Int) :: tl)) (ht : t < 100) (ht2 : t2 < 100) :
    ∃ b, ∀ μ1, dn (miHear A C) [.ref k, .bl b] μ = some (.non, μ1) → madeB A C [some (.int c), x1, some (.ref k), x3, x4, x5] μ = some (.nx, [some (.int c), x1, some (.ref k), x3, some (.int (10 * (t : Int))), some (.int (10 * (t2 : Int)))], μ1) := by
  obtain ⟨v, hv, _⟩ := run_digit (c := c) (j := t) (m := 3) ht (by decide)
  obtain ⟨v2', hv2, _⟩ := run_digit (c := c) (j := t2) (m := 3) ht2 (by decide)
  refine ⟨decide (((v : Nat) : Int) = ((v2' : Nat) : Int)), fun μ1 h => ?_⟩
  have d1 : ∀ z, CDivW z 10 := fun z => by unfold CDivW; decide
  have q1 : (10 * (t : Int)) / 10 = (t : Int) := by omega
  have q2 : (10 * (t2 : Int)) / 10 = (t2 : Int) := by omega
  have w := vm (i := 2) (m := "wants") (Γ := [some (.int c), x1, some (.ref k), x3, x4, x5]) K rfl (by decide +kernel) (run_wants (g := 0) K he)
  have s1 : (sAsg (vMeth A "wants" (mi_Keeper_wants A) (vVar 2) lNil) (gvTup 2 (gvCons (gvName 4) (gvCons (gvName 5) gvNil)))) [some (.int c), x1, some (.ref k), x3, x4, x5] μ = some (.nx, [some (.int c), x1, some (.ref k), x3, some (.int (10 * (t : Int))), some (.int (10 * (t2 : Int)))], μ) := by
    rw [sAsg_eq, w]; rfl
  have a := vm1 (i := 2) (m := "hear") (g := dn (miHear A C)) (Γ := [some (.int c), x1, some (.ref k), x3, some (.int (10 * (t : Int))), some (.int (10 * (t2 : Int)))]) (ea := v2 fEq (vL (mi_law_digit mi_law_stir) (lCons (vVar 0) (lCons (v2 fDiv (vVar 4) (vC (.int 10))) (lCons (vC (.int 3)) lNil)))) (vL (mi_law_digit mi_law_stir) (lCons (vVar 0) (lCons (v2 fDiv (vVar 5) (vC (.int 10))) (lCons (vC (.int 3)) lNil))))) (a := .bl (decide (((v : Nat) : Int) = ((v2' : Nat) : Int)))) K rfl (by decide +kernel) (by
    have e1 : vL (mi_law_digit mi_law_stir) (lCons (vVar 0) (lCons (v2 fDiv (vVar 4) (vC (.int 10))) (lCons (vC (.int 3)) lNil))) [some (.int c), x1, some (.ref k), x3, some (.int (10 * (t : Int))), some (.int (10 * (t2 : Int)))] μ = some (.int (v : Nat), μ) := by simp [d1, q1, hv]
    have e2 : vL (mi_law_digit mi_law_stir) (lCons (vVar 0) (lCons (v2 fDiv (vVar 5) (vC (.int 10))) (lCons (vC (.int 3)) lNil))) [some (.int c), x1, some (.ref k), x3, some (.int (10 * (t : Int))), some (.int (10 * (t2 : Int)))] μ = some (.int (v2' : Nat), μ) := by simp [d1, q2, hv2]
    rw [e_2 e1 e2, fEq_eq, eqD_int]; rfl) h
  rw [madeB, sSeq_eq, s1, kSeq_nx, sExpr_eq, a]; rfl
end
end Law
set_option Elab.async false
set_option linter.all false
set_option maxRecDepth 100000
set_option maxHeartbeats 0
namespace Law
open PySem L2 L3
section
variable {A C C2 : Addr} {μ : M}
theorem run_made {c : Int} {many : Nat} (hm : many ≤ 6) : ∃ μ' r ps p n, mi_law_made (mi_Keeper___init A) (dn (miCome A C C2)) (mi_Keeper_wants A) (dn (miHear A C)) (mi_law_digit mi_law_stir) A [.int c, .int (many : Nat)] [] = some (.ref 0, μ') ∧ Kr A μ' 0 r ps .non p n ∧ Md many ps ∧ (many = 0 → n = 0) := by
  obtain ⟨μ1, e1, K1, _, _⟩ := run_make (A := A) (μ := []) (Γ := [some (.int c), some (.int (many : Nat)), none, none, none, none])
  have s1 : sAsg (vMake A (mi_Keeper___init A) lNil) (gvName 2) [some (.int c), some (.int (many : Nat)), none, none, none, none] [] = some (.nx, [some (.int c), some (.int (many : Nat)), some (.ref 0), none, none, none], μ1) := by rw [sAsg_eq, e1]; rfl
  have ei : ivR (vVar 1) [some (.int c), some (.int (many : Nat)), some (.ref 0), none, none, none] μ1 = some ((rngD 0 many, none), μ1) := by
    have : (-1000000000 : Int) ≤ (many : Int) ∧ (many : Int) ≤ 1000000000 := by omega
    simp [this]
  obtain ⟨Γ', μ', el, o3, o4, o5, ps, p, n, hΓ, K, M', h0⟩ := forG_ix (c := none) (g := gvName 3) (body := sSeq (sExpr (vMeth A "come" (dn (miCome A C C2)) (vVar 2) (lCons (v2 fTimes (vC (.int 10)) (vVar 3)) lNil))) (whileG (wT A 2) (madeB A C) 1000000))
    (fun i Γ μ => ∃ o3 o4 o5 ps p n, Γ = [some (.int c), some (.int (many : Nat)), some (.ref 0), o3, o4, o5] ∧ Kr A μ 0 1 ps .non p n ∧ Md i ps ∧ (i = 0 → n = 0))
    (rngD 0 many) 0 [some (.int c), some (.int (many : Nat)), some (.ref 0), none, none, none] μ1 ⟨none, none, none, [], 0, 0, rfl, K1, ⟨fun y => by simp [rw_], by simp [rw_], by simp [rw_], by simp, by simp⟩, fun _ => rfl⟩
    (by
      intro j d Γ μ hj ⟨o3, o4, o5, ps, p, n, hΓ, K, M', h0⟩
      subst hΓ
      obtain ⟨hjN, rfl⟩ := rngD_get hj
      rw [Nat.zero_add] at M' h0 ⊢
      have hfew := M'.few
      have m1 : CMul 10 (0 + (j : Int)) := .inl ⟨by decide, by decide⟩
      have ha : (v2 fTimes (vC (.int 10)) (vVar 3)) [some (.int c), some (.int (many : Nat)), some (.ref 0), some (.int (0 + (j : Int))), o4, o5] μ = some (.int (10 * (j : Int)), μ) := by
        rw [e_2 (x := .int 10) (μ1 := μ) (y := .int (0 + (j : Int))) (μ2 := μ) rfl rfl]
        simp [fTimes, CMul]
      have hg : gvName 3 (.int (0 + (j : Int))) [some (.int c), some (.int (many : Nat)), some (.ref 0), o3, o4, o5] μ = some ([some (.int c), some (.int (many : Nat)), some (.ref 0), some (.int (0 + (j : Int))), o4, o5], μ) := rfl
      by_cases hnil : ps = []
      · subst hnil
        have hj0 : j = 0 := by have := M'.ln; simpa [rw_] using this.symm
        subst hj0
        obtain ⟨μ2, g, e2, K2, f2, _⟩ := run_come_nil (C := C) (C2 := C2) (x := 10 * ((0 : Nat) : Int)) K
        have a := vm1 (i := 2) (m := "come") (Γ := [some (.int c), some (.int (many : Nat)), some (.ref 0), some (.int (0 + ((0 : Nat) : Int))), o4, o5]) K rfl (by decide +kernel) ha e2
        refine ⟨_, μ, [some (.int c), some (.int (many : Nat)), some (.ref 0), some (.int (0 + ((0 : Nat) : Int))), o4, o5], μ2, hg, ?_, trivial, _, _, _, [(g, [10 * ((0 : Nat) : Int)])], _, n, rfl, K2, ⟨fun y => ?_, by simp [rw_], by simp [rw_], by simp, fun _ => ⟨g, [], by simp⟩⟩, fun z => by omega⟩
        · rw [sSeq_eq, sExpr_eq, a, kEx_s, kSeq_nx]
          exact wh_f (n := 999999) (wT_no K2 rfl)
        · simp [rw_]
      · have hjp : 0 < j := by
          have := M'.ln
          have h3 := len_rows (rw_ ps) fun row hr => by obtain ⟨e, he, rfl⟩ := List.mem_map.mp hr; exact M'.ne e he
          have h4 : (rw_ ps).length = ps.length := by simp [rw_]
          have h5 : 0 < ps.length := List.length_pos_iff.mpr hnil
          omega
        obtain ⟨μ2, e2, K2, f2⟩ := run_come_cons (C := C) (C2 := C2) (x := 10 * (j : Int)) K (M'.find fun t ht z => by omega) hnil
        have a := vm1 (i := 2) (m := "come") (Γ := [some (.int c), some (.int (many : Nat)), some (.ref 0), some (.int (0 + (j : Int))), o4, o5]) K rfl (by decide +kernel) ha e2
        obtain ⟨Γ3, μ3, ps3, p3, n3, e3, G3, K3, f3, A3⟩ := wh_loop (C := C) (k := 0) (r := 1) (x := 10 * (j : Int)) (t := wT A 2) (body := madeB A C) (GI := fun Γ => ∃ o4 o5, Γ = [some (.int c), some (.int (many : Nat)), some (.ref 0), some (.int (0 + (j : Int))), o4, o5]) (ps := ps)
          (fun Γ μ ps p n ⟨_, _, hG⟩ K => wT_no K (by rw [hG]; rfl))
          (fun Γ μ i n q y tl ⟨o4, o5, hG⟩ K he hy => by
            obtain ⟨t, ht, rfl⟩ := (M'.mem y).mp hy
            refine ⟨wT_yes K he (by rw [hG]; rfl), ?_⟩
            obtain ⟨b, hb⟩ := run_madeB (C := C) (j := j) (c := c) (x1 := some (.int (many : Nat))) (x3 := some (.int (0 + (j : Int)))) (x4 := o4) (x5 := o5) K he (by omega) (by omega)
            exact ⟨b, fun μ1 h => ⟨_, by rw [hG]; exact hb μ1 h, _, _, rfl⟩⟩)
          (by omega) (fun e he => by have := hfew.2 e he; omega) M'.ne ps.length 0 [some (.int c), some (.int (many : Nat)), some (.ref 0), some (.int (0 + (j : Int))), o4, o5] μ2 n (1000000 - (ps.length + 1)) (by omega) (List.length_pos_iff.mpr hnil) ⟨o4, o5, rfl⟩ K2
        obtain ⟨p4, p5, hG3⟩ := G3
        have ef : ps.length + 1 + (1000000 - (ps.length + 1)) = 1000000 := by omega
        rw [ef] at e3
        refine ⟨_, μ, Γ3, μ3, hg, ?_, trivial, some (.int (0 + (j : Int))), p4, p5, ps3, p3, n3, hG3, K3, M'.next A3 hjp, fun z => by omega⟩
        rw [sSeq_eq, sExpr_eq, a, kEx_s, kSeq_nx, e3])
  have hNl : 0 + (rngD 0 many).length = many := by simp [rngD]
  rw [hNl] at M' h0
  refine ⟨μ', 1, ps, p, n, ?_, K, M', h0⟩
  unfold mi_law_made ev_law_made
  rw [runF_eq, if_pos (show [D.int c, D.int (many : Nat)].length = 2 from rfl)]
  show kRun (sSeq _ _ [some (.int c), some (.int (many : Nat)), none, none, none, none] []) = _
  rw [sSeq_eq, s1, kSeq_nx, sSeq_eq, sFor_eq, ei, kFor_s, el, kSeq_nx, hΓ]
  rfl
end
end Law
set_option Elab.async false
set_option linter.all false
set_option maxRecDepth 100000
set_option maxHeartbeats 0
namespace Law
open PySem L2 L3
section
variable {A CA CN : Addr} {cs : List Addr} {f : List D → M → Option (D × M)} {μ : M}
def fA : List Bool := [false, false, false, false, true, false, false, false, false]
def fN : List Bool := [false, false, false, true, false, false, false, false, false]
theorem due_A : mi_law_due [.str "NoAsk"] μ = some (.lst (fA.map D.bl), μ) := by
  rw [run_due (by decide +kernel)]
  have : (names8.map fun x => D.bl (decide (x = ("NoAsk" : Str)))) ++ [.bl false] = fA.map D.bl := by
    have h : names8.map (fun x => decide (x = ("NoAsk" : Str))) = [false, false, false, false, true, false, false, false] := by decide +kernel
    have : names8.map (fun x => D.bl (decide (x = ("NoAsk" : Str)))) = (names8.map (fun x => decide (x = ("NoAsk" : Str)))).map D.bl := by rw [List.map_map]; rfl
    rw [this, h]; rfl
  rw [this]
theorem due_N : mi_law_due [.str "NoName"] μ = some (.lst (fN.map D.bl), μ) := by
  rw [run_due (by decide +kernel)]
  have : (names8.map fun x => D.bl (decide (x = ("NoName" : Str)))) ++ [.bl false] = fN.map D.bl := by
    have h : names8.map (fun x => decide (x = ("NoName" : Str))) = [false, false, false, true, false, false, false, false] := by decide +kernel
    have : names8.map (fun x => D.bl (decide (x = ("NoName" : Str)))) = (names8.map (fun x => decide (x = ("NoName" : Str)))).map D.bl := by rw [List.map_map]; rfl
    rw [this, h]; rfl
  rw [this]
theorem eqB {l : List Bool} : eqD (.lst (l.map D.bl)) (.lst (l.map D.bl)) μ = some true := by
  have h : eqD (.lst (l.map D.bl)) (.lst (l.map D.bl)) μ = some (decide (l = l)) := eqD_lst (α := Bool) (μ := μ) (l := l) (m := l) (by decide)
  rw [h]; simp
noncomputable abbrev doneV (f : List D → M → Option (D × M)) (A CA CN : Addr) (cs : List Addr) : List D → M → Option (D × M) := mi_law_done f (miCome A CA CN) (miGo A CA CN) (miHear A CA) (miMost A CA) (miGroups A CA) (miHeard A CA) A cs
structure Env44 (f : List D → M → Option (D × M)) (CA CN : Addr) (cs : List Addr) : Prop where
  a : CA ∈ cs
  n : CN ∈ cs
  fa : ∀ (μ : M) (e : Nat), μ[e]? = some (some (.exc CA)) → f [.ref e] μ = some (.lst (fA.map D.bl), μ)
  fn : ∀ (μ : M) (e : Nat), μ[e]? = some (some (.exc CN)) → f [.ref e] μ = some (.lst (fN.map D.bl), μ)
theorem noMs {k r : Nat} {ps : Ps} {c : D} {p n : Int} (K : Kr A μ k r ps c p n) : ∀ m : Str, m ∈ (["come", "go", "hear", "most", "groups", "heard"] : List Str) → noM μ A m (.ref k) = true := by
  intro m hm
  have h : ∀ m ∈ (["come", "go", "hear", "most", "groups", "heard"] : List Str), okM m = true := by decide +kernel
  exact noM_ok K (h m hm)
theorem neB {Γ : G} {ea eb : EV} {l : List Bool} {μ1 μ2 : M} (h1 : ea Γ μ = some (.lst (l.map D.bl), μ1)) (h2 : eb Γ μ1 = some (.lst (l.map D.bl), μ2)) : vT (v2 fNe ea eb) Γ μ = some (false, μ2) := by
  rw [vT_eq, e_2 h1 h2, fNe_eq, eqB]; rfl
theorem idle_hear {k r : Nat} {ps : Ps} {p n x : Int} (E : Env44 f CA CN cs) (K : Kr A μ k r ps .non p n) : ∃ μ', doneV f A CA CN cs [.ref k, .int ((2 : Nat) : Int), .int x] μ = some (.lst (fA.map D.bl), μ') ∧ Fr [] μ μ' :=
  done_at E.a E.fa (noMs K) (.inr (.inr (.inl ⟨rfl, hear_no K⟩)))
theorem idle_come {k r j t : Nat} {ps : Ps} {p n : Int} (E : Env44 f CA CN cs) (K : Kr A μ k r ps .non p n) (M' : Md j ps) (ht : t < j) (hj : j < 100) : ∃ μ', doneV f A CA CN cs [.ref k, .int ((0 : Nat) : Int), .int (10 * (t : Int))] μ = some (.lst (fN.map D.bl), μ') ∧ Fr [] μ μ' := by
  obtain ⟨e, he⟩ := M'.found ht
  refine done_at E.n E.fn (noMs K) (.inl ⟨rfl, come_name K he ?_⟩)
  have h2 : (10 * (t : Int)).natAbs < 2 ^ 10 := by omega
  by_cases h0 : (10 * (t : Int)).natAbs = 0
  · rw [h0]; decide
  · have := (Nat.log2_lt h0).mpr h2
    omega
theorem idle_go {k r j : Nat} {ps : Ps} {p n y : Int} (E : Env44 f CA CN cs) (K : Kr A μ k r ps .non p n) (M' : Md j ps) (hy : ∀ t : Nat, t < j → y ≠ 10 * (t : Int)) (hs : y.natAbs < 2 ^ 70) : ∃ μ', doneV f A CA CN cs [.ref k, .int ((1 : Nat) : Int), .int y] μ = some (.lst (fN.map D.bl), μ') ∧ Fr [] μ μ' := by
  refine done_at E.n E.fn (noMs K) (.inr (.inl ⟨rfl, go_name K (M'.find hy) ?_⟩))
  by_cases h0 : y.natAbs = 0
  · rw [h0]; decide
  · have := (Nat.log2_lt h0).mpr hs
    omega
theorem wait_any {k r way : Nat} {ps : Ps} {p n x y : Int} (E : Env44 f CA CN cs) (K : Kr A μ k r ps (.int x) p n) (hw : way = 0 ∨ way = 1 ∨ way = 3 ∨ way = 4 ∨ way = 5) : ∃ μ', doneV f A CA CN cs [.ref k, .int (way : Nat), .int y] μ = some (.lst (fA.map D.bl), μ') ∧ Fr [] μ μ' := by
  refine done_at E.a E.fa (noMs K) ?_
  rcases hw with rfl | rfl | rfl | rfl | rfl
  · exact .inl ⟨rfl, come_no K⟩
  · exact .inr (.inl ⟨rfl, go_no K⟩)
  · exact .inr (.inr (.inr (.inl ⟨rfl, most_no K⟩)))
  · exact .inr (.inr (.inr (.inr (.inl ⟨rfl, groups_no K⟩))))
  · exact .inr (.inr (.inr (.inr (.inr ⟨rfl, heard_no K⟩))))
end
end Law
set_option Elab.async false
set_option linter.all false
set_option maxRecDepth 100000
set_option maxHeartbeats 0
namespace Law
open PySem L2 L3
section
variable {A CA CN : Addr} {cs : List Addr} {f : List D → M → Option (D × M)} {μ : M}
theorem py3 {q : Nat} {mo : List Int} {g n : Int} (h : μ[q]? = some (some (.lst (mo.map D.int)))) : py 65 μ (.lst [.ref q, .int g, .int n]) = some (.list [.list (mo.map PyData.int), .int g, .int n]) := by
  have e1 : py 64 μ (.ref q) = some (.list (mo.map PyData.int)) := by
    rw [py_ref h]
    have := enc_all (α := Int) (μ := μ) (n := 63) (by decide) mo
    have this : optAll (py 63 μ) (mo.map D.int) = some (mo.map PyData.int) := this
    rw [this]; rfl
  rw [py_lst]
  simp only [optAll, e1, bs, py_int]
theorem eq3 {q q' : Nat} {mo : List Int} {g n : Int} (h : μ[q]? = some (some (.lst (mo.map D.int)))) (h' : μ[q']? = some (some (.lst (mo.map D.int)))) : eqD (.lst [.ref q, .int g, .int n]) (.lst [.ref q', .int g, .int n]) μ = some true := by
  rw [eqD_py rfl rfl, py3 h, py3 h', bs, bs]
  have l1 : PyData.canLay0 (.list (mo.map PyData.int)) = true := (encList (α := Int)).lay mo
  have d1 : PyData.depth (.list (mo.map PyData.int)) ≤ 10 := Nat.le_trans ((encList (α := Int)).dep mo) (by decide)
  have q1 : PyData.eqv (.list (mo.map PyData.int)) (.list (mo.map PyData.int)) = true := ((encList (α := Int)).eqv mo mo).mpr rfl
  have l2 : PyData.canLay0 (.list [.list (mo.map PyData.int), .int g, .int n]) = true := by simp only [PyData.canLay0, PyData.canLayAll0] at l1 ⊢; simp [l1]
  have d2 : PyData.depth (.list [.list (mo.map PyData.int), .int g, .int n]) ≤ 64 := by simp only [PyData.depth, PyData.depthAll] at d1 ⊢; omega
  have q2 : PyData.eqv (.list [.list (mo.map PyData.int), .int g, .int n]) (.list [.list (mo.map PyData.int), .int g, .int n]) = true := by
    have e : PyData.eqv (.list [.list (mo.map PyData.int), .int g, .int n]) (.list [.list (mo.map PyData.int), .int g, .int n]) = PyData.eqvAll [.list (mo.map PyData.int), .int g, .int n] [.list (mo.map PyData.int), .int g, .int n] := by rw [PyData.eqv]
    rw [e]
    simp only [PyData.eqvAll, q1]
    simp [PyData.eqv]
  rw [l2, decide_eq_true d2, q2]
  rfl
theorem tell3 {Γ : G} {i k r : Nat} {ps : Ps} {p n : Int} (K : Kr A μ k r ps .non p n) (hl : ps.length < 1000) (hi : Γ[i]? = some (some (.ref k))) :
    ∃ μ', vL fLst (lCons (vMeth A "most" (dn (miMost A CA)) (vVar i) lNil) (lCons (vMeth A "groups" (dn (miGroups A CA)) (vVar i) lNil) (lCons (vMeth A "heard" (dn (miHeard A CA)) (vVar i) lNil) lNil))) Γ μ = some (.lst [.ref μ.length, .int ps.length, .int n], μ') ∧ μ'[μ.length]? = some (some (.lst ((mostR (rw_ ps)).map D.int))) ∧ Fr [] μ μ' := by
  have m := vm (i := i) (m := "most") K hi (by decide +kernel) (run_most (C := CA) K hl)
  have f1 : Fr [] μ (μ ++ [some (.lst ((mostR (rw_ ps)).map D.int))]) := fr_app
  have K1 := K.fr f1 fun _ _ => by simp
  refine ⟨μ ++ [some (.lst ((mostR (rw_ ps)).map D.int))], ?_, by simp, f1⟩
  generalize μ ++ [some (O.lst ((mostR (rw_ ps)).map D.int))] = μ1 at m K1
  have g := vm (i := i) (m := "groups") K1 hi (by decide +kernel) (run_groups (C := CA) K1)
  have h := vm (i := i) (m := "heard") K1 hi (by decide +kernel) (run_heard (C := CA) K1)
  simp only [vL_eq, lCons_eq, m, kLc_s, g, h, lNil_eq, kLc2_s, kL_s, fLst]
  rfl
noncomputable abbrev idleV (f : List D → M → Option (D × M)) (A CA CN : Addr) (cs : List Addr) : List D → M → Option (D × M) := mi_law_idle_good mi_law_cell_at (mi_law_digit mi_law_stir) (doneV f A CA CN cs) mi_law_due (dn (miHeard A CA)) (dn (miGroups A CA)) (dn (miMost A CA)) (mi_Keeper_wants A) A
theorem run_idle {ns : List Int} {k r q many : Nat} {ps : Ps} {p n : Int} (E : Env44 f CA CN cs) (K : Kr A μ k r ps .non p n) (M' : Md many ps) (hm : many ≤ 6) (hq : μ[q]? = some (some (.lst ((mostR (rw_ ps)).map D.int)))) :
    ∃ μ', idleV f A CA CN cs [.ref k, .scr (ns.map D.int), .int (many : Nat), .lst [.ref q, .int ps.length, .int n]] μ = some (.bl true, μ') ∧ Fr [] μ μ' := by
  have hfew := M'.few
  obtain ⟨Γ', μ', el, o4, o5, hΓ, Kz, hqz, fz⟩ := forG_ix (c := none) (g := gvName 4) (body :=
      (sSeq (sAsg (vL mi_law_cell_at (lCons (vVar 1) (lCons (v2 fPlus (vC (.int 1)) (vVar 4)) lNil))) (gvName 5))
      (sSeq (sIf (vT (v2 fNe (vL (doneV f A CA CN cs) (lCons (vVar 0) (lCons (vC (.int 2)) (lCons (vL (mi_law_digit mi_law_stir) (lCons (vVar 5) (lCons (vC (.int 0)) (lCons (vC (.int 2)) lNil)))) lNil)))) (vL mi_law_due (lCons (vC (.str "NoAsk")) lNil))))
        (sRet (vC (.bl false)))
        sNx)
      (sSeq (sIf (bAnd (vT (v2 fGt (vVar 2) (vC (.int 0)))) (vT (v2 fNe (vL (doneV f A CA CN cs) (lCons (vVar 0) (lCons (vC (.int 0)) (lCons (v2 fTimes (vC (.int 10)) (vL (mi_law_digit mi_law_stir) (lCons (vVar 5) (lCons (vC (.int 1)) (lCons (vVar 2) lNil))))) lNil)))) (vL mi_law_due (lCons (vC (.str "NoName")) lNil)))))
        (sRet (vC (.bl false)))
        sNx)
      (sSeq (sIf (vT (v2 fNe (vL (doneV f A CA CN cs) (lCons (vVar 0) (lCons (vC (.int 1)) (lCons (v2 fIx (vL fLst (lCons (vC (.int 5)) (lCons (v1 fNeg (vC (.int 10))) (lCons (v2 fTimes (vC (.int 10)) (vVar 2)) (lCons (v2 fPow (vC (.int 10)) (vC (.int 20))) lNil))))) (vL (mi_law_digit mi_law_stir) (lCons (vVar 5) (lCons (vC (.int 2)) (lCons (vC (.int 4)) lNil))))) lNil)))) (vL mi_law_due (lCons (vC (.str "NoName")) lNil))))
        (sRet (vC (.bl false)))
        sNx)
      (sIf (bOr (vT (v2 fNe (vL fLst (lCons (vMeth A "most" (dn (miMost A CA)) (vVar 0) lNil) (lCons (vMeth A "groups" (dn (miGroups A CA)) (vVar 0) lNil) (lCons (vMeth A "heard" (dn (miHeard A CA)) (vVar 0) lNil) lNil)))) (vVar 3))) (vT (v2 fNotN (vMeth A "wants" (mi_Keeper_wants A) (vVar 0) lNil) (vC .non))))
        (sRet (vC (.bl false)))
        sNx))))))
    (fun _ Γ μi => ∃ o4 o5, Γ = [some (.ref k), some (.scr (ns.map D.int)), some (.int (many : Nat)), some (.lst [.ref q, .int ps.length, .int n]), o4, o5] ∧ Kr A μi k r ps .non p n ∧ μi[q]? = some (some (.lst ((mostR (rw_ ps)).map D.int))) ∧ Fr [] μ μi)
    (rngD 0 6) 0 [some (.ref k), some (.scr (ns.map D.int)), some (.int (many : Nat)), some (.lst [.ref q, .int ps.length, .int n]), none, none] μ ⟨none, none, rfl, K, hq, .refl⟩
    (by
      intro j d Γ μi hj ⟨o4, o5, hΓ, Ki, hqi, fi⟩
      subst hΓ
      obtain ⟨hjN, rfl⟩ := rngD_get hj
      obtain ⟨c, ec⟩ := run_cellat (μ := μi) (ns := ns) (j := j + 1)
      have ej : (1 : Int) + (0 + (j : Int)) = ((j + 1 : Nat) : Int) := by push_cast; omega
      have s1 : (sAsg (vL mi_law_cell_at (lCons (vVar 1) (lCons (v2 fPlus (vC (.int 1)) (vVar 4)) lNil))) (gvName 5)) [some (.ref k), some (.scr (ns.map D.int)), some (.int (many : Nat)), some (.lst [.ref q, .int ps.length, .int n]), some (.int (0 + (j : Int))), o5] μi = some (.nx, [some (.ref k), some (.scr (ns.map D.int)), some (.int (many : Nat)), some (.lst [.ref q, .int ps.length, .int n]), some (.int (0 + (j : Int))), some (.int c)], μi) := by
        have : vL mi_law_cell_at (lCons (vVar 1) (lCons (v2 fPlus (vC (.int 1)) (vVar 4)) lNil)) [some (.ref k), some (.scr (ns.map D.int)), some (.int (many : Nat)), some (.lst [.ref q, .int ps.length, .int n]), some (.int (0 + (j : Int))), o5] μi = some (.int c, μi) := by
          have e0 : (v2 fPlus (vC (.int 1)) (vVar 4)) [some (.ref k), some (.scr (ns.map D.int)), some (.int (many : Nat)), some (.lst [.ref q, .int ps.length, .int n]), some (.int (0 + (j : Int))), o5] μi = some (.int ((j + 1 : Nat) : Int), μi) := by
            rw [← ej]; rfl
          have e9 : lCons (vVar 1) (lCons (v2 fPlus (vC (.int 1)) (vVar 4)) lNil) [some (.ref k), some (.scr (ns.map D.int)), some (.int (many : Nat)), some (.lst [.ref q, .int ps.length, .int n]), some (.int (0 + (j : Int))), o5] μi = some ([.scr (ns.map D.int), .int ((j + 1 : Nat) : Int)], μi) := by
            have v1e : vVar 1 [some (.ref k), some (.scr (ns.map D.int)), some (.int (many : Nat)), some (.lst [.ref q, .int ps.length, .int n]), some (.int (0 + (j : Int))), o5] μi = some (.scr (ns.map D.int), μi) := rfl
            rw [lCons_eq, v1e, kLc_s, lCons_eq, e0, kLc_s, lNil_eq, kLc2_s, kLc2_s]
          rw [vL_eq, e9, kL_s, ec]
        rw [sAsg_eq, this]; rfl
      generalize hΓ : [some (D.ref k), some (.scr (ns.map D.int)), some (.int (many : Nat)), some (.lst [.ref q, .int ps.length, .int n]), some (.int (0 + (j : Int))), some (.int c)] = Γ at s1
      have g0 : Γ[0]? = some (some (.ref k)) := by rw [← hΓ]; rfl
      have g2 : Γ[2]? = some (some (.int (many : Nat))) := by rw [← hΓ]; rfl
      have g3 : Γ[3]? = some (some (.lst [.ref q, .int ps.length, .int n])) := by rw [← hΓ]; rfl
      have g5 : Γ[5]? = some (some (.int c)) := by rw [← hΓ]; rfl
      obtain ⟨v0, h0, _⟩ := run_digit (c := c) (j := 0) (m := 2) (by decide) (by decide)
      have h0' : ∀ μ, mi_law_digit mi_law_stir [.int c, .int 0, .int 2] μ = some (.int (v0 : Nat), μ) := h0
      obtain ⟨μ1, d1, f1⟩ := idle_hear (x := (v0 : Nat)) E Ki
      have d1' : doneV f A CA CN cs [.ref k, .int 2, .int (v0 : Nat)] μi = some (.lst (fA.map D.bl), μ1) := d1
      have s2 : (sIf (vT (v2 fNe (vL (doneV f A CA CN cs) (lCons (vVar 0) (lCons (vC (.int 2)) (lCons (vL (mi_law_digit mi_law_stir) (lCons (vVar 5) (lCons (vC (.int 0)) (lCons (vC (.int 2)) lNil)))) lNil)))) (vL mi_law_due (lCons (vC (.str "NoAsk")) lNil)))) (sRet (vC (.bl false))) sNx) Γ μi = some (.nx, Γ, μ1) := by
        rw [sIf_eq, neB (l := fA) (μ1 := μ1) (μ2 := μ1) (by simp only [vL_eq, lCons_eq, vVar_eq, g0, g5, vC_eq, kLc_s, lNil_eq, kLc2_s, kL_s, h0', d1']) (by simp only [vL_eq, lCons_eq, vC_eq, kLc_s, lNil_eq, kLc2_s, kL_s, due_A])]
        rfl
      have K1 := Ki.fr f1 fun _ _ => by simp
      obtain ⟨μ2, s3, f2⟩ : ∃ μ2, (sIf (bAnd (vT (v2 fGt (vVar 2) (vC (.int 0)))) (vT (v2 fNe (vL (doneV f A CA CN cs) (lCons (vVar 0) (lCons (vC (.int 0)) (lCons (v2 fTimes (vC (.int 10)) (vL (mi_law_digit mi_law_stir) (lCons (vVar 5) (lCons (vC (.int 1)) (lCons (vVar 2) lNil))))) lNil)))) (vL mi_law_due (lCons (vC (.str "NoName")) lNil))))) (sRet (vC (.bl false))) sNx) Γ μ1 = some (.nx, Γ, μ2) ∧ Fr [] μ1 μ2 := by
        have tg : vT (v2 fGt (vVar 2) (vC (.int 0))) Γ μ1 = some (decide ((0 : Int) < (many : Nat)), μ1) := by
          rw [vT_eq, e_2 (e_var g2) vC_eq]; rfl
        by_cases h00 : (0 : Int) < (many : Nat)
        · obtain ⟨t, ht, htl⟩ := run_digit (c := c) (j := 1) (m := (many : Nat)) (by decide) h00
          have ht' : ∀ μ, mi_law_digit mi_law_stir [.int c, .int 1, .int (many : Nat)] μ = some (.int (t : Nat), μ) := ht
          obtain ⟨μ2, d2, f2⟩ := idle_come (t := t) E K1 M' (by omega) (by omega)
          have d2' : doneV f A CA CN cs [.ref k, .int 0, .int (10 * (t : Int))] μ1 = some (.lst (fN.map D.bl), μ2) := d2
          have m1 : CMul 10 ((t : Nat) : Int) := .inl ⟨by decide, by decide⟩
          have ex : (v2 fTimes (vC (.int 10)) (vL (mi_law_digit mi_law_stir) (lCons (vVar 5) (lCons (vC (.int 1)) (lCons (vVar 2) lNil))))) Γ μ1 = some (.int (10 * (t : Int)), μ1) := by
            rw [e_2 (x := .int 10) (μ1 := μ1) (y := .int (t : Nat)) (μ2 := μ1) rfl (by simp only [vL_eq, lCons_eq, vVar_eq, g2, g5, vC_eq, kLc_s, lNil_eq, kLc2_s, kL_s, ht'])]
            simp [fTimes, m1]
          refine ⟨μ2, ?_, f2⟩
          rw [sIf_eq, bAnd_eq, tg, kAnd_s, decide_eq_true h00, if_pos rfl, neB (l := fN) (μ1 := μ2) (μ2 := μ2) (by simp only [vL_eq, lCons_eq, vVar_eq, g0, vC_eq, kLc_s, ex, lNil_eq, kLc2_s, kL_s, d2']) (by simp only [vL_eq, lCons_eq, vC_eq, kLc_s, lNil_eq, kLc2_s, kL_s, due_N])]
          rfl
        · refine ⟨μ1, ?_, .refl⟩
          rw [sIf_eq, bAnd_eq, tg, kAnd_s, decide_eq_false h00, if_neg (by simp)]
          rfl
      have K2 := K1.fr f2 fun _ _ => by simp
      obtain ⟨v2', h2, l2⟩ := run_digit (c := c) (j := 2) (m := 4) (by decide) (by decide)
      have h2' : ∀ μ, mi_law_digit mi_law_stir [.int c, .int 2, .int 4] μ = some (.int (v2' : Nat), μ) := h2
      obtain ⟨y, ey, hy, hys⟩ : ∃ y : Int, atI [D.int 5, .int (-10), .int (10 * (many : Nat)), .int 100000000000000000000] ((v2' : Nat) : Int) = some (.int y) ∧ (∀ t : Nat, t < many → y ≠ 10 * (t : Int)) ∧ y.natAbs < 2 ^ 70 := by
        have : v2' = 0 ∨ v2' = 1 ∨ v2' = 2 ∨ v2' = 3 := by omega
        rcases this with rfl | rfl | rfl | rfl
        · exact ⟨5, rfl, fun t _ => by omega, by omega⟩
        · exact ⟨-10, rfl, fun t _ => by omega, by omega⟩
        · exact ⟨_, rfl, fun t _ => by omega, by omega⟩
        · exact ⟨_, rfl, fun t _ => by omega, by omega⟩
      obtain ⟨μ3, d3, f3⟩ := idle_go E K2 M' hy hys
      have d3' : doneV f A CA CN cs [.ref k, .int 1, .int y] μ2 = some (.lst (fN.map D.bl), μ3) := d3
      have m1 : CMul 10 ((many : Nat) : Int) := .inl ⟨by decide, by decide⟩
      have p20 : CPow 10 20 := ⟨by decide, by decide, by decide⟩
      have e20 : (10 : Int) ^ (20 : Int).toNat = 100000000000000000000 := by decide
      have exy : (v2 fIx (vL fLst (lCons (vC (.int 5)) (lCons (v1 fNeg (vC (.int 10))) (lCons (v2 fTimes (vC (.int 10)) (vVar 2)) (lCons (v2 fPow (vC (.int 10)) (vC (.int 20))) lNil))))) (vL (mi_law_digit mi_law_stir) (lCons (vVar 5) (lCons (vC (.int 2)) (lCons (vC (.int 4)) lNil))))) Γ μ2 = some (.int y, μ2) := by
        rw [e_2 (x := .lst [D.int 5, .int (-10), .int (10 * (many : Nat)), .int 100000000000000000000]) (μ1 := μ2) (y := .int (v2' : Nat)) (μ2 := μ2) (by simp [g2, fTimes, m1, p20, e20, fLst]) (by simp only [vL_eq, lCons_eq, vVar_eq, g5, vC_eq, kLc_s, lNil_eq, kLc2_s, kL_s, h2'])]
        simp [fIx, lsOf, ey]
      have s4 : (sIf (vT (v2 fNe (vL (doneV f A CA CN cs) (lCons (vVar 0) (lCons (vC (.int 1)) (lCons (v2 fIx (vL fLst (lCons (vC (.int 5)) (lCons (v1 fNeg (vC (.int 10))) (lCons (v2 fTimes (vC (.int 10)) (vVar 2)) (lCons (v2 fPow (vC (.int 10)) (vC (.int 20))) lNil))))) (vL (mi_law_digit mi_law_stir) (lCons (vVar 5) (lCons (vC (.int 2)) (lCons (vC (.int 4)) lNil))))) lNil)))) (vL mi_law_due (lCons (vC (.str "NoName")) lNil)))) (sRet (vC (.bl false))) sNx) Γ μ2 = some (.nx, Γ, μ3) := by
        rw [sIf_eq, neB (l := fN) (μ1 := μ3) (μ2 := μ3) (by simp only [vL_eq, lCons_eq, vVar_eq, g0, vC_eq, kLc_s]; rw [exy]; simp only [kLc_s, lNil_eq, kLc2_s, kL_s, d3']) (by simp only [vL_eq, lCons_eq, vC_eq, kLc_s, lNil_eq, kLc2_s, kL_s, due_N])]
        rfl
      have K3 := K2.fr f3 fun _ _ => by simp
      obtain ⟨μ4, e4, q4, f4⟩ := tell3 (CA := CA) (i := 0) K3 (by omega) g0
      have K4 := K3.fr f4 fun _ _ => by simp
      have hq4 := f4.get (f3.get (f2.get (f1.get hqi (by simp)) (by simp)) (by simp)) (by simp)
      have t1 : vT (v2 fNe (vL fLst (lCons (vMeth A "most" (dn (miMost A CA)) (vVar 0) lNil) (lCons (vMeth A "groups" (dn (miGroups A CA)) (vVar 0) lNil) (lCons (vMeth A "heard" (dn (miHeard A CA)) (vVar 0) lNil) lNil)))) (vVar 3)) Γ μ3 = some (false, μ4) := by
        rw [vT_eq, e_2 e4 (e_var g3), fNe_eq, eq3 q4 hq4]; rfl
      have s5 : (sIf (bOr (vT (v2 fNe (vL fLst (lCons (vMeth A "most" (dn (miMost A CA)) (vVar 0) lNil) (lCons (vMeth A "groups" (dn (miGroups A CA)) (vVar 0) lNil) (lCons (vMeth A "heard" (dn (miHeard A CA)) (vVar 0) lNil) lNil)))) (vVar 3))) (vT (v2 fNotN (vMeth A "wants" (mi_Keeper_wants A) (vVar 0) lNil) (vC .non)))) (sRet (vC (.bl false))) sNx) Γ μ3 = some (.nx, Γ, μ4) := by
        have w4 : vT (v2 fNotN (vMeth A "wants" (mi_Keeper_wants A) (vVar 0) lNil) (vC .non)) Γ μ4 = some (false, μ4) := wT_no K4 g0
        rw [sIf_eq, bOr_eq, t1, kOr_s, if_neg (by simp), w4]; rfl
      refine ⟨[some (.ref k), some (.scr (ns.map D.int)), some (.int (many : Nat)), some (.lst [.ref q, .int ps.length, .int n]), some (.int (0 + (j : Int))), o5], μi, Γ, μ4, rfl, ?_, trivial, some (.int (0 + (j : Int))), some (.int c), hΓ.symm, K4, hq4, (((fi.trans f1 fun j hj => .inl hj).trans f2 fun j hj => .inl hj).trans f3 fun j hj => .inl hj).trans f4 fun j hj => .inl hj⟩
      rw [sSeq_eq, s1, kSeq_nx, sSeq_eq, s2, kSeq_nx, sSeq_eq, s3, kSeq_nx, sSeq_eq, s4, kSeq_nx, s5])
  refine ⟨μ', ?_, fz⟩
  unfold idleV mi_law_idle_good ev_law_idle_good
  rw [runF_eq, if_pos (show [D.ref k, D.scr (ns.map D.int), D.int (many : Nat), D.lst [.ref q, .int ps.length, .int n]].length = 4 from rfl)]
  have ei : ivR (vC (.int 6)) [some (.ref k), some (.scr (ns.map D.int)), some (.int (many : Nat)), some (.lst [.ref q, .int ps.length, .int n]), none, none] μ = some ((rngD 0 6, none), μ) := rfl
  show kRun (sSeq _ _ [some (.ref k), some (.scr (ns.map D.int)), some (.int (many : Nat)), some (.lst [.ref q, .int ps.length, .int n]), none, none] μ) = _
  rw [sSeq_eq, sFor_eq, ei, kFor_s, el, kSeq_nx]
  rfl
end
end Law
set_option Elab.async false
set_option linter.all false
set_option maxRecDepth 100000
set_option maxHeartbeats 0
namespace Law
open PySem L2 L3
theorem eq_pair {μ : M} {a b : Int} : eqD (.tup [.int a, .int b]) (.tup [.int a, .int b]) μ = some true := by
  have := eqD_rds (α := Int × Int) (μ := μ) (s := (a, b)) (t := (a, b)) (x := .tup [.int a, .int b]) (y := .tup [.int a, .int b]) (by decide) (rds_d (α := Int × Int) (by decide) (a, b)) (rds_d (α := Int × Int) (by decide) (a, b)) rfl rfl
  simpa using this
theorem eq_ints {μ : M} {l : List Int} : eqD (.lst (l.map D.int)) (.lst (l.map D.int)) μ = some true := by
  have h : eqD (.lst (l.map D.int)) (.lst (l.map D.int)) μ = some (decide (l = l)) := eqD_lst (α := Int) (by decide)
  rw [h]; simp
section
variable {A CA CN : Addr} {cs : List Addr} {f : List D → M → Option (D × M)}
theorem come5 {μ : M} {r many : Nat} {ps : Ps} {p n : Int} (K : Kr A μ 0 r ps .non p n) (M' : Md many ps) (hm : many ≤ 6) {Γ : G} (h3 : Γ[3]? = some (some (.ref 0))) :
    ∃ μ1 μ2 g p2 n2, sExpr (vMeth A "come" (dn (miCome A CA CN)) (vVar 3) (lCons (vC (.int 5)) lNil)) Γ μ = some (.nx, Γ, μ1) ∧ whileG (wT A 3) (sExpr (vMeth A "hear" (dn (miHear A CA)) (vVar 3) (lCons (vC (.bl false)) lNil))) 1000000 Γ μ1 = some (.nx, Γ, μ2) ∧ Kr A μ2 0 r (ps ++ [(g, [5])]) .non p2 n2 ∧ (ps = [] → n2 = n) := by
  have hfew := M'.few
  by_cases hnil : ps = []
  · subst hnil
    obtain ⟨μ1, g, e1, K1, _, _⟩ := run_come_nil (C := CA) (C2 := CN) (x := 5) K
    have a := vm1 (i := 3) (m := "come") K h3 (by decide +kernel) (ea := vC (.int 5)) rfl e1
    exact ⟨μ1, μ1, g, _, n, by rw [sExpr_eq, a]; rfl, wh_f (n := 999999) (wT_no K1 h3), K1, fun _ => rfl⟩
  · obtain ⟨μ1, e1, K1, _⟩ := run_come_cons (C := CA) (C2 := CN) (x := 5) K (M'.find fun t _ => by omega) hnil
    have a := vm1 (i := 3) (m := "come") K h3 (by decide +kernel) (ea := vC (.int 5)) rfl e1
    obtain ⟨Γ', μ2, g, p2, n2, e2, hG, K2, _⟩ := wh_false (C := CA) (k := 0) (r := r) (x := 5) (t := wT A 3) (body := sExpr (vMeth A "hear" (dn (miHear A CA)) (vVar 3) (lCons (vC (.bl false)) lNil))) (GI := fun Γ' => Γ' = Γ)
      (fun Γ' μ ps p n hG K => wT_no K (by rw [hG]; exact h3))
      (fun Γ' μ i ps n q y tl hG K he => ⟨wT_yes K he (by rw [hG]; exact h3), fun μ1 h => ⟨Γ', by
        rw [sExpr_eq, vm1 (i := 3) (m := "hear") K (by rw [hG]; exact h3) (by decide +kernel) (ea := vC (.bl false)) rfl h]; rfl, hG⟩⟩)
      (by omega) M'.ne ps.length 0 Γ μ1 n (1000000 - (ps.length + 1)) (by omega) (List.length_pos_iff.mpr hnil) rfl K1
    have ef : ps.length + 1 + (1000000 - (ps.length + 1)) = 1000000 := by omega
    rw [ef, hG] at e2
    exact ⟨μ1, μ2, g, p2, n2, by rw [sExpr_eq, a]; rfl, e2, K2, fun z => absurd z hnil⟩
theorem go5 {μ : M} {r many g : Nat} {ps : Ps} {p n : Int} (K : Kr A μ 0 r (ps ++ [(g, [5])]) .non p n) (M' : Md many ps) (hm : many ≤ 6) {Γ : G} (h3 : Γ[3]? = some (some (.ref 0))) :
    ∃ μ' r', sExpr (vMeth A "go" (dn (miGo A CA CN)) (vVar 3) (lCons (vC (.int 5)) lNil)) Γ μ = some (.nx, Γ, μ') ∧ Kr A μ' 0 r' ps .non p n := by
  have hfew := M'.few
  have hi : (ps ++ [(g, [5])])[ps.length]? = some (g, [5]) := by simp
  have hf : (ps ++ [(g, ([5] : List Int))]).find? (fun e => decide ((5 : Int) ∈ e.2)) = some (g, [5]) := by
    rw [List.find?_append, M'.find fun t _ => by omega]; simp
  obtain ⟨μ', r', e, K', _, _⟩ := run_go (C := CA) (C2 := CN) K hi hf (by simp; omega)
  have eg : goP (ps ++ [(g, [5])]) ps.length (g, [5]) 5 = ps := by
    unfold goP
    rw [List.set_append_right _ _ (Nat.le_refl _)]
    simp only [Nat.sub_self, List.set_cons_zero, List.filter_append]
    have : ps.filter (fun e => !e.2.isEmpty) = ps := List.filter_eq_self.mpr fun e he => by
      have := M'.ne e he
      cases h : e.2 with
      | nil => exact absurd h this
      | cons _ _ => rfl
    rw [this]; simp
  rw [eg] at K'
  refine ⟨μ', r', ?_, K'⟩
  rw [sExpr_eq, vm1 (i := 3) (m := "go") K h3 (by decide +kernel) (ea := vC (.int 5)) rfl e]; rfl
def G4 (sc : D) (c : Int) (many : Nat) (x4 x5 x6 x7 x8 x9 x10 x11 : Option D) : G := [some sc, some (.int c), some (.int (many : Nat)), some (.ref 0), x4, x5, x6, x7, x8, x9, x10, x11]
noncomputable abbrev loopB (f : List D → M → Option (D × M)) (A CA CN : Addr) (cs : List Addr) : SV :=
      (sSeq (sAsg (vL mi_law_cell_at (lCons (vVar 0) (lCons (v2 fPlus (vC (.int 1)) (vVar 7)) lNil))) (gvName 8))
      (sSeq (sAsg (v2 fIx (vL fLst (lCons (vC (.int 0)) (lCons (vC (.int 1)) (lCons (vC (.int 3)) (lCons (vC (.int 4)) (lCons (vC (.int 5)) lNil)))))) (vL (mi_law_digit mi_law_stir) (lCons (vVar 8) (lCons (vC (.int 3)) (lCons (vC (.int 5)) lNil))))) (gvName 9))
      (sSeq (sAsg (v2 fIx (vL fLst (lCons (vC (.int 0)) (lCons (v2 fTimes (vC (.int 10)) (vVar 2)) (lCons (vC (.int 7)) (lCons (v1 fNeg (vC (.int 1))) lNil))))) (vL (mi_law_digit mi_law_stir) (lCons (vVar 8) (lCons (vC (.int 4)) (lCons (vC (.int 4)) lNil))))) (gvName 10))
      (sIf (bOr (vT (v2 fNe (vL (doneV f A CA CN cs) (lCons (vVar 3) (lCons (vVar 9) (lCons (vVar 10) lNil)))) (vL mi_law_due (lCons (vC (.str "NoAsk")) lNil)))) (vT (v2 fNe (vMeth A "wants" (mi_Keeper_wants A) (vVar 3) lNil) (vVar 6))))
        (sRet (vC (.bl false)))
        sNx))))
theorem run_loopB {μ : M} {ns : List Int} {c : Int} {many r q j : Nat} {ps : Ps} {n : Int} {tl : List Int} {x4 x5 x8 x9 x10 : Option D} (E : Env44 f CA CN cs) (K : Kr A μ 0 r ps (.int (10 * (many : Int))) ((0 : Nat) : Int) n) (he : ps[0]? = some (q, 0 :: tl)) :
    ∃ y8 y9 y10 μ', loopB f A CA CN cs (G4 (.scr (ns.map D.int)) c many x4 x5 (some (.tup [.int 0, .int (10 * (many : Int))])) (some (.int (0 + (j : Int)))) x8 x9 x10 none) μ = some (.nx, G4 (.scr (ns.map D.int)) c many x4 x5 (some (.tup [.int 0, .int (10 * (many : Int))])) (some (.int (0 + (j : Int)))) y8 y9 y10 none, μ') ∧ Fr [] μ μ' := by
  obtain ⟨o, eo⟩ := run_cellat (μ := μ) (ns := ns) (j := j + 1)
  have ej : (1 : Int) + (0 + (j : Int)) = ((j + 1 : Nat) : Int) := by push_cast; omega
  obtain ⟨w, hw, lw⟩ := run_digit (c := o) (j := 3) (m := 5) (by decide) (by decide)
  obtain ⟨v, hv, lv⟩ := run_digit (c := o) (j := 4) (m := 4) (by decide) (by decide)
  have hw' : ∀ μ, mi_law_digit mi_law_stir [.int o, .int 3, .int 5] μ = some (.int (w : Nat), μ) := hw
  have hv' : ∀ μ, mi_law_digit mi_law_stir [.int o, .int 4, .int 4] μ = some (.int (v : Nat), μ) := hv
  obtain ⟨way, ew, hway⟩ : ∃ way : Nat, atI [D.int 0, .int 1, .int 3, .int 4, .int 5] ((w : Nat) : Int) = some (.int (way : Nat)) ∧ (way = 0 ∨ way = 1 ∨ way = 3 ∨ way = 4 ∨ way = 5) := by
    have : w = 0 ∨ w = 1 ∨ w = 2 ∨ w = 3 ∨ w = 4 := by omega
    rcases this with rfl | rfl | rfl | rfl | rfl
    · exact ⟨0, rfl, by simp⟩
    · exact ⟨1, rfl, by simp⟩
    · exact ⟨3, rfl, by simp⟩
    · exact ⟨4, rfl, by simp⟩
    · exact ⟨5, rfl, by simp⟩
  obtain ⟨y, ey⟩ : ∃ y : Int, atI [D.int 0, .int (10 * (many : Int)), .int 7, .int (-1)] ((v : Nat) : Int) = some (.int y) := by
    have : v = 0 ∨ v = 1 ∨ v = 2 ∨ v = 3 := by omega
    rcases this with rfl | rfl | rfl | rfl <;> exact ⟨_, rfl⟩
  have m1 : CMul 10 ((many : Nat) : Int) := .inl ⟨by decide, by decide⟩
  obtain ⟨μ1, d1, f1⟩ := wait_any (way := way) (y := y) E K hway
  have s1 : (sAsg (vL mi_law_cell_at (lCons (vVar 0) (lCons (v2 fPlus (vC (.int 1)) (vVar 7)) lNil))) (gvName 8)) (G4 (.scr (ns.map D.int)) c many x4 x5 (some (.tup [.int 0, .int (10 * (many : Int))])) (some (.int (0 + (j : Int)))) x8 x9 x10 none) μ = some (.nx, G4 (.scr (ns.map D.int)) c many x4 x5 (some (.tup [.int 0, .int (10 * (many : Int))])) (some (.int (0 + (j : Int)))) (some (.int o)) x9 x10 none, μ) := by
    have e0 : (v2 fPlus (vC (.int 1)) (vVar 7)) (G4 (.scr (ns.map D.int)) c many x4 x5 (some (.tup [.int 0, .int (10 * (many : Int))])) (some (.int (0 + (j : Int)))) x8 x9 x10 none) μ = some (.int ((j + 1 : Nat) : Int), μ) := by rw [← ej]; rfl
    have e1 : vVar 0 (G4 (.scr (ns.map D.int)) c many x4 x5 (some (.tup [.int 0, .int (10 * (many : Int))])) (some (.int (0 + (j : Int)))) x8 x9 x10 none) μ = some (.scr (ns.map D.int), μ) := rfl
    rw [sAsg_eq, vL_eq, lCons_eq, e1, kLc_s, lCons_eq, e0, kLc_s, lNil_eq, kLc2_s, kLc2_s, kL_s, eo]; rfl
  have s2 : (sAsg (v2 fIx (vL fLst (lCons (vC (.int 0)) (lCons (vC (.int 1)) (lCons (vC (.int 3)) (lCons (vC (.int 4)) (lCons (vC (.int 5)) lNil)))))) (vL (mi_law_digit mi_law_stir) (lCons (vVar 8) (lCons (vC (.int 3)) (lCons (vC (.int 5)) lNil))))) (gvName 9)) (G4 (.scr (ns.map D.int)) c many x4 x5 (some (.tup [.int 0, .int (10 * (many : Int))])) (some (.int (0 + (j : Int)))) (some (.int o)) x9 x10 none) μ = some (.nx, G4 (.scr (ns.map D.int)) c many x4 x5 (some (.tup [.int 0, .int (10 * (many : Int))])) (some (.int (0 + (j : Int)))) (some (.int o)) (some (.int (way : Nat))) x10 none, μ) := by
    simp [G4, hw', fLst, fIx, lsOf, ew]
  have s3 : (sAsg (v2 fIx (vL fLst (lCons (vC (.int 0)) (lCons (v2 fTimes (vC (.int 10)) (vVar 2)) (lCons (vC (.int 7)) (lCons (v1 fNeg (vC (.int 1))) lNil))))) (vL (mi_law_digit mi_law_stir) (lCons (vVar 8) (lCons (vC (.int 4)) (lCons (vC (.int 4)) lNil))))) (gvName 10)) (G4 (.scr (ns.map D.int)) c many x4 x5 (some (.tup [.int 0, .int (10 * (many : Int))])) (some (.int (0 + (j : Int)))) (some (.int o)) (some (.int (way : Nat))) x10 none) μ = some (.nx, G4 (.scr (ns.map D.int)) c many x4 x5 (some (.tup [.int 0, .int (10 * (many : Int))])) (some (.int (0 + (j : Int)))) (some (.int o)) (some (.int (way : Nat))) (some (.int y)) none, μ) := by
    simp [G4, hv', fLst, fIx, lsOf, fTimes, m1, ey]
  refine ⟨some (.int o), some (.int (way : Nat)), some (.int y), μ1, ?_, f1⟩
  rw [loopB, sSeq_eq, s1, kSeq_nx, sSeq_eq, s2, kSeq_nx, sSeq_eq, s3, kSeq_nx]
  have K1 := K.fr f1 fun _ _ => by simp
  generalize hΓ : G4 (.scr (ns.map D.int)) c many x4 x5 (some (.tup [.int 0, .int (10 * (many : Int))])) (some (.int (0 + (j : Int)))) (some (.int o)) (some (.int (way : Nat))) (some (.int y)) none = Γ
  have g3 : Γ[3]? = some (some (.ref 0)) := by rw [← hΓ]; rfl
  have g6 : Γ[6]? = some (some (.tup [.int 0, .int (10 * (many : Int))])) := by rw [← hΓ]; rfl
  have g9 : Γ[9]? = some (some (.int (way : Nat))) := by rw [← hΓ]; rfl
  have g10 : Γ[10]? = some (some (.int y)) := by rw [← hΓ]; rfl
  have t1 : vT (v2 fNe (vL (doneV f A CA CN cs) (lCons (vVar 3) (lCons (vVar 9) (lCons (vVar 10) lNil)))) (vL mi_law_due (lCons (vC (.str "NoAsk")) lNil))) Γ μ = some (false, μ1) :=
    neB (l := fA) (μ1 := μ1) (μ2 := μ1) (by simp only [vL_eq, lCons_eq, vVar_eq, g3, g9, g10, kLc_s, lNil_eq, kLc2_s, kL_s, d1]) (by simp only [vL_eq, lCons_eq, vC_eq, kLc_s, lNil_eq, kLc2_s, kL_s, due_A])
  have t2 : vT (v2 fNe (vMeth A "wants" (mi_Keeper_wants A) (vVar 3) lNil) (vVar 6)) Γ μ1 = some (false, μ1) := by
    rw [vT_eq, e_2 (vm (i := 3) (m := "wants") K1 g3 (by decide +kernel) (run_wants (g := 0) K1 he)) (e_var g6), fNe_eq, eq_pair]; rfl
  rw [sIf_eq, bOr_eq, t1, kOr_s, if_neg (by simp), t2]
  rfl
end
end Law
set_option Elab.async false
set_option linter.all false
set_option maxRecDepth 100000
set_option maxHeartbeats 0
namespace Law
open PySem L2 L3
section
variable {A CA CN : Addr} {cs : List Addr} {f : List D → M → Option (D × M)}
noncomputable abbrev law44 (f : List D → M → Option (D × M)) (A CA CN : Addr) (cs : List Addr) : List D → M → Option (D × M) := mi_law mi_law_cell_at (mi_law_digit mi_law_stir) (mi_law_made (mi_Keeper___init A) (dn (miCome A CA CN)) (mi_Keeper_wants A) (dn (miHear A CA)) (mi_law_digit mi_law_stir) A) (dn (miCome A CA CN)) (mi_Keeper_wants A) (dn (miHear A CA)) (dn (miGo A CA CN)) (dn (miHeard A CA)) (dn (miGroups A CA)) (dn (miMost A CA)) (idleV f A CA CN cs) (mi_Keeper___init A) (doneV f A CA CN cs) mi_law_due A
theorem eq00 {μ : M} {q : Nat} (h : μ[q]? = some (some (.lst []))) : eqD (.lst [.ref q, .int 0, .int 0]) (.lst [.lst [], .int 0, .int 0]) μ = some true := by
  have e1 := py3 (μ := μ) (mo := []) (g := 0) (n := 0) h
  have e2 : py 65 μ (.lst [.lst [], .int 0, .int 0]) = some (.list [.list [], .int 0, .int 0]) := rfl
  rw [eqD_py rfl rfl, e1, e2]
  rfl
theorem run_law (E : Env44 f CA CN cs) (ns : List Int) (hn : ns.length ≤ 63) : ∃ μ', law44 f A CA CN cs [.scr (ns.map D.int)] [] = some (.bl true, μ') := by
  obtain ⟨c, ec⟩ := run_cellat (μ := []) (ns := ns) (j := 0)
  have ec' : mi_law_cell_at [.scr (ns.map D.int), .int 0] [] = some (.int c, []) := ec
  obtain ⟨many, hmy, lm⟩ := run_digit (c := c) (j := 20) (m := 7) (by decide) (by decide)
  have hmy' : ∀ μ, mi_law_digit mi_law_stir [.int c, .int 20, .int 7] μ = some (.int (many : Nat), μ) := hmy
  have hm : many ≤ 6 := by omega
  obtain ⟨μ1, r1, ps, p1, n1, e1, K1, M', h01⟩ := run_made (A := A) (C := CA) (C2 := CN) (c := c) hm
  have hfew := M'.few
  generalize hsc : D.scr (ns.map D.int) = sc
  have s1 : sAsg (vL mi_law_cell_at (lCons (vVar 0) (lCons (vC (.int 0)) lNil))) (gvName 1) [some sc, none, none, none, none, none, none, none, none, none, none, none] [] = some (.nx, [some sc, some (.int c), none, none, none, none, none, none, none, none, none, none], []) := by
    rw [← hsc]; simp [ec']
  have s2 : sAsg (vL (mi_law_digit mi_law_stir) (lCons (vVar 1) (lCons (vC (.int 20)) (lCons (vC (.int 7)) lNil)))) (gvName 2) [some sc, some (.int c), none, none, none, none, none, none, none, none, none, none] [] = some (.nx, [some sc, some (.int c), some (.int (many : Nat)), none, none, none, none, none, none, none, none, none], []) := by
    simp [hmy']
  have s3 : sAsg (vL (mi_law_made (mi_Keeper___init A) (dn (miCome A CA CN)) (mi_Keeper_wants A) (dn (miHear A CA)) (mi_law_digit mi_law_stir) A) (lCons (vVar 1) (lCons (vVar 2) lNil))) (gvName 3) [some sc, some (.int c), some (.int (many : Nat)), none, none, none, none, none, none, none, none, none] [] = some (.nx, G4 sc c many none none none none none none none none, μ1) := by
    simp [e1, G4]
  obtain ⟨μ2, μ3, g, p2, n2, s4, s5, K3, hn2⟩ := come5 (CA := CA) (CN := CN) (Γ := G4 sc c many none none none none none none none none) K1 M' hm rfl
  obtain ⟨μ4, r4, s6, K4⟩ := go5 (CA := CA) (CN := CN) (Γ := G4 sc c many none none none none none none none none) K3 M' hm rfl
  obtain ⟨μ5, e5, q5, f5⟩ := tell3 (CA := CA) (i := 3) (Γ := G4 sc c many none none none none none none none none) K4 (by omega) rfl
  have K5 := K4.fr f5 fun _ _ => by simp
  generalize hah : D.lst [.ref μ4.length, .int ps.length, .int n2] = ah at e5
  have s7 : sAsg (vL fLst (lCons (vMeth A "most" (dn (miMost A CA)) (vVar 3) lNil) (lCons (vMeth A "groups" (dn (miGroups A CA)) (vVar 3) lNil) (lCons (vMeth A "heard" (dn (miHeard A CA)) (vVar 3) lNil) lNil)))) (gvName 4) (G4 sc c many none none none none none none none none) μ4 = some (.nx, G4 sc c many (some ah) none none none none none none none, μ5) := by
    rw [sAsg_eq, e5]; rfl
  obtain ⟨μ6, e6, f6⟩ := run_idle (ns := ns) E K5 M' hm q5
  rw [hah, hsc] at e6
  have K6 := K5.fr f6 fun _ _ => by simp
  have q6 := f6.get q5 (by simp)
  have s8 : (sIf (bNot (bTru (vL (idleV f A CA CN cs) (lCons (vVar 3) (lCons (vVar 0) (lCons (vVar 2) (lCons (vVar 4) lNil))))))) (sRet (vC (.bl false))) sNx) (G4 sc c many (some ah) none none none none none none none) μ5 = some (.nx, G4 sc c many (some ah) none none none none none none none, μ6) := by
    simp [G4, e6]
  have start : ∀ {res : Option (D × M)} (rest : SV), kRun (rest (G4 sc c many (some ah) none none none none none none none) μ6) = res →
      kRun (sSeq (sAsg (vL mi_law_cell_at (lCons (vVar 0) (lCons (vC (.int 0)) lNil))) (gvName 1)) (sSeq (sAsg (vL (mi_law_digit mi_law_stir) (lCons (vVar 1) (lCons (vC (.int 20)) (lCons (vC (.int 7)) lNil)))) (gvName 2)) (sSeq (sAsg (vL (mi_law_made (mi_Keeper___init A) (dn (miCome A CA CN)) (mi_Keeper_wants A) (dn (miHear A CA)) (mi_law_digit mi_law_stir) A) (lCons (vVar 1) (lCons (vVar 2) lNil))) (gvName 3)) (sSeq (sExpr (vMeth A "come" (dn (miCome A CA CN)) (vVar 3) (lCons (vC (.int 5)) lNil))) (sSeq (whileG (wT A 3) (sExpr (vMeth A "hear" (dn (miHear A CA)) (vVar 3) (lCons (vC (.bl false)) lNil))) 1000000) (sSeq (sExpr (vMeth A "go" (dn (miGo A CA CN)) (vVar 3) (lCons (vC (.int 5)) lNil))) (sSeq (sAsg (vL fLst (lCons (vMeth A "most" (dn (miMost A CA)) (vVar 3) lNil) (lCons (vMeth A "groups" (dn (miGroups A CA)) (vVar 3) lNil) (lCons (vMeth A "heard" (dn (miHeard A CA)) (vVar 3) lNil) lNil)))) (gvName 4)) (sSeq (sIf (bNot (bTru (vL (idleV f A CA CN cs) (lCons (vVar 3) (lCons (vVar 0) (lCons (vVar 2) (lCons (vVar 4) lNil))))))) (sRet (vC (.bl false))) sNx) rest))))))) [some sc, none, none, none, none, none, none, none, none, none, none, none] []) = res := by
    intro res rest h
    rw [sSeq_eq, s1, kSeq_nx, sSeq_eq, s2, kSeq_nx, sSeq_eq, s3, kSeq_nx, sSeq_eq, s4, kSeq_nx, sSeq_eq, s5, kSeq_nx, sSeq_eq, s6, kSeq_nx, sSeq_eq, s7, kSeq_nx, sSeq_eq, s8, kSeq_nx, h]
  have t9 : vT (v2 fEq (vVar 2) (vC (.int 0))) (G4 sc c many (some ah) none none none none none none none) μ6 = some (decide (((many : Nat) : Int) = 0), μ6) := by
    rw [vT_eq, e_2 (x := .int (many : Nat)) (μ1 := μ6) (y := .int 0) (μ2 := μ6) rfl rfl]; rfl
  unfold law44 mi_law ev_law
  by_cases h0 : ((many : Nat) : Int) = 0
  · have hm0 : many = 0 := by omega
    subst hm0
    have hps : ps = [] := List.length_eq_zero_iff.mp (by omega)
    subst hps
    have hn0 : n2 = 0 := by rw [hn2 rfl, h01 rfl]
    subst hn0
    refine ⟨μ6, ?_⟩
    rw [runF_eq, if_pos (show [sc].length = 1 from rfl)]
    refine start _ ?_
    have w := vm (i := 3) (m := "wants") (Γ := G4 sc c 0 (some ah) none none none none none none none) K6 rfl (by decide +kernel) (run_wants_non K6)
    have ew : v2 fIsN (vMeth A "wants" (mi_Keeper_wants A) (vVar 3) lNil) (vC .non) (G4 sc c 0 (some ah) none none none none none none none) μ6 = some (.bl true, μ6) := by rw [e_2 w vC_eq]; rfl
    have q6' : μ6[μ4.length]? = some (some (.lst [])) := q6
    have ee : v2 fEq (vVar 4) (vL fLst (lCons (vL fLst lNil) (lCons (vC (.int 0)) (lCons (vC (.int 0)) lNil)))) (G4 sc c 0 (some ah) none none none none none none none) μ6 = some (.bl true, μ6) := by
      rw [e_2 (x := ah) (μ1 := μ6) (y := .lst [.lst [], .int 0, .int 0]) (μ2 := μ6) rfl rfl, fEq_eq, ← hah]
      have := eq00 q6'
      have this : eqD (.lst [.ref μ4.length, .int (([] : Ps).length : Nat), .int 0]) (.lst [.lst [], .int 0, .int 0]) μ6 = some true := this
      rw [this]; rfl
    rw [sSeq_eq, sIf_eq, t9, kSIf_s, decide_eq_true h0, if_pos rfl, sRet_eq, vAnd_eq, ew, kVAnd_s, if_pos rfl, ee]
    rfl
  · have hmp : 0 < many := by omega
    obtain ⟨q0, tl, he⟩ := M'.hd hmp
    have hpn : ps ≠ [] := fun z => by rw [z] at he; cases he
    obtain ⟨μ7, e7, B7, f7, n7⟩ := run_make (A := A) (μ := μ6) (Γ := G4 sc c many (some ah) none none none none none none none)
    have K7 := K6.fr f7 fun _ _ => by simp
    have hK6 := K6.lt
    obtain ⟨μ8, g8, e8, B8, f8, hg8⟩ := run_come_nil (C := CA) (C2 := CN) (x := 1) B7
    have K8 := K7.fr f8 fun j hj z => by have := hK6 j hj; simp [ft] at z; omega
    obtain ⟨μ9, e9, B9, f9⟩ := run_come_cons (C := CA) (C2 := CN) (x := 2) B8 (by simp) (by simp)
    have hl7 := f7.len
    have K9 := K8.fr f9 fun j hj z => by have := hK6 j hj; simp [ft] at z; omega
    obtain ⟨μ10, e10, K10, f10⟩ := run_come_cons (C := CA) (C2 := CN) (x := 10 * (many : Int)) K9 (M'.find fun t ht z => by omega) hpn
    have djB : ∀ j ∈ μ6.length :: ft (μ6.length + 1) [(g8, ([1] : List Int))], j ∉ 0 :: ft r4 ps := fun j hj z => by have := hK6 j z; simp [ft] at hj; omega
    have B10 := B9.fr f10 djB
    have s10 : sAsg (vMake A (mi_Keeper___init A) lNil) (gvName 5) (G4 sc c many (some ah) none none none none none none none) μ6 = some (.nx, G4 sc c many (some ah) (some (.ref μ6.length)) none none none none none none, μ7) := by rw [sAsg_eq, e7]; rfl
    have s11 : sExpr (vMeth A "come" (dn (miCome A CA CN)) (vVar 5) (lCons (vC (.int 1)) lNil)) (G4 sc c many (some ah) (some (.ref μ6.length)) none none none none none none) μ7 = some (.nx, G4 sc c many (some ah) (some (.ref μ6.length)) none none none none none none, μ8) := by
      rw [sExpr_eq, vm1 (i := 5) (m := "come") B7 rfl (by decide +kernel) (ea := vC (.int 1)) rfl e8]; rfl
    have s12 : sExpr (vMeth A "come" (dn (miCome A CA CN)) (vVar 5) (lCons (vC (.int 2)) lNil)) (G4 sc c many (some ah) (some (.ref μ6.length)) none none none none none none) μ8 = some (.nx, G4 sc c many (some ah) (some (.ref μ6.length)) none none none none none none, μ9) := by
      rw [sExpr_eq, vm1 (i := 5) (m := "come") B8 rfl (by decide +kernel) (ea := vC (.int 2)) rfl e9]; rfl
    have m1 : CMul 10 ((many : Nat) : Int) := .inl ⟨by decide, by decide⟩
    have et : ∀ (x4 x5 x6 x7 : Option D) (μ : M), v2 fTimes (vC (.int 10)) (vVar 2) (G4 sc c many x4 x5 x6 x7 none none none none) μ = some (.int (10 * (many : Int)), μ) := fun x4 x5 x6 x7 μ => by
      rw [e_2 (x := .int 10) (μ1 := μ) (y := .int (many : Nat)) (μ2 := μ) rfl rfl]; simp [fTimes, m1]
    have s13 : sExpr (vMeth A "come" (dn (miCome A CA CN)) (vVar 3) (lCons (v2 fTimes (vC (.int 10)) (vVar 2)) lNil)) (G4 sc c many (some ah) (some (.ref μ6.length)) none none none none none none) μ9 = some (.nx, G4 sc c many (some ah) (some (.ref μ6.length)) none none none none none none, μ10) := by
      rw [sExpr_eq, vm1 (i := 3) (m := "come") K9 rfl (by decide +kernel) (et _ _ _ _ _) e10]; rfl
    have w10 := run_wants (g := 0) K10 he
    have s14 : sAsg (vMeth A "wants" (mi_Keeper_wants A) (vVar 3) lNil) (gvName 6) (G4 sc c many (some ah) (some (.ref μ6.length)) none none none none none none) μ10 = some (.nx, G4 sc c many (some ah) (some (.ref μ6.length)) (some (.tup [.int 0, .int (10 * (many : Int))])) none none none none none, μ10) := by
      rw [sAsg_eq, vm (i := 3) (m := "wants") K10 rfl (by decide +kernel) w10]; rfl
    have s15 : (sIf (vT (v2 fNe (vVar 6) (vL fTup (lCons (vC (.int 0)) (lCons (v2 fTimes (vC (.int 10)) (vVar 2)) lNil))))) (sRet (vC (.bl false))) sNx) (G4 sc c many (some ah) (some (.ref μ6.length)) (some (.tup [.int 0, .int (10 * (many : Int))])) none none none none none) μ10 = some (.nx, G4 sc c many (some ah) (some (.ref μ6.length)) (some (.tup [.int 0, .int (10 * (many : Int))])) none none none none none, μ10) := by
      rw [sIf_eq, vT_eq, e_2 (x := .tup [.int 0, .int (10 * (many : Int))]) (μ1 := μ10) (y := .tup [.int 0, .int (10 * (many : Int))]) (μ2 := μ10) rfl (by simp only [vL_eq, lCons_eq, vC_eq, kLc_s, et, lNil_eq, kLc2_s, kL_s]; rfl), fNe_eq, eq_pair]; rfl
    obtain ⟨Γl, μl, el, y7, y8, y9, y10, hΓl, Kl, fl'⟩ := forG_ix (c := none) (g := gvName 7) (body := loopB f A CA CN cs)
      (fun _ Γ μ => ∃ y7 y8 y9 y10, Γ = G4 sc c many (some ah) (some (.ref μ6.length)) (some (.tup [.int 0, .int (10 * (many : Int))])) y7 y8 y9 y10 none ∧ Kr A μ 0 r4 ps (.int (10 * (many : Int))) ((0 : Nat) : Int) n2 ∧ Fr [] μ10 μ)
      (rngD 0 8) 0 (G4 sc c many (some ah) (some (.ref μ6.length)) (some (.tup [.int 0, .int (10 * (many : Int))])) none none none none none) μ10 ⟨none, none, none, none, rfl, K10, .refl⟩
      (by
        intro j d Γ μ hj ⟨y7, y8, y9, y10, hΓ, Ki, fi⟩
        subst hΓ
        obtain ⟨hjN, rfl⟩ := rngD_get hj
        obtain ⟨z8, z9, z10, μ', e, fe⟩ := run_loopB (ns := ns) (c := c) (many := many) (j := j) (x4 := some ah) (x5 := some (.ref μ6.length)) (x8 := y8) (x9 := y9) (x10 := y10) E Ki he
        rw [hsc] at e
        exact ⟨G4 sc c many (some ah) (some (.ref μ6.length)) (some (.tup [.int 0, .int (10 * (many : Int))])) (some (.int (0 + (j : Int)))) y8 y9 y10 none, μ, _, μ', rfl, e, trivial, _, z8, z9, z10, rfl, Ki.fr fe (fun _ _ => by simp), fi.trans fe fun j hj => .inl hj⟩)
    subst hΓl
    have Bl := B10.fr fl' fun _ _ => by simp
    obtain ⟨μ11, e11, K11, f11⟩ := run_hear_yes (C := CA) Kl he (by have := hfew.2 _ (List.mem_of_getElem? he); omega)
    have B11 := Bl.fr f11 djB
    generalize hΓ : G4 sc c many (some ah) (some (.ref μ6.length)) (some (.tup [.int 0, .int (10 * (many : Int))])) y7 y8 y9 y10 none = Γ at el
    have g3 : Γ[3]? = some (some (.ref 0)) := by rw [← hΓ]; rfl
    have s17 : sExpr (vMeth A "hear" (dn (miHear A CA)) (vVar 3) (lCons (vC (.bl true)) lNil)) Γ μl = some (.nx, Γ, μ11) := by
      rw [sExpr_eq, vm1 (i := 3) (m := "hear") Kl g3 (by decide +kernel) (ea := vC (.bl true)) rfl e11]; rfl
    have gr := vm (i := 3) (m := "groups") (Γ := Γ) K11 g3 (by decide +kernel) (run_groups (C := CA) K11)
    have hr := vm (i := 3) (m := "heard") (Γ := Γ) K11 g3 (by decide +kernel) (run_heard (C := CA) K11)
    have el2 : (ps.set 0 (q0, 0 :: tl ++ [10 * (many : Int)])).length = ps.length := by simp
    rw [el2] at gr
    have s18 : sAsg (vL fLst (lCons (vMeth A "groups" (dn (miGroups A CA)) (vVar 3) lNil) (lCons (vMeth A "heard" (dn (miHeard A CA)) (vVar 3) lNil) lNil))) (gvName 11) Γ μ11 = some (.nx, G4 sc c many (some ah) (some (.ref μ6.length)) (some (.tup [.int 0, .int (10 * (many : Int))])) y7 y8 y9 y10 (some (.lst [.int ps.length, .int (n2 + 1)])), μ11) := by
      rw [sAsg_eq]
      simp only [vL_eq, lCons_eq, gr, hr, kLc_s, lNil_eq, kLc2_s, kL_s]
      rw [← hΓ]; rfl
    generalize hΓ2 : G4 sc c many (some ah) (some (.ref μ6.length)) (some (.tup [.int 0, .int (10 * (many : Int))])) y7 y8 y9 y10 (some (.lst [.int ps.length, .int (n2 + 1)])) = Γ2 at s18
    have k3 : Γ2[3]? = some (some (.ref 0)) := by rw [← hΓ2]; rfl
    have k4 : Γ2[4]? = some (some ah) := by rw [← hΓ2]; rfl
    have k5 : Γ2[5]? = some (some (.ref μ6.length)) := by rw [← hΓ2]; rfl
    have k11 : Γ2[11]? = some (some (.lst [.int ps.length, .int (n2 + 1)])) := by rw [← hΓ2]; rfl
    have t19a : vT (v2 fNotN (vMeth A "wants" (mi_Keeper_wants A) (vVar 3) lNil) (vC .non)) Γ2 μ11 = some (false, μ11) := wT_no K11 k3
    have ix : ∀ (i : Int) (z : D), atI [D.ref μ4.length, .int ps.length, .int n2] i = some z → v2 fIx (vVar 4) (vC (.int i)) Γ2 μ11 = some (z, μ11) := fun i z h => by
      rw [e_2 (e_var k4) vC_eq, ← hah]; simp [fIx, lsOf, h]
    have t19b : vT (v2 fNe (vVar 11) (vL fLst (lCons (v2 fIx (vVar 4) (vC (.int 1))) (lCons (v2 fPlus (v2 fIx (vVar 4) (vC (.int 2))) (vC (.int 1))) lNil)))) Γ2 μ11 = some (false, μ11) := by
      have e2 : vL fLst (lCons (v2 fIx (vVar 4) (vC (.int 1))) (lCons (v2 fPlus (v2 fIx (vVar 4) (vC (.int 2))) (vC (.int 1))) lNil)) Γ2 μ11 = some (.lst ([(ps.length : Int), n2 + 1].map D.int), μ11) := by
        have p2 : v2 fPlus (v2 fIx (vVar 4) (vC (.int 2))) (vC (.int 1)) Γ2 μ11 = some (.int (n2 + 1), μ11) := by rw [e_2 (ix 2 (.int n2) rfl) vC_eq]; rfl
        simp only [vL_eq, lCons_eq, ix 1 (.int ps.length) rfl, p2, kLc_s, lNil_eq, kLc2_s, kL_s]; rfl
      have e1 : vVar 11 Γ2 μ11 = some (.lst ([(ps.length : Int), n2 + 1].map D.int), μ11) := e_var k11
      rw [vT_eq, e_2 e1 e2, fNe_eq, eq_ints]; rfl
    have wb : vMeth A "wants" (mi_Keeper_wants A) (vVar 5) lNil Γ2 μ11 = some (.tup [.int 1, .int 2], μ11) := vm (i := 5) (m := "wants") B11 k5 (by decide +kernel) (run_wants (g := 0) (i := 0) (q := g8) (t := []) B11 rfl)
    have t19c : vT (v2 fNe (vMeth A "wants" (mi_Keeper_wants A) (vVar 5) lNil) (vL fTup (lCons (vC (.int 1)) (lCons (vC (.int 2)) lNil)))) Γ2 μ11 = some (false, μ11) := by
      rw [vT_eq, e_2 (y := .tup [.int 1, .int 2]) (μ2 := μ11) wb rfl, fNe_eq, eq_pair]; rfl
    have s19 : (sIf (bOr (vT (v2 fNotN (vMeth A "wants" (mi_Keeper_wants A) (vVar 3) lNil) (vC .non))) (bOr (vT (v2 fNe (vVar 11) (vL fLst (lCons (v2 fIx (vVar 4) (vC (.int 1))) (lCons (v2 fPlus (v2 fIx (vVar 4) (vC (.int 2))) (vC (.int 1))) lNil))))) (vT (v2 fNe (vMeth A "wants" (mi_Keeper_wants A) (vVar 5) lNil) (vL fTup (lCons (vC (.int 1)) (lCons (vC (.int 2)) lNil))))))) (sRet (vC (.bl false))) sNx) Γ2 μ11 = some (.nx, Γ2, μ11) := by
      rw [sIf_eq, bOr_eq, t19a, kOr_s, if_neg (by simp), bOr_eq, t19b, kOr_s, if_neg (by simp), t19c]; rfl
    obtain ⟨μ12, g12, e12, B12, f12, _⟩ := run_hear_last (C := CA) (i := 0) B11 rfl (by simp)
    have K12 := K11.fr f12 fun j hj z => djB j z (by rw [ft_set he] at hj; exact hj)
    have s20 : sExpr (vMeth A "hear" (dn (miHear A CA)) (vVar 5) (lCons (vC (.bl false)) lNil)) Γ2 μ11 = some (.nx, Γ2, μ12) := by
      rw [sExpr_eq, vm1 (i := 5) (m := "hear") B11 k5 (by decide +kernel) (ea := vC (.bl false)) rfl e12]; rfl
    have gb := vm (i := 5) (m := "groups") (Γ := Γ2) B12 k5 (by decide +kernel) (run_groups (C := CA) B12)
    have hb := vm (i := 5) (m := "heard") (Γ := Γ2) B12 k5 (by decide +kernel) (run_heard (C := CA) B12)
    have gk := vm (i := 3) (m := "groups") (Γ := Γ2) K12 k3 (by decide +kernel) (run_groups (C := CA) K12)
    rw [el2] at gk
    have r1 : v2 fEq (vL fLst (lCons (vMeth A "groups" (dn (miGroups A CA)) (vVar 5) lNil) (lCons (vMeth A "heard" (dn (miHeard A CA)) (vVar 5) lNil) lNil))) (vL fLst (lCons (vC (.int 2)) (lCons (vC (.int 1)) lNil))) Γ2 μ12 = some (.bl true, μ12) := by
      have e1 : vL fLst (lCons (vMeth A "groups" (dn (miGroups A CA)) (vVar 5) lNil) (lCons (vMeth A "heard" (dn (miHeard A CA)) (vVar 5) lNil) lNil)) Γ2 μ12 = some (.lst ([2, 1].map D.int), μ12) := by
        simp only [vL_eq, lCons_eq, gb, hb, kLc_s, lNil_eq, kLc2_s, kL_s]; rfl
      rw [e_2 (y := .lst (([2, 1] : List Int).map D.int)) (μ2 := μ12) e1 rfl, fEq_eq, eq_ints]; rfl
    have r2 : v2 fEq (vMeth A "groups" (dn (miGroups A CA)) (vVar 3) lNil) (v2 fIx (vVar 11) (vC (.int 0))) Γ2 μ12 = some (.bl true, μ12) := by
      have e1 : v2 fIx (vVar 11) (vC (.int 0)) Γ2 μ12 = some (.int ps.length, μ12) := by
        rw [e_2 (e_var k11) vC_eq]
        have : atI [D.int ps.length, .int (n2 + 1)] 0 = some (.int ps.length) := rfl
        simp [fIx, lsOf, this]
      rw [e_2 gk e1, fEq_eq, eqD_int]; simp [kB]
    have ei : ivR (vC (.int 8)) (G4 sc c many (some ah) (some (.ref μ6.length)) (some (.tup [.int 0, .int (10 * (many : Int))])) none none none none none) μ10 = some ((rngD 0 8, none), μ10) := rfl
    refine ⟨μ12, ?_⟩
    rw [runF_eq, if_pos (show [sc].length = 1 from rfl)]
    refine start _ ?_
    rw [sSeq_eq, sIf_eq, t9, kSIf_s, decide_eq_false h0, if_neg (by simp), sNx_eq, kSeq_nx, sSeq_eq, s10, kSeq_nx, sSeq_eq, s11, kSeq_nx, sSeq_eq, s12, kSeq_nx, sSeq_eq, s13, kSeq_nx, sSeq_eq, s14, kSeq_nx, sSeq_eq, s15, kSeq_nx, sSeq_eq, sFor_eq, ei, kFor_s, el, kSeq_nx, sSeq_eq, s17, kSeq_nx, sSeq_eq, s18, kSeq_nx, sSeq_eq, s19, kSeq_nx, sSeq_eq, s20, kSeq_nx, sRet_eq, vAnd_eq, r1, kVAnd_s, if_pos rfl, r2]
    rfl
end
end Law
set_option Elab.async false
set_option linter.all false
set_option maxRecDepth 100000
set_option maxHeartbeats 0
namespace Law
open PySem L2 L3
theorem all_mk {l : PySem.W.OpenLaw} {w : World} {K : PySem.W.Frag} {h : Heap} {mg : Str → Option Value} {fa f1 f2 f3 f4 f5 f6 f7 f8 f9 f10 f11 f12 f13 f14 f15 f16 f17 f18 f19 f20 c_Keeper c_NoAsk c_NoName c_TooMany c_NoFit c_NoThing c_NoneYet c_NoForm c_NoText c_HalfError : Addr} {cd_c_NoAsk cd_c_NoName cd_c_HalfError : ClassData} (X : K.In h) (G : h.Ns mainGlobals mg) (hfa : mg "law" = some (.ref fa))
    {od1 an1 od2 an2 od3 an3 od4 an4 od5 an5 od6 an6 od7 an7 od8 an8 od9 an9 od10 an10 od11 an11 od12 an12 od13 an13 od14 an14 od15 an15 od16 an16 od17 an17 od18 an18 od19 an19 od20 an20 : Option Addr} {sl1 sl2 sl3 sl4 sl5 sl6 sl7 sl8 sl9 sl10 sl11 sl12 sl13 sl14 sl15 sl16 sl17 sl18 sl19 sl20 : Array (Option Value)} {oc1 kV1 dc1 pm1 cd1 ct1 oc2 kV2 dc2 pm2 cd2 ct2 oc3 kV3 dc3 pm3 cd3 ct3 oc4 kV4 dc4 pm4 cd4 ct4 oc5 kV5 dc5 pm5 cd5 ct5 oc6 kV6 dc6 pm6 cd6 ct6 oc7 kV7 dc7 pm7 cd7 ct7 oc8 kV8 dc8 pm8 cd8 ct8 oc9 kV9 dc9 pm9 cd9 ct9 oc10 kV10 dc10 pm10 cd10 ct10 oc11 kV11 dc11 pm11 cd11 ct11 oc12 kV12 dc12 pm12 cd12 ct12 oc13 kV13 dc13 pm13 cd13 ct13 oc14 kV14 dc14 pm14 cd14 ct14 oc15 kV15 dc15 pm15 cd15 ct15 oc16 kV16 dc16 pm16 cd16 ct16 oc17 kV17 dc17 pm17 cd17 ct17 oc18 kV18 dc18 pm18 cd18 ct18 oc19 kV19 dc19 pm19 cd19 ct19 oc20 kV20 dc20 pm20 cd20 ct20 : Value}
    (a1 : PySem.W.findIn K (.ref c_Keeper) "__init__" = some (some (.ref f1))) (i1 : PySem.W.isFn K (.ref f1) = true)
    (l1 : K.lookup f1 = some ⟨oc1, od1, .func (PySem.W.fnOf "__init__" "Keeper.__init__" (defArgs (inClass (top 11) 0)) (defBody (inClass (top 11) 0)) (defScope (inClass (top 11) 0)) .none kV1 dc1 pm1 an1 cd1 ct1), sl1⟩) (c1 : PySem.W.codeIn K cd1 "Keeper.__init__" = true) (k1 : PySem.W.keepIn K (.ref f1) = true)
    (a2 : PySem.W.findIn K (.ref c_Keeper) "wants" = some (some (.ref f2))) (i2 : PySem.W.isFn K (.ref f2) = true)
    (l2 : K.lookup f2 = some ⟨oc2, od2, .func (PySem.W.fnOf "wants" "Keeper.wants" (defArgs (inClass (top 11) 1)) (defBody (inClass (top 11) 1)) (defScope (inClass (top 11) 1)) .none kV2 dc2 pm2 an2 cd2 ct2), sl2⟩) (c2 : PySem.W.codeIn K cd2 "Keeper.wants" = true) (k2 : PySem.W.keepIn K (.ref f2) = true)
    (a3 : PySem.W.findIn K (.ref c_Keeper) "check_nothing_wanted" = some (some (.ref f3))) (i3 : PySem.W.isFn K (.ref f3) = true)
    (l3 : K.lookup f3 = some ⟨oc3, od3, .func (PySem.W.fnOf "check_nothing_wanted" "Keeper.check_nothing_wanted" (defArgs (inClass (top 11) 2)) (defBody (inClass (top 11) 2)) (defScope (inClass (top 11) 2)) .none kV3 dc3 pm3 an3 cd3 ct3), sl3⟩) (c3 : PySem.W.codeIn K cd3 "Keeper.check_nothing_wanted" = true) (k3 : PySem.W.keepIn K (.ref f3) = true)
    (a4 : PySem.W.findIn K (.ref c_Keeper) "group_with" = some (some (.ref f4))) (i4 : PySem.W.isFn K (.ref f4) = true)
    (l4 : K.lookup f4 = some ⟨oc4, od4, .func (PySem.W.fnOf "group_with" "Keeper.group_with" (defArgs (inClass (top 11) 3)) (defBody (inClass (top 11) 3)) (defScope (inClass (top 11) 3)) .none kV4 dc4 pm4 an4 cd4 ct4), sl4⟩) (c4 : PySem.W.codeIn K cd4 "Keeper.group_with" = true) (k4 : PySem.W.keepIn K (.ref f4) = true)
    (a5 : PySem.W.findIn K (.ref c_Keeper) "begin_group_if_unlike_all" = some (some (.ref f5))) (i5 : PySem.W.isFn K (.ref f5) = true)
    (l5 : K.lookup f5 = some ⟨oc5, od5, .func (PySem.W.fnOf "begin_group_if_unlike_all" "Keeper.begin_group_if_unlike_all" (defArgs (inClass (top 11) 4)) (defBody (inClass (top 11) 4)) (defScope (inClass (top 11) 4)) .none kV5 dc5 pm5 an5 cd5 ct5), sl5⟩) (c5 : PySem.W.codeIn K cd5 "Keeper.begin_group_if_unlike_all" = true) (k5 : PySem.W.keepIn K (.ref f5) = true)
    (a6 : PySem.W.findIn K (.ref c_Keeper) "come" = some (some (.ref f6))) (i6 : PySem.W.isFn K (.ref f6) = true)
    (l6 : K.lookup f6 = some ⟨oc6, od6, .func (PySem.W.fnOf "come" "Keeper.come" (defArgs (inClass (top 11) 5)) (defBody (inClass (top 11) 5)) (defScope (inClass (top 11) 5)) .none kV6 dc6 pm6 an6 cd6 ct6), sl6⟩) (c6 : PySem.W.codeIn K cd6 "Keeper.come" = true) (k6 : PySem.W.keepIn K (.ref f6) = true)
    (a7 : PySem.W.findIn K (.ref c_Keeper) "hear" = some (some (.ref f7))) (i7 : PySem.W.isFn K (.ref f7) = true)
    (l7 : K.lookup f7 = some ⟨oc7, od7, .func (PySem.W.fnOf "hear" "Keeper.hear" (defArgs (inClass (top 11) 6)) (defBody (inClass (top 11) 6)) (defScope (inClass (top 11) 6)) .none kV7 dc7 pm7 an7 cd7 ct7), sl7⟩) (c7 : PySem.W.codeIn K cd7 "Keeper.hear" = true) (k7 : PySem.W.keepIn K (.ref f7) = true)
    (a8 : PySem.W.findIn K (.ref c_Keeper) "go" = some (some (.ref f8))) (i8 : PySem.W.isFn K (.ref f8) = true)
    (l8 : K.lookup f8 = some ⟨oc8, od8, .func (PySem.W.fnOf "go" "Keeper.go" (defArgs (inClass (top 11) 7)) (defBody (inClass (top 11) 7)) (defScope (inClass (top 11) 7)) .none kV8 dc8 pm8 an8 cd8 ct8), sl8⟩) (c8 : PySem.W.codeIn K cd8 "Keeper.go" = true) (k8 : PySem.W.keepIn K (.ref f8) = true)
    (a9 : PySem.W.findIn K (.ref c_Keeper) "most" = some (some (.ref f9))) (i9 : PySem.W.isFn K (.ref f9) = true)
    (l9 : K.lookup f9 = some ⟨oc9, od9, .func (PySem.W.fnOf "most" "Keeper.most" (defArgs (inClass (top 11) 8)) (defBody (inClass (top 11) 8)) (defScope (inClass (top 11) 8)) .none kV9 dc9 pm9 an9 cd9 ct9), sl9⟩) (c9 : PySem.W.codeIn K cd9 "Keeper.most" = true) (k9 : PySem.W.keepIn K (.ref f9) = true)
    (a10 : PySem.W.findIn K (.ref c_Keeper) "groups" = some (some (.ref f10))) (i10 : PySem.W.isFn K (.ref f10) = true)
    (l10 : K.lookup f10 = some ⟨oc10, od10, .func (PySem.W.fnOf "groups" "Keeper.groups" (defArgs (inClass (top 11) 9)) (defBody (inClass (top 11) 9)) (defScope (inClass (top 11) 9)) .none kV10 dc10 pm10 an10 cd10 ct10), sl10⟩) (c10 : PySem.W.codeIn K cd10 "Keeper.groups" = true) (k10 : PySem.W.keepIn K (.ref f10) = true)
    (a11 : PySem.W.findIn K (.ref c_Keeper) "heard" = some (some (.ref f11))) (i11 : PySem.W.isFn K (.ref f11) = true)
    (l11 : K.lookup f11 = some ⟨oc11, od11, .func (PySem.W.fnOf "heard" "Keeper.heard" (defArgs (inClass (top 11) 10)) (defBody (inClass (top 11) 10)) (defScope (inClass (top 11) 10)) .none kV11 dc11 pm11 an11 cd11 ct11), sl11⟩) (c11 : PySem.W.codeIn K cd11 "Keeper.heard" = true) (k11 : PySem.W.keepIn K (.ref f11) = true)
    (a12 : PySem.W.nsIn K mainGlobals "_law_cell_at" = some (some (.ref f12)))
    (l12 : K.lookup f12 = some ⟨oc12, od12, .func (PySem.W.fnOf "_law_cell_at" "_law_cell_at" (defArgs (top 13)) (defBody (top 13)) (defScope (top 13)) .none kV12 dc12 pm12 an12 cd12 ct12), sl12⟩) (c12 : PySem.W.codeIn K cd12 "_law_cell_at" = true) (k12 : PySem.W.keepIn K (.ref f12) = true)
    (a13 : PySem.W.nsIn K mainGlobals "_law_stir" = some (some (.ref f13)))
    (l13 : K.lookup f13 = some ⟨oc13, od13, .func (PySem.W.fnOf "_law_stir" "_law_stir" (defArgs (top 14)) (defBody (top 14)) (defScope (top 14)) .none kV13 dc13 pm13 an13 cd13 ct13), sl13⟩) (c13 : PySem.W.codeIn K cd13 "_law_stir" = true) (k13 : PySem.W.keepIn K (.ref f13) = true)
    (a14 : PySem.W.nsIn K mainGlobals "_law_digit" = some (some (.ref f14)))
    (l14 : K.lookup f14 = some ⟨oc14, od14, .func (PySem.W.fnOf "_law_digit" "_law_digit" (defArgs (top 15)) (defBody (top 15)) (defScope (top 15)) .none kV14 dc14 pm14 an14 cd14 ct14), sl14⟩) (c14 : PySem.W.codeIn K cd14 "_law_digit" = true) (k14 : PySem.W.keepIn K (.ref f14) = true)
    (a15 : PySem.W.nsIn K mainGlobals "_law_class" = some (some (.ref f15)))
    (l15 : K.lookup f15 = some ⟨oc15, od15, .func (PySem.W.fnOf "_law_class" "_law_class" (defArgs (top 16)) (defBody (top 16)) (defScope (top 16)) .none kV15 dc15 pm15 an15 cd15 ct15), sl15⟩) (c15 : PySem.W.codeIn K cd15 "_law_class" = true) (k15 : PySem.W.keepIn K (.ref f15) = true)
    (a16 : PySem.W.nsIn K mainGlobals "_law_due" = some (some (.ref f16)))
    (l16 : K.lookup f16 = some ⟨oc16, od16, .func (PySem.W.fnOf "_law_due" "_law_due" (defArgs (top 17)) (defBody (top 17)) (defScope (top 17)) .none kV16 dc16 pm16 an16 cd16 ct16), sl16⟩) (c16 : PySem.W.codeIn K cd16 "_law_due" = true) (k16 : PySem.W.keepIn K (.ref f16) = true)
    (a17 : PySem.W.nsIn K mainGlobals "_law_done" = some (some (.ref f17)))
    (l17 : K.lookup f17 = some ⟨oc17, od17, .func (PySem.W.fnOf "_law_done" "_law_done" (defArgs (top 18)) (defBody (top 18)) (defScope (top 18)) .none kV17 dc17 pm17 an17 cd17 ct17), sl17⟩) (c17 : PySem.W.codeIn K cd17 "_law_done" = true) (k17 : PySem.W.keepIn K (.ref f17) = true)
    (a18 : PySem.W.nsIn K mainGlobals "_law_made" = some (some (.ref f18)))
    (l18 : K.lookup f18 = some ⟨oc18, od18, .func (PySem.W.fnOf "_law_made" "_law_made" (defArgs (top 19)) (defBody (top 19)) (defScope (top 19)) .none kV18 dc18 pm18 an18 cd18 ct18), sl18⟩) (c18 : PySem.W.codeIn K cd18 "_law_made" = true) (k18 : PySem.W.keepIn K (.ref f18) = true)
    (a19 : PySem.W.nsIn K mainGlobals "_law_idle_good" = some (some (.ref f19)))
    (l19 : K.lookup f19 = some ⟨oc19, od19, .func (PySem.W.fnOf "_law_idle_good" "_law_idle_good" (defArgs (top 20)) (defBody (top 20)) (defScope (top 20)) .none kV19 dc19 pm19 an19 cd19 ct19), sl19⟩) (c19 : PySem.W.codeIn K cd19 "_law_idle_good" = true) (k19 : PySem.W.keepIn K (.ref f19) = true)
    (a20 : PySem.W.nsIn K mainGlobals "law" = some (some (.ref f20)))
    (l20 : K.lookup f20 = some ⟨oc20, od20, .func (PySem.W.fnOf "law" "law" (defArgs (top 21)) (defBody (top 21)) (defScope (top 21)) .none kV20 dc20 pm20 an20 cd20 ct20), sl20⟩) (c20 : PySem.W.codeIn K cd20 "law" = true) (k20 : PySem.W.keepIn K (.ref f20) = true)
    (z_len : PySem.W.nsIn K mainGlobals "len" = some none)
    (z_sum : PySem.W.nsIn K mainGlobals "sum" = some none)
    (z_list : PySem.W.nsIn K mainGlobals "list" = some none)
    (z_isinstance : PySem.W.nsIn K mainGlobals "isinstance" = some none)
    (z_ValueError : PySem.W.nsIn K mainGlobals "ValueError" = some none)
    (z_range : PySem.W.nsIn K mainGlobals "range" = some none)
    (zc_Keeper : PySem.W.nsIn K mainGlobals "Keeper" = some (some (.ref c_Keeper)))
    (zc_NoAsk : PySem.W.nsIn K mainGlobals "NoAsk" = some (some (.ref c_NoAsk)))
    (zc_NoName : PySem.W.nsIn K mainGlobals "NoName" = some (some (.ref c_NoName)))
    (zc_TooMany : PySem.W.nsIn K mainGlobals "TooMany" = some (some (.ref c_TooMany)))
    (zc_NoFit : PySem.W.nsIn K mainGlobals "NoFit" = some (some (.ref c_NoFit)))
    (zc_NoThing : PySem.W.nsIn K mainGlobals "NoThing" = some (some (.ref c_NoThing)))
    (zc_NoneYet : PySem.W.nsIn K mainGlobals "NoneYet" = some (some (.ref c_NoneYet)))
    (zc_NoForm : PySem.W.nsIn K mainGlobals "NoForm" = some (some (.ref c_NoForm)))
    (zc_NoText : PySem.W.nsIn K mainGlobals "NoText" = some (some (.ref c_NoText)))
    (zc_HalfError : PySem.W.nsIn K mainGlobals "HalfError" = some (some (.ref c_HalfError)))
    (pg_Keeper : PySem.W.plainGet K c_Keeper Str.empty = true) (hd_Keeper : PySem.W.hasDictIn K c_Keeper = true) (po_Keeper : PySem.W.plainOver K c_Keeper = true) (sa_Keeper : PySem.W.findIn K (.ref c_Keeper) "__setattr__" = some (some (.builtin "object.__setattr__"))) (mk_Keeper : PySem.W.makesIn K c_Keeper = true) (kc_Keeper : PySem.W.keepIn K (.ref c_Keeper) = true)
    (nf_Keeper_kept : PySem.W.findIn K (.ref c_Keeper) "kept" = some none)
    (nf_Keeper_coming : PySem.W.findIn K (.ref c_Keeper) "coming" = some none)
    (nf_Keeper_passed : PySem.W.findIn K (.ref c_Keeper) "passed" = some none)
    (nf_Keeper_answered : PySem.W.findIn K (.ref c_Keeper) "answered" = some none)
    (ks_HalfError : PySem.W.subIn K (.ref c_HalfError) (.type "BaseException") = some true) (kc_HalfError : PySem.W.clsIn K c_HalfError = some cd_c_HalfError) (ky_HalfError : PySem.W.typeIn K (.ref c_HalfError) = some (.type "type"))
    (er_NoAsk : PySem.W.excIn K c_NoAsk veBm "ValueError.__new__" = true)
    (xhga_NoAsk : PySem.W.findIn K (.ref c_NoAsk) "__getattribute__" = some (some (.builtin "BaseException.__getattribute__")))
    (xhgn_NoAsk : PySem.W.findIn K (.ref c_NoAsk) "__getattr__" = some none)
    (xhmB_NoAsk : PySem.W.mroIn K c_NoAsk (.type "BaseException") = some true)
    (xha_NoAsk : PySem.W.findIn K (.ref c_NoAsk) "__class__" = some (some (.builtin "object.__class__")))
    (xhn_NoAsk : PySem.W.specialIn K (.builtin "object.__class__") "__get__" = some (some (.builtin "getset_descriptor.__get__")))
    (xhtk_NoAsk : PySem.W.takesIn K (.builtin "object.__class__") = some true)
    (xhm_NoAsk : PySem.W.mroIn K c_NoAsk (.type "object") = some true)
    (xcls_NoAsk : PySem.W.clsIn K c_NoAsk = some cd_c_NoAsk)
    (kq_NoName_NoAsk : PySem.W.kitOne K (.ref c_NoAsk) (.ref c_NoName) = some false)
    (kq_TooMany_NoAsk : PySem.W.kitOne K (.ref c_NoAsk) (.ref c_TooMany) = some false)
    (kq_NoFit_NoAsk : PySem.W.kitOne K (.ref c_NoAsk) (.ref c_NoFit) = some false)
    (kq_NoThing_NoAsk : PySem.W.kitOne K (.ref c_NoAsk) (.ref c_NoThing) = some false)
    (kq_NoneYet_NoAsk : PySem.W.kitOne K (.ref c_NoAsk) (.ref c_NoneYet) = some false)
    (kq_NoForm_NoAsk : PySem.W.kitOne K (.ref c_NoAsk) (.ref c_NoForm) = some false)
    (kq_NoText_NoAsk : PySem.W.kitOne K (.ref c_NoAsk) (.ref c_NoText) = some false)
    (kq_NoAsk_NoAsk : PySem.W.kitOne K (.ref c_NoAsk) (.ref c_NoAsk) = some true)
    (kq_ValueError_NoAsk : PySem.W.kitOne K (.ref c_NoAsk) (.type "ValueError") = some true)
    (kt_HalfError_NoAsk : PySem.W.subIn K (.ref c_NoAsk) (.ref c_HalfError) = some true)
    (er_NoName : PySem.W.excIn K c_NoName veBm "ValueError.__new__" = true)
    (xhga_NoName : PySem.W.findIn K (.ref c_NoName) "__getattribute__" = some (some (.builtin "BaseException.__getattribute__")))
    (xhgn_NoName : PySem.W.findIn K (.ref c_NoName) "__getattr__" = some none)
    (xhmB_NoName : PySem.W.mroIn K c_NoName (.type "BaseException") = some true)
    (xha_NoName : PySem.W.findIn K (.ref c_NoName) "__class__" = some (some (.builtin "object.__class__")))
    (xhn_NoName : PySem.W.specialIn K (.builtin "object.__class__") "__get__" = some (some (.builtin "getset_descriptor.__get__")))
    (xhtk_NoName : PySem.W.takesIn K (.builtin "object.__class__") = some true)
    (xhm_NoName : PySem.W.mroIn K c_NoName (.type "object") = some true)
    (xcls_NoName : PySem.W.clsIn K c_NoName = some cd_c_NoName)
    (kq_NoName_NoName : PySem.W.kitOne K (.ref c_NoName) (.ref c_NoName) = some true)
    (kq_TooMany_NoName : PySem.W.kitOne K (.ref c_NoName) (.ref c_TooMany) = some false)
    (kq_NoFit_NoName : PySem.W.kitOne K (.ref c_NoName) (.ref c_NoFit) = some false)
    (kq_NoThing_NoName : PySem.W.kitOne K (.ref c_NoName) (.ref c_NoThing) = some false)
    (kq_NoneYet_NoName : PySem.W.kitOne K (.ref c_NoName) (.ref c_NoneYet) = some false)
    (kq_NoForm_NoName : PySem.W.kitOne K (.ref c_NoName) (.ref c_NoForm) = some false)
    (kq_NoText_NoName : PySem.W.kitOne K (.ref c_NoName) (.ref c_NoText) = some false)
    (kq_NoAsk_NoName : PySem.W.kitOne K (.ref c_NoName) (.ref c_NoAsk) = some false)
    (kq_ValueError_NoName : PySem.W.kitOne K (.ref c_NoName) (.type "ValueError") = some true)
    (kt_HalfError_NoName : PySem.W.subIn K (.ref c_NoName) (.ref c_HalfError) = some true) :
    ∃ fd : FuncData, (∀ (s : Shared) (v : Value), BindsTo s fd ⟨[v], []⟩ [("script", v)]) ∧ ∀ base : Heap, K.In base → base.Ns mainGlobals mg → FnOk l.prog w K mg base CX0 5 fa fd ["script"] (spLaw K) := by
  have e := hfa.symm.trans (PySem.W.mg_of X G a20)
  cases e
  have F1 := fun_mk (st := (inClass (top 11) 0)) l1 c1 k1
  have b1 := F1.binds (ps := ["self"]) fun _ _ _ _ _ _ us hl => match us, hl with | [_], _ => rfl
  have F2 := fun_mk (st := (inClass (top 11) 1)) l2 c2 k2
  have b2 := F2.binds (ps := ["self"]) fun _ _ _ _ _ _ us hl => match us, hl with | [_], _ => rfl
  have F3 := fun_mk (st := (inClass (top 11) 2)) l3 c3 k3
  have b3 := F3.binds (ps := ["self"]) fun _ _ _ _ _ _ us hl => match us, hl with | [_], _ => rfl
  have F4 := fun_mk (st := (inClass (top 11) 3)) l4 c4 k4
  have b4 := F4.binds (ps := ["self", "name"]) fun _ _ _ _ _ _ us hl => match us, hl with | [_, _], _ => rfl
  have F5 := fun_mk (st := (inClass (top 11) 4)) l5 c5 k5
  have b5 := F5.binds (ps := ["self"]) fun _ _ _ _ _ _ us hl => match us, hl with | [_], _ => rfl
  have F6 := fun_mk (st := (inClass (top 11) 5)) l6 c6 k6
  have b6 := F6.binds (ps := ["self", "name"]) fun _ _ _ _ _ _ us hl => match us, hl with | [_, _], _ => rfl
  have F7 := fun_mk (st := (inClass (top 11) 6)) l7 c7 k7
  have b7 := F7.binds (ps := ["self", "alike"]) fun _ _ _ _ _ _ us hl => match us, hl with | [_, _], _ => rfl
  have F8 := fun_mk (st := (inClass (top 11) 7)) l8 c8 k8
  have b8 := F8.binds (ps := ["self", "name"]) fun _ _ _ _ _ _ us hl => match us, hl with | [_, _], _ => rfl
  have F9 := fun_mk (st := (inClass (top 11) 8)) l9 c9 k9
  have b9 := F9.binds (ps := ["self"]) fun _ _ _ _ _ _ us hl => match us, hl with | [_], _ => rfl
  have F10 := fun_mk (st := (inClass (top 11) 9)) l10 c10 k10
  have b10 := F10.binds (ps := ["self"]) fun _ _ _ _ _ _ us hl => match us, hl with | [_], _ => rfl
  have F11 := fun_mk (st := (inClass (top 11) 10)) l11 c11 k11
  have b11 := F11.binds (ps := ["self"]) fun _ _ _ _ _ _ us hl => match us, hl with | [_], _ => rfl
  have F12 := fun_mk (st := (top 13)) l12 c12 k12
  have b12 := F12.binds (ps := ["script", "k"]) fun _ _ _ _ _ _ us hl => match us, hl with | [_, _], _ => rfl
  have g12 := PySem.W.mg_of X G a12
  have F13 := fun_mk (st := (top 14)) l13 c13 k13
  have b13 := F13.binds (ps := ["cell", "k"]) fun _ _ _ _ _ _ us hl => match us, hl with | [_, _], _ => rfl
  have g13 := PySem.W.mg_of X G a13
  have F14 := fun_mk (st := (top 15)) l14 c14 k14
  have b14 := F14.binds (ps := ["cell", "k", "many"]) fun _ _ _ _ _ _ us hl => match us, hl with | [_, _, _], _ => rfl
  have g14 := PySem.W.mg_of X G a14
  have F15 := fun_mk (st := (top 16)) l15 c15 k15
  have b15 := F15.binds (ps := ["e"]) fun _ _ _ _ _ _ us hl => match us, hl with | [_], _ => rfl
  have g15 := PySem.W.mg_of X G a15
  have F16 := fun_mk (st := (top 17)) l16 c16 k16
  have b16 := F16.binds (ps := ["word"]) fun _ _ _ _ _ _ us hl => match us, hl with | [_], _ => rfl
  have g16 := PySem.W.mg_of X G a16
  have F17 := fun_mk (st := (top 18)) l17 c17 k17
  have b17 := F17.binds (ps := ["keeper", "way", "name"]) fun _ _ _ _ _ _ us hl => match us, hl with | [_, _, _], _ => rfl
  have g17 := PySem.W.mg_of X G a17
  have F18 := fun_mk (st := (top 19)) l18 c18 k18
  have b18 := F18.binds (ps := ["cell", "many"]) fun _ _ _ _ _ _ us hl => match us, hl with | [_, _], _ => rfl
  have g18 := PySem.W.mg_of X G a18
  have F19 := fun_mk (st := (top 20)) l19 c19 k19
  have b19 := F19.binds (ps := ["keeper", "script", "many", "ahead"]) fun _ _ _ _ _ _ us hl => match us, hl with | [_, _, _, _], _ => rfl
  have g19 := PySem.W.mg_of X G a19
  have F20 := fun_mk (st := (top 21)) l20 c20 k20
  have cl_Keeper : Cls K c_Keeper := ⟨pg_Keeper, hd_Keeper, po_Keeper, sa_Keeper⟩
  have fc_Keeper_kept : FldC K c_Keeper "kept" := ⟨cl_Keeper, nf_Keeper_kept⟩
  have fc_Keeper_coming : FldC K c_Keeper "coming" := ⟨cl_Keeper, nf_Keeper_coming⟩
  have fc_Keeper_passed : FldC K c_Keeper "passed" := ⟨cl_Keeper, nf_Keeper_passed⟩
  have fc_Keeper_answered : FldC K c_Keeper "answered" := ⟨cl_Keeper, nf_Keeper_answered⟩
  have m_len := PySem.W.mg_none_of X G z_len
  have m_sum := PySem.W.mg_none_of X G z_sum
  have m_list := PySem.W.mg_none_of X G z_list
  have m_isinstance := PySem.W.mg_none_of X G z_isinstance
  have m_ValueError := PySem.W.mg_none_of X G z_ValueError
  have m_range := PySem.W.mg_none_of X G z_range
  have ei_NoAsk : ExcIn K c_NoAsk := ⟨xhga_NoAsk, xhgn_NoAsk, xhmB_NoAsk, xha_NoAsk, xhn_NoAsk, xhtk_NoAsk, xhm_NoAsk, by rw [xcls_NoAsk]; rfl⟩
  have ei_NoName : ExcIn K c_NoName := ⟨xhga_NoName, xhgn_NoName, xhmB_NoName, xha_NoName, xhn_NoName, xhtk_NoName, xhm_NoName, by rw [xcls_NoName]; rfl⟩
  have e_NoAsk : mg "NoAsk" = some (.ref c_NoAsk) ∧ RaiseIn K c_NoAsk := ⟨PySem.W.mg_of X G zc_NoAsk, er_NoAsk⟩
  have e_NoName : mg "NoName" = some (.ref c_NoName) ∧ RaiseIn K c_NoName := ⟨PySem.W.mg_of X G zc_NoName, er_NoName⟩
  have i_NoName : mg "NoName" = some (.ref c_NoName) ∧ IsX K (.ref c_NoName) (qOf K (.ref c_NoName)) := ⟨PySem.W.mg_of X G zc_NoName, isX_q rfl⟩
  have fq_NoName_NoAsk : (qOf K (.ref c_NoName)) c_NoAsk = some false := q_of ei_NoAsk kq_NoName_NoAsk
  have fq_NoName_NoName : (qOf K (.ref c_NoName)) c_NoName = some true := q_of ei_NoName kq_NoName_NoName
  have i_TooMany : mg "TooMany" = some (.ref c_TooMany) ∧ IsX K (.ref c_TooMany) (qOf K (.ref c_TooMany)) := ⟨PySem.W.mg_of X G zc_TooMany, isX_q rfl⟩
  have fq_TooMany_NoAsk : (qOf K (.ref c_TooMany)) c_NoAsk = some false := q_of ei_NoAsk kq_TooMany_NoAsk
  have fq_TooMany_NoName : (qOf K (.ref c_TooMany)) c_NoName = some false := q_of ei_NoName kq_TooMany_NoName
  have i_NoFit : mg "NoFit" = some (.ref c_NoFit) ∧ IsX K (.ref c_NoFit) (qOf K (.ref c_NoFit)) := ⟨PySem.W.mg_of X G zc_NoFit, isX_q rfl⟩
  have fq_NoFit_NoAsk : (qOf K (.ref c_NoFit)) c_NoAsk = some false := q_of ei_NoAsk kq_NoFit_NoAsk
  have fq_NoFit_NoName : (qOf K (.ref c_NoFit)) c_NoName = some false := q_of ei_NoName kq_NoFit_NoName
  have i_NoThing : mg "NoThing" = some (.ref c_NoThing) ∧ IsX K (.ref c_NoThing) (qOf K (.ref c_NoThing)) := ⟨PySem.W.mg_of X G zc_NoThing, isX_q rfl⟩
  have fq_NoThing_NoAsk : (qOf K (.ref c_NoThing)) c_NoAsk = some false := q_of ei_NoAsk kq_NoThing_NoAsk
  have fq_NoThing_NoName : (qOf K (.ref c_NoThing)) c_NoName = some false := q_of ei_NoName kq_NoThing_NoName
  have i_NoneYet : mg "NoneYet" = some (.ref c_NoneYet) ∧ IsX K (.ref c_NoneYet) (qOf K (.ref c_NoneYet)) := ⟨PySem.W.mg_of X G zc_NoneYet, isX_q rfl⟩
  have fq_NoneYet_NoAsk : (qOf K (.ref c_NoneYet)) c_NoAsk = some false := q_of ei_NoAsk kq_NoneYet_NoAsk
  have fq_NoneYet_NoName : (qOf K (.ref c_NoneYet)) c_NoName = some false := q_of ei_NoName kq_NoneYet_NoName
  have i_NoForm : mg "NoForm" = some (.ref c_NoForm) ∧ IsX K (.ref c_NoForm) (qOf K (.ref c_NoForm)) := ⟨PySem.W.mg_of X G zc_NoForm, isX_q rfl⟩
  have fq_NoForm_NoAsk : (qOf K (.ref c_NoForm)) c_NoAsk = some false := q_of ei_NoAsk kq_NoForm_NoAsk
  have fq_NoForm_NoName : (qOf K (.ref c_NoForm)) c_NoName = some false := q_of ei_NoName kq_NoForm_NoName
  have i_NoText : mg "NoText" = some (.ref c_NoText) ∧ IsX K (.ref c_NoText) (qOf K (.ref c_NoText)) := ⟨PySem.W.mg_of X G zc_NoText, isX_q rfl⟩
  have fq_NoText_NoAsk : (qOf K (.ref c_NoText)) c_NoAsk = some false := q_of ei_NoAsk kq_NoText_NoAsk
  have fq_NoText_NoName : (qOf K (.ref c_NoText)) c_NoName = some false := q_of ei_NoName kq_NoText_NoName
  have i_NoAsk : mg "NoAsk" = some (.ref c_NoAsk) ∧ IsX K (.ref c_NoAsk) (qOf K (.ref c_NoAsk)) := ⟨PySem.W.mg_of X G zc_NoAsk, isX_q rfl⟩
  have fq_NoAsk_NoAsk : (qOf K (.ref c_NoAsk)) c_NoAsk = some true := q_of ei_NoAsk kq_NoAsk_NoAsk
  have fq_NoAsk_NoName : (qOf K (.ref c_NoAsk)) c_NoName = some false := q_of ei_NoName kq_NoAsk_NoName
  have i_ValueError : IsX K (.ty "ValueError") (qOf K (.type "ValueError")) := isX_q rfl
  have fq_ValueError_NoAsk : (qOf K (.type "ValueError")) c_NoAsk = some true := q_of ei_NoAsk kq_ValueError_NoAsk
  have fq_ValueError_NoName : (qOf K (.type "ValueError")) c_NoName = some true := q_of ei_NoName kq_ValueError_NoName
  have t_HalfError : mg "HalfError" = some (.ref c_HalfError) ∧ ∀ C ∈ ([c_NoAsk, c_NoName] : List Addr), PySem.W.exmOne K (.ref C) (.ref c_HalfError) = some true := ⟨PySem.W.mg_of X G zc_HalfError, fun C hC => by
    simp only [List.mem_cons, List.not_mem_nil, or_false] at hC
    rcases hC with rfl | rfl
    · exact exm_of ks_HalfError kc_HalfError ky_HalfError kt_HalfError_NoAsk
    · exact exm_of ks_HalfError kc_HalfError ky_HalfError kt_HalfError_NoName⟩
  refine ⟨PySem.W.fnOf "law" "law" (defArgs (top 21)) (defBody (top 21)) (defScope (top 21)) .none kV20 dc20 pm20 an20 cd20 ct20, fun s v => .of_eq rfl, fun base _ _ => ?_⟩
  have D_Keeper___init : MkC l.prog w K mg base CX0 1 c_Keeper "Keeper" ["self"] (spM K (mi_Keeper___init c_Keeper)) := ⟨PySem.W.mg_of X G zc_Keeper, ⟨_, _, ⟨mk_Keeper, a1, i1, kc_Keeper⟩, ok_Keeper___init F1 fc_Keeper_kept fc_Keeper_coming fc_Keeper_passed fc_Keeper_answered, b1⟩⟩
  have D_Keeper_wants : MtC l.prog w K mg base CX0 1 c_Keeper "wants" ["self"] (spM K (mi_Keeper_wants c_Keeper)) := ⟨cl_Keeper, ⟨_, _, ⟨a2, i2, k2⟩, ok_Keeper_wants F2 fc_Keeper_coming fc_Keeper_kept fc_Keeper_passed, b2⟩⟩
  have D_Keeper_check_nothing_wanted : MtC l.prog w K mg base (CXr l.prog w) 1 c_Keeper "check_nothing_wanted" ["self"] (spX K (mi_Keeper_check_nothing_wanted c_Keeper c_NoAsk)) := ⟨cl_Keeper, ⟨_, _, ⟨a3, i3, k3⟩, ok_Keeper_check_nothing_wanted F3 fc_Keeper_coming e_NoAsk, b3⟩⟩
  have D_Keeper_group_with : MtC l.prog w K mg base CX0 1 c_Keeper "group_with" ["self", "name"] (spM K (mi_Keeper_group_with c_Keeper)) := ⟨cl_Keeper, ⟨_, _, ⟨a4, i4, k4⟩, ok_Keeper_group_with F4 fc_Keeper_kept, b4⟩⟩
  have D_Keeper_begin_group_if_unlike_all : MtC l.prog w K mg base CX0 1 c_Keeper "begin_group_if_unlike_all" ["self"] (spM K (mi_Keeper_begin_group_if_unlike_all c_Keeper)) := ⟨cl_Keeper, ⟨_, _, ⟨a5, i5, k5⟩, ok_Keeper_begin_group_if_unlike_all F5 fc_Keeper_passed fc_Keeper_kept fc_Keeper_coming m_len, b5⟩⟩
  have D_Keeper_come : MtC l.prog w K mg base (CXr l.prog w) 2 c_Keeper "come" ["self", "name"] (spX K (miCome c_Keeper c_NoAsk c_NoName)) := ⟨cl_Keeper, ⟨_, _, ⟨a6, i6, k6⟩, ok_Keeper_come F6 (D_Keeper_group_with) (by omega) (D_Keeper_begin_group_if_unlike_all) (by omega) (D_Keeper_check_nothing_wanted) (by omega) fc_Keeper_coming fc_Keeper_passed e_NoName, b6⟩⟩
  have D_Keeper_hear : MtC l.prog w K mg base (CXr l.prog w) 2 c_Keeper "hear" ["self", "alike"] (spX K (miHear c_Keeper c_NoAsk)) := ⟨cl_Keeper, ⟨_, _, ⟨a7, i7, k7⟩, ok_Keeper_hear F7 (D_Keeper_begin_group_if_unlike_all) (by omega) fc_Keeper_coming fc_Keeper_answered fc_Keeper_kept fc_Keeper_passed e_NoAsk, b7⟩⟩
  have D_Keeper_go : MtC l.prog w K mg base (CXr l.prog w) 2 c_Keeper "go" ["self", "name"] (spX K (miGo c_Keeper c_NoAsk c_NoName)) := ⟨cl_Keeper, ⟨_, _, ⟨a8, i8, k8⟩, ok_Keeper_go F8 (D_Keeper_group_with) (by omega) (D_Keeper_check_nothing_wanted) (by omega) fc_Keeper_kept e_NoName, b8⟩⟩
  have D_Keeper_most : MtC l.prog w K mg base (CXr l.prog w) 2 c_Keeper "most" ["self"] (spX K (miMost c_Keeper c_NoAsk)) := ⟨cl_Keeper, ⟨_, _, ⟨a9, i9, k9⟩, ok_Keeper_most F9 (D_Keeper_check_nothing_wanted) (by omega) fc_Keeper_kept m_len m_sum m_list, b9⟩⟩
  have D_Keeper_groups : MtC l.prog w K mg base (CXr l.prog w) 2 c_Keeper "groups" ["self"] (spX K (miGroups c_Keeper c_NoAsk)) := ⟨cl_Keeper, ⟨_, _, ⟨a10, i10, k10⟩, ok_Keeper_groups F10 (D_Keeper_check_nothing_wanted) (by omega) fc_Keeper_kept m_len, b10⟩⟩
  have D_Keeper_heard : MtC l.prog w K mg base (CXr l.prog w) 2 c_Keeper "heard" ["self"] (spX K (miHeard c_Keeper c_NoAsk)) := ⟨cl_Keeper, ⟨_, _, ⟨a11, i11, k11⟩, ok_Keeper_heard F11 (D_Keeper_check_nothing_wanted) (by omega) fc_Keeper_answered, b11⟩⟩
  have D_law_cell_at : Df l.prog w K mg base 1 "_law_cell_at" ["script", "k"] (spM K (mi_law_cell_at)) := ⟨_, _, ok_law_cell_at F12 m_len, b12, k12, g12⟩
  have D_law_stir : Df l.prog w K mg base 1 "_law_stir" ["cell", "k"] (spM K (mi_law_stir)) := ⟨_, _, ok_law_stir F13, b13, k13, g13⟩
  have D_law_digit : Df l.prog w K mg base 2 "_law_digit" ["cell", "k", "many"] (spM K (mi_law_digit mi_law_stir)) := ⟨_, _, ok_law_digit F14 (D_law_stir) (by omega), b14, k14, g14⟩
  have D_law_class : DfU l.prog w K mg base 1 "_law_class" ["e"] (spM K (mi_law_class (qOf K (.ref c_NoName)) (qOf K (.ref c_TooMany)) (qOf K (.ref c_NoFit)) (qOf K (.ref c_NoThing)) (qOf K (.ref c_NoneYet)) (qOf K (.ref c_NoForm)) (qOf K (.ref c_NoText)) (qOf K (.ref c_NoAsk)) (qOf K (.type "ValueError")))) := ⟨_, _, ok_law_class F15 i_NoName i_TooMany i_NoFit i_NoThing i_NoneYet i_NoForm i_NoText i_NoAsk i_ValueError m_isinstance m_ValueError, b15, k15, g15⟩
  have D_law_due : Df l.prog w K mg base 1 "_law_due" ["word"] (spM K (mi_law_due)) := ⟨_, _, ok_law_due F16, b16, k16, g16⟩
  have D_law_done : Df l.prog w K mg base 3 "_law_done" ["keeper", "way", "name"] (spM K (doneV (mi_law_class (qOf K (.ref c_NoName)) (qOf K (.ref c_TooMany)) (qOf K (.ref c_NoFit)) (qOf K (.ref c_NoThing)) (qOf K (.ref c_NoneYet)) (qOf K (.ref c_NoForm)) (qOf K (.ref c_NoText)) (qOf K (.ref c_NoAsk)) (qOf K (.type "ValueError"))) c_Keeper c_NoAsk c_NoName [c_NoAsk, c_NoName])) := ⟨_, _, ok_law_done F17 (D_law_class) (by omega) (D_Keeper_come) (by omega) (D_Keeper_go) (by omega) (D_Keeper_hear) (by omega) (D_Keeper_most) (by omega) (D_Keeper_groups) (by omega) (D_Keeper_heard) (by omega) t_HalfError, b17, k17, g17⟩
  have D_law_made : Df l.prog w K mg base 3 "_law_made" ["cell", "many"] (spM K (mi_law_made (mi_Keeper___init c_Keeper) (dn (miCome c_Keeper c_NoAsk c_NoName)) (mi_Keeper_wants c_Keeper) (dn (miHear c_Keeper c_NoAsk)) (mi_law_digit mi_law_stir) c_Keeper)) := ⟨_, _, ok_law_made F18 (D_Keeper___init) (by omega) ((D_Keeper_come).dn) (by omega) (D_Keeper_wants) (by omega) ((D_Keeper_hear).dn) (by omega) (D_law_digit) (by omega) m_range, b18, k18, g18⟩
  have D_law_idle_good : Df l.prog w K mg base 4 "_law_idle_good" ["keeper", "script", "many", "ahead"] (spM K (idleV (mi_law_class (qOf K (.ref c_NoName)) (qOf K (.ref c_TooMany)) (qOf K (.ref c_NoFit)) (qOf K (.ref c_NoThing)) (qOf K (.ref c_NoneYet)) (qOf K (.ref c_NoForm)) (qOf K (.ref c_NoText)) (qOf K (.ref c_NoAsk)) (qOf K (.type "ValueError"))) c_Keeper c_NoAsk c_NoName [c_NoAsk, c_NoName])) := ⟨_, _, ok_law_idle_good F19 (D_law_cell_at) (by omega) (D_law_digit) (by omega) (D_law_done) (by omega) (D_law_due) (by omega) ((D_Keeper_heard).dn) (by omega) ((D_Keeper_groups).dn) (by omega) ((D_Keeper_most).dn) (by omega) (D_Keeper_wants) (by omega) m_range, b19, k19, g19⟩
  exact law_of (ok_law F20 (D_law_cell_at) (by omega) (D_law_digit) (by omega) (D_law_made) (by omega) ((D_Keeper_come).dn) (by omega) (D_Keeper_wants) (by omega) ((D_Keeper_hear).dn) (by omega) ((D_Keeper_go).dn) (by omega) ((D_Keeper_heard).dn) (by omega) ((D_Keeper_groups).dn) (by omega) ((D_Keeper_most).dn) (by omega) (D_law_idle_good) (by omega) (D_Keeper___init) (by omega) (D_law_done) (by omega) (D_law_due) (by omega) m_range) (run_law (A := c_Keeper) (f := mi_law_class (qOf K (.ref c_NoName)) (qOf K (.ref c_TooMany)) (qOf K (.ref c_NoFit)) (qOf K (.ref c_NoThing)) (qOf K (.ref c_NoneYet)) (qOf K (.ref c_NoForm)) (qOf K (.ref c_NoText)) (qOf K (.ref c_NoAsk)) (qOf K (.type "ValueError"))) (CA := c_NoAsk) (CN := c_NoName) (cs := [c_NoAsk, c_NoName]) ⟨by simp, by simp, fun μ e hk => run_class ⟨fq_NoName_NoAsk, fq_TooMany_NoAsk, fq_NoFit_NoAsk, fq_NoThing_NoAsk, fq_NoneYet_NoAsk, fq_NoForm_NoAsk, fq_NoText_NoAsk, fq_NoAsk_NoAsk, fq_ValueError_NoAsk⟩ hk, fun μ e hk => run_class ⟨fq_NoName_NoName, fq_TooMany_NoName, fq_NoFit_NoName, fq_NoThing_NoName, fq_NoneYet_NoName, fq_NoForm_NoName, fq_NoText_NoName, fq_NoAsk_NoName, fq_ValueError_NoName⟩ hk⟩)
theorem walk {l : PySem.W.OpenLaw} {q : Program} {loose : List Str} {XP : (Str → Option Value) → Heap → Prop} {YP : World → Heap → Prop} {d : DefRec} {K : Params → PySem.W.Frag} (hn : l.most = some 63) (hdf : d.params.defaults = [])
    (hY : ∀ (w : World) (h : Heap), YP w h → (K w.params).In h)
    (F : ∀ (w : World) (mg : Str → Option Value) (fa : Addr) (h : Heap), (K w.params).In h → h.Ns mainGlobals mg → mg d.name = some (.ref fa) →
      ∃ fd : FuncData, (∀ (s : Shared) (u : Value), BindsTo s fd ⟨[u], []⟩ [("script", u)]) ∧ ∀ base : Heap, (K w.params).In base → base.Ns mainGlobals mg → FnOk l.prog w (K w.params) mg base CX0 5 fa fd ["script"] (spLaw (K w.params))) :
    PySem.W.WalkO q loose XP YP l.row.toRowW d [] (fun f vs => PySem.call f vs) :=
  L2.walk_of (n := 63) (k := 5) (x := "script") (CX := fun _ => CX0) (sp := fun w => spLaw (K w.params)) hn (by decide) hdf ⟨rfl, by decide, by decide⟩ hY F (fun _ _ a ns hl hO hS => ⟨a, ns, rfl, hO, hS, hl, fun _ => rfl⟩) fun _ _ _ _ _ z => z
end Law
open PySem PySem.W PyProof.Rows
set_option maxRecDepth 100000 in
set_option maxHeartbeats 0 in
theorem PySem.Challenge.cw_morethanhalf_k44_keepers_refuse_holds : PySem.Challenge.rw_morethanhalf_k44_keepers_refuse.Holds := by
  w_on; o_law; k_head; (case hw => w_witness2)
  k_fill
  refine Law.walk (l := PySem.Challenge.rw_morethanhalf_k44_keepers_refuse) rfl rfl (fun w h Y => PySem.W.kIn_of Y) ?F
  case F =>
    intro w mg fa h KX G hmg
    refine' Law.all_mk KX G hmg ?a1 ?i1 ?l1 ?c1 ?k1 ?a2 ?i2 ?l2 ?c2 ?k2 ?a3 ?i3 ?l3 ?c3 ?k3 ?a4 ?i4 ?l4 ?c4 ?k4 ?a5 ?i5 ?l5 ?c5 ?k5 ?a6 ?i6 ?l6 ?c6 ?k6 ?a7 ?i7 ?l7 ?c7 ?k7 ?a8 ?i8 ?l8 ?c8 ?k8 ?a9 ?i9 ?l9 ?c9 ?k9 ?a10 ?i10 ?l10 ?c10 ?k10 ?a11 ?i11 ?l11 ?c11 ?k11 ?a12 ?l12 ?c12 ?k12 ?a13 ?l13 ?c13 ?k13 ?a14 ?l14 ?c14 ?k14 ?a15 ?l15 ?c15 ?k15 ?a16 ?l16 ?c16 ?k16 ?a17 ?l17 ?c17 ?k17 ?a18 ?l18 ?c18 ?k18 ?a19 ?l19 ?c19 ?k19 ?a20 ?l20 ?c20 ?k20 ?z_len ?z_sum ?z_list ?z_isinstance ?z_ValueError ?z_range ?zc_Keeper ?zc_NoAsk ?zc_NoName ?zc_TooMany ?zc_NoFit ?zc_NoThing ?zc_NoneYet ?zc_NoForm ?zc_NoText ?zc_HalfError ?pg_Keeper ?hd_Keeper ?po_Keeper ?sa_Keeper ?mk_Keeper ?kc_Keeper ?nf_Keeper_kept ?nf_Keeper_coming ?nf_Keeper_passed ?nf_Keeper_answered ?ks_HalfError ?kc_HalfError ?ky_HalfError ?er_NoAsk ?xhga_NoAsk ?xhgn_NoAsk ?xhmB_NoAsk ?xha_NoAsk ?xhn_NoAsk ?xhtk_NoAsk ?xhm_NoAsk ?xcls_NoAsk ?kq_NoName_NoAsk ?kq_TooMany_NoAsk ?kq_NoFit_NoAsk ?kq_NoThing_NoAsk ?kq_NoneYet_NoAsk ?kq_NoForm_NoAsk ?kq_NoText_NoAsk ?kq_NoAsk_NoAsk ?kq_ValueError_NoAsk ?kt_HalfError_NoAsk ?er_NoName ?xhga_NoName ?xhgn_NoName ?xhmB_NoName ?xha_NoName ?xhn_NoName ?xhtk_NoName ?xhm_NoName ?xcls_NoName ?kq_NoName_NoName ?kq_TooMany_NoName ?kq_NoFit_NoName ?kq_NoThing_NoName ?kq_NoneYet_NoName ?kq_NoForm_NoName ?kq_NoText_NoName ?kq_NoAsk_NoName ?kq_ValueError_NoName ?kt_HalfError_NoName
    (case zc_Keeper => k_is)
    (case zc_NoAsk => k_is)
    (case zc_NoName => k_is)
    (case zc_TooMany => k_is)
    (case zc_NoFit => k_is)
    (case zc_NoThing => k_is)
    (case zc_NoneYet => k_is)
    (case zc_NoForm => k_is)
    (case zc_NoText => k_is)
    (case zc_HalfError => k_is)
    (case a1 => k_is)
    (case i1 => k_is)
    (case l1 => k_is)
    (case c1 => k_is)
    (case k1 => k_is)
    (case a2 => k_is)
    (case i2 => k_is)
    (case l2 => k_is)
    (case c2 => k_is)
    (case k2 => k_is)
    (case a3 => k_is)
    (case i3 => k_is)
    (case l3 => k_is)
    (case c3 => k_is)
    (case k3 => k_is)
    (case a4 => k_is)
    (case i4 => k_is)
    (case l4 => k_is)
    (case c4 => k_is)
    (case k4 => k_is)
    (case a5 => k_is)
    (case i5 => k_is)
    (case l5 => k_is)
    (case c5 => k_is)
    (case k5 => k_is)
    (case a6 => k_is)
    (case i6 => k_is)
    (case l6 => k_is)
    (case c6 => k_is)
    (case k6 => k_is)
    (case a7 => k_is)
    (case i7 => k_is)
    (case l7 => k_is)
    (case c7 => k_is)
    (case k7 => k_is)
    (case a8 => k_is)
    (case i8 => k_is)
    (case l8 => k_is)
    (case c8 => k_is)
    (case k8 => k_is)
    (case a9 => k_is)
    (case i9 => k_is)
    (case l9 => k_is)
    (case c9 => k_is)
    (case k9 => k_is)
    (case a10 => k_is)
    (case i10 => k_is)
    (case l10 => k_is)
    (case c10 => k_is)
    (case k10 => k_is)
    (case a11 => k_is)
    (case i11 => k_is)
    (case l11 => k_is)
    (case c11 => k_is)
    (case k11 => k_is)
    (case a12 => k_is)
    (case l12 => k_is)
    (case c12 => k_is)
    (case k12 => k_is)
    (case a13 => k_is)
    (case l13 => k_is)
    (case c13 => k_is)
    (case k13 => k_is)
    (case a14 => k_is)
    (case l14 => k_is)
    (case c14 => k_is)
    (case k14 => k_is)
    (case a15 => k_is)
    (case l15 => k_is)
    (case c15 => k_is)
    (case k15 => k_is)
    (case a16 => k_is)
    (case l16 => k_is)
    (case c16 => k_is)
    (case k16 => k_is)
    (case a17 => k_is)
    (case l17 => k_is)
    (case c17 => k_is)
    (case k17 => k_is)
    (case a18 => k_is)
    (case l18 => k_is)
    (case c18 => k_is)
    (case k18 => k_is)
    (case a19 => k_is)
    (case l19 => k_is)
    (case c19 => k_is)
    (case k19 => k_is)
    (case a20 => k_is)
    (case l20 => k_is)
    (case c20 => k_is)
    (case k20 => k_is)
    (case z_len => k_is)
    (case z_sum => k_is)
    (case z_list => k_is)
    (case z_isinstance => k_is)
    (case z_ValueError => k_is)
    (case z_range => k_is)
    (case pg_Keeper => k_is)
    (case hd_Keeper => k_is)
    (case po_Keeper => k_is)
    (case sa_Keeper => k_is)
    (case mk_Keeper => k_is)
    (case kc_Keeper => k_is)
    (case nf_Keeper_kept => k_is)
    (case nf_Keeper_coming => k_is)
    (case nf_Keeper_passed => k_is)
    (case nf_Keeper_answered => k_is)
    (case ks_HalfError => k_is)
    (case kc_HalfError => k_is)
    (case ky_HalfError => k_is)
    (case er_NoAsk => kernel_rfl)
    (case xhga_NoAsk => k_is)
    (case xhgn_NoAsk => k_is)
    (case xhmB_NoAsk => k_is)
    (case xha_NoAsk => k_is)
    (case xhn_NoAsk => k_is)
    (case xhtk_NoAsk => k_is)
    (case xhm_NoAsk => k_is)
    (case xcls_NoAsk => k_is)
    (case kq_NoName_NoAsk => kit_is)
    (case kq_TooMany_NoAsk => kit_is)
    (case kq_NoFit_NoAsk => kit_is)
    (case kq_NoThing_NoAsk => kit_is)
    (case kq_NoneYet_NoAsk => kit_is)
    (case kq_NoForm_NoAsk => kit_is)
    (case kq_NoText_NoAsk => kit_is)
    (case kq_NoAsk_NoAsk => kit_is)
    (case kq_ValueError_NoAsk => kit_is)
    (case kt_HalfError_NoAsk => k_is)
    (case er_NoName => kernel_rfl)
    (case xhga_NoName => k_is)
    (case xhgn_NoName => k_is)
    (case xhmB_NoName => k_is)
    (case xha_NoName => k_is)
    (case xhn_NoName => k_is)
    (case xhtk_NoName => k_is)
    (case xhm_NoName => k_is)
    (case xcls_NoName => k_is)
    (case kq_NoName_NoName => kit_is)
    (case kq_TooMany_NoName => kit_is)
    (case kq_NoFit_NoName => kit_is)
    (case kq_NoThing_NoName => kit_is)
    (case kq_NoneYet_NoName => kit_is)
    (case kq_NoForm_NoName => kit_is)
    (case kq_NoText_NoName => kit_is)
    (case kq_NoAsk_NoName => kit_is)
    (case kq_ValueError_NoName => kit_is)
    (case kt_HalfError_NoName => k_is)
