import PyProof.Rows.All
import Wide.All
import OpenK.AllK
import Wide.FinOn
import Lean
import PyProof.EqAt
import PyProof.EqKinds
import PyProof.TupleCall
import PyProof.NsDelKeeps
import KE.KTryMore
import OpenK.KOwn
import PyProof.ExcBaseAll.ValueError
import PyProof.Rows.CountFlat
import PyProof.Rows.SeqMore2
import PyProof.SumWalkG
import PyProof.FitsBits
import PyProof.Rows.IntMath
import PyProof.P3Eq
import PyProof.ZipIter
import PyProof.TupleIter
import PySem.Challenge.RW_morethanhalf_k33_what_answers_tell_of_mo
set_option Elab.async false
set_option linter.all false
set_option compiler.extract_closed false
set_option maxRecDepth 100000
set_option maxHeartbeats 0
theorem bq {p:Prop} (h:¬ p→False):p:=Classical.byContradiction h
namespace L2
open PySem PySem.Spec PyProof.Rows
noncomputable abbrev Key:=Sum Int Str
noncomputable def zcn:Key→Value→Bool
  | .inl k,v=>Value.isInt k v
  | .inr x,v=>Value.isStrOf x v
noncomputable def zvf (w:World):Key→Int
  | .inl k=>hashInt k
  | .inr x=>hashStr w x
theorem z13:∀ {k:Key} {v:Value},zcn k v=true→(∃ i t,k=Sum.inl i∧v=Value.int i t)∨(∃ x t,k=Sum.inr x∧v=Value.str x t)
  | .inl i,v,h=>by
    obtain ⟨t,e⟩:=Value.isInt_shape (k:=i) (v:=v) h
    exact .inl ⟨i,t,rfl,e⟩
  | .inr x,v,h=>by
    refine bq fun bG=>?_
    obtain ⟨t,e⟩:=Value.isStrOf_shape (x:=x) (v:=v) h
    exact bG (.inr ⟨x,t,rfl,e⟩)
theorem zhj (i:Int) (t:Tok):zcn (.inl i) (.int i t)=true:=by simp [zcn,Value.isInt]
theorem zhi (x:Str) (t:Tok):zcn (.inr x) (.str x t)=true:=by simp [zcn,Value.isStrOf]
theorem zrp (a b:Int):decide ((Sum.inl a:Key)=Sum.inl b)=(a==b):=by
  by_cases e:a=b
  · subst e;simp
  · have h:¬ (Sum.inl a:Key)=Sum.inl b:=fun q=>e (Sum.inl.inj q)
    rw [decide_eq_false h]
    exact (beq_eq_false_iff_ne.mpr e).symm
theorem zrm (a b:Str):decide ((Sum.inr a:Key)=Sum.inr b)=decide (a=b):=by
  by_cases e:a=b
  · subst e;simp
  · have h:¬ (Sum.inr a:Key)=Sum.inr b:=fun q=>e (Sum.inr.inj q)
    rw [decide_eq_false h,decide_eq_false e]
theorem zro (a:Int) (b:Str):decide ((Sum.inl a:Key)=Sum.inr b)=false:=decide_eq_false (fun q=>nomatch q)
theorem zrn (a:Str) (b:Int):decide ((Sum.inr a:Key)=Sum.inl b)=false:=decide_eq_false (fun q=>nomatch q)
noncomputable def z17 (prog:Program) (w:World):PySem.KeyKind prog w Key where
  is:=zcn
  hash:=zvf w
  inj:=fun v a b ha hb=>by
    rcases z13 ha with ⟨i,t,rfl,rfl⟩ | ⟨x,t,rfl,rfl⟩
    · rcases z13 hb with ⟨j,u,rfl,e⟩ | ⟨y,u,rfl,e⟩
      · injection e with e1 _;rw [e1]
      · exact nomatch e
    · rcases z13 hb with ⟨j,u,rfl,e⟩ | ⟨y,u,rfl,e⟩
      · exact nomatch e
      · injection e with e1 _;rw [e1]
  byValue:=fun k v h=>by
    rcases z13 h with ⟨i,t,rfl,rfl⟩ | ⟨x,t,rfl,rfl⟩ <;> rfl
  pyHash:=fun hv h=>by
    rcases z13 hv with ⟨i,t,rfl,rfl⟩ | ⟨x,t,rfl,rfl⟩
    · exact wpAny_pyHash_int h
    · exact wpAny_pyHash_str h
  eqBool:=fun hu hv h=>by
    rcases z13 hu with ⟨i,t,rfl,rfl⟩ | ⟨x,t,rfl,rfl⟩
    · rcases z13 hv with ⟨j,u,rfl,rfl⟩ | ⟨y,u,rfl,rfl⟩
      · rw [zrp] at h;exact wpAny_eqBool_int h
      · rw [zro] at h;exact SeqAt.EqAt.int_str i t y u _ _ _ _ h
    · rcases z13 hv with ⟨j,u,rfl,rfl⟩ | ⟨y,u,rfl,rfl⟩
      · rw [zrn] at h;exact SeqAt.EqAt.str_int x t j u _ _ _ _ h
      · rw [zrm] at h;exact wpAny_eqBool_str h
  «strs»:=fun k x t v h=>by
    rcases z13 h with ⟨i,u,rfl,e⟩ | ⟨y,u,rfl,e⟩
    · exact nomatch e
    · injection e with e1 _
      subst e1
      cases v <;> rfl
theorem zch (prog:Program) (w:World) (i:Int) (t:Tok):(z17 prog w).is (.inl i) (.int i t)=true:=zhj i t
theorem zcg (prog:Program) (w:World) (x:Str) (t:Tok):(z17 prog w).is (.inr x) (.str x t)=true:=zhi x t
inductive V where
  | non | bl (b:Bool) | int (i:Int) | str (x:Str) | byt (b:Array UInt8) | flt (b:UInt64) | ref (a:Addr) | ty (n:String)
  deriving DecidableEq
def RelV:V→Value→Prop
  | .non,u=>u=Value.none
  | .bl b,u=>u=Value.bool b
  | .int i,u=>∃ t,u=Value.int i t
  | .str x,u=>∃ t,u=Value.str x t
  | .byt b,u=>∃ t,u=Value.bytes b t
  | .flt b,u=>∃ t,u=Value.float b t
  | .ref a,u=>u=Value.ref a
  | .ty n,u=>u=Value.type n
noncomputable abbrev Vals:List V→List Value→Prop:=Paired RelV
theorem Vals.length {xs:List V} {us:List Value} (r:Vals xs us):xs.length=us.length:=Paired.length r
theorem Vals.get:∀ {xs:List V} {us:List Value} {i:Nat} {x:V},Vals xs us→xs[i]?=some x→∃ u,us[i]?=some u∧RelV x u
  | _,_,_,_,.nil,e=>by simp at e
  | _,_,0,_,.cons r _,e=>by simp at e;subst e;exact ⟨_,rfl,r⟩
  | _,_,i+1,x,.cons _ t,e=>by
    refine bq fun bG=>?_
    obtain ⟨u,h1,h2⟩:=Vals.get (i:=i) (x:=x) t (by simpa using e)
    exact bG (⟨u,by simpa using h1,h2⟩)
theorem Vals.set {x:V} {u:Value} (r:RelV x u):∀ {xs:List V} {us:List Value} (i:Nat),Vals xs us→Vals (xs.set i x) (us.set i u)
  | _,_,_,.nil=>.nil
  | _,_,0,.cons _ t=>.cons r t
  | _,_,i+1,.cons q t=>.cons q (Vals.set r i t)
theorem Vals.append:∀ {xs ys:List V} {us ws:List Value},Vals xs us→Vals ys ws→Vals (xs++ys) (us++ws)
  | _,_,_,_,.nil,s=>s
  | _,_,_,_,.cons r t,s=>.cons r (Vals.append t s)
theorem Vals.take:∀ {xs:List V} {us:List Value} (n:Nat),Vals xs us→Vals (xs.take n) (us.take n)
  | _,_,0,_=>.nil
  | _,_,_+1,.nil=>.nil
  | _,_,n+1,.cons r t=>.cons r (Vals.take n t)
theorem Vals.drop:∀ {xs:List V} {us:List Value} (n:Nat),Vals xs us→Vals (xs.drop n) (us.drop n)
  | _,_,0,r=>r
  | _,_,_+1,.nil=>.nil
  | _,_,n+1,.cons _ t=>Vals.drop n t
def RelO:Option V→Option Value→Prop
  | some v,some u=>RelV v u
  | none,none=>True
  | _,_=>False
def KV {κ:Type}:List (κ×V)→List (κ×Value)→Prop:=Paired fun (p:κ×V) (q:κ×Value)=>p.1=q.1∧RelV p.2 q.2
noncomputable def kV:Key→V
  | .inl i=>.int i
  | .inr x=>.str x
inductive HO where
  | lst (xs:List V)
  | tup (xs:List V)
  | dK (kvs:List (Key×V)) | dT (kvs:List (List Key×V))
  | set (S:Int→Bool) (n:Nat)
  | ins (C dx:Addr) (fs:List (Str×V))
  | own (x:Addr)
  | xd (fs:List (Str×V))
  | met (f x:Addr)
  | rng (lo hi:Int)
  | frz (o:Obj) (u:HO)
  | tbl (ps:Array Value)
  | ext (φ:Heap→Prop)
noncomputable abbrev Hp:=Addr→Option HO
noncomputable def upd (H:Hp) (a:Addr) (o:HO):Hp:=fun b=>if b=a then some o else H b
theorem z0k {H:Hp} {a:Addr} {o:HO}:upd H a o a=some o:=by unfold upd;rw [if_pos rfl]
theorem z0h {H:Hp} {a b:Addr} {o:HO} (h:b≠a):upd H a o b=H b:=by unfold upd;rw [if_neg h]
theorem z0o {H:Hp} {a b:Addr} {o:HO} (h:H a=some o) (h':H b=none):a≠b:=by
  intro e;subst e;rw [h] at h';cases h'
section
variable (P:Program) (w:World)
def ObjOk (H:Hp) (h:Heap) (a:Addr):HO→Prop
  | .lst xs=>xs.length≤sizeLine∧∃ (its:List Value) (n:Nat),Vals xs its∧h.get? a=some { cls:=.type "list",data:=.seq its.toArray n }
  | .tup xs=>xs.length≤sizeLine∧∃ its:List Value,Vals xs its∧IsTup h a its.toArray
  | .dK kvs=>kvs.length≤sizeLine∧(a==sysModules)=false∧∃ vs,KV kvs vs∧h.DictOf (z17 P w) a vs
  | .dT kvs=>kvs.length≤sizeLine∧(a==sysModules)=false∧∃ xs:List (List Key×Addr×Value),
      Paired (fun (p:List Key×V) (q:List Key×Addr×Value)=>p.1=q.1∧H q.2.1=some (.tup (p.1.map kV))∧RelV p.2 q.2.2) kvs xs ∧
      ∃ o es ep,h.get? a=some o∧o.ExactDict∧o.data=.dict es ep∧es.toList=xs.map (entryOfKey (tupleKind (z17 P w)))∧(xs.map (·.1)).Nodup
  | .set S n=>h.SetOf (intKind P w) a S n
  | .ins C dx fs=>H dx=some (.own a)∧fs.length≤1000∧dx≠a∧h.get? a=some (PySem.W.instObj C dx) ∧
      ∃ mA,h.Ns1 dx mA∧(∀ f,RelO (fs.lookup f) (mA f))∧PySem.Within mA (fs.map (·.1))
  | .own _=>∃ o,h.get? a=some o
  | .xd fs=>∃ mA,h.Ns1 a mA∧∀ f,RelO (fs.lookup f) (mA f)
  | .rng lo hi=>∃ t u v,h.get? a=some { cls:=.type "range",data:=.fields #[.int lo t,.int hi u,.int 1 v] }
  | .frz o u=>h.get? a=some o∧ObjOk H h a u
  | .tbl ps=>h.get? a=some { cls:=.none,data:=.fields ps }
  | .met f x=>h.get? a=some (PySem.W.methodObj (.ref f) (.ref x))
  | .ext φ=>φ h∧(∃ o,h.get? a=some o)∧∀ h1 h2:Heap,φ h1→(∀ o,h1.get? a=some o→h2.get? a=some o)→φ h2
def HOk (H:Hp) (h:Heap):Prop:=∀ a o,H a=some o→ObjOk P w H h a o
end
section
variable {P:Program} {w:World} {H H':Hp} {h h':Heap} {a:Addr} {o:HO}
theorem ObjOk.lt (x:ObjOk P w H h a o):a<h.objs.size:=by
  cases o with
  | lst xs=>obtain ⟨_,_,_,_,e⟩:=x;exact Heap.lt_size e
  | tup xs=>obtain ⟨_,_,_,p⟩:=x;exact p.lt
  | dK kvs=>obtain ⟨_,_,_,_,o,_,_,e,_⟩:=x;exact Heap.lt_size e
  | dT kvs=>obtain ⟨_,_,_,_,o,_,_,e,_⟩:=x;exact Heap.lt_size e
  | set S n=>obtain ⟨o,_,_,_,e,_⟩:=x;exact Heap.lt_size e
  | ins C dx fs=>obtain ⟨_,_,_,e,_⟩:=x;exact Heap.lt_size e
  | own y=>obtain ⟨_,e⟩:=x;exact Heap.lt_size e
  | xd fs=>obtain ⟨_,⟨_,_,_,e,_⟩,_⟩:=x;exact Heap.lt_size e
  | rng lo hi=>obtain ⟨_,_,_,e⟩:=x;exact Heap.lt_size e
  | frz ob u=>obtain ⟨e,_⟩:=x;exact Heap.lt_size e
  | tbl ps=>exact Heap.lt_size (show h.get? a=some _ from x)
  | met f y=>exact Heap.lt_size (show h.get? a=some _ from x)
  | ext φ=>obtain ⟨_,⟨_,e⟩,_⟩:=x;exact Heap.lt_size e
theorem Paired.mapP {α β:Type} {F G:α→β→Prop}:∀ {l₁:List α} {l₂:List β},Paired F l₁ l₂→(∀ a b,F a b→G a b)→Paired G l₁ l₂
  | _,_,.nil,_=>.nil
  | _,_,.cons r t,f=>.cons (f _ _ r) (Paired.mapP t f)
theorem ObjOk.stay (x:ObjOk P w H h a o) (k:∀ b u,(b=a∨H b=some (.own a))→h.get? b=some u→h'.get? b=some u)
    (ho:∀ b,H b=some (.own a)→H' b=some (.own a)) (ht:∀ b xs,H b=some (.tup xs)→H' b=some (.tup xs)):ObjOk P w H' h' a o:=by
  induction o with
  | lst xs=>obtain ⟨z,its,n,r,e⟩:=x;exact ⟨z,its,n,r,k _ _ (.inl rfl) e⟩
  | tup xs=>obtain ⟨z,its,r,ob,e,c⟩:=x;exact ⟨z,its,r,ob,k _ _ (.inl rfl) e,c⟩
  | dK kvs=>obtain ⟨z,y,vs,r,ob,es,ep,e,c⟩:=x;exact ⟨z,y,vs,r,ob,es,ep,k _ _ (.inl rfl) e,c⟩
  | dT kvs =>
    obtain ⟨z,y,xs,r,ob,es,ep,e,c⟩:=x
    exact ⟨z,y,xs,Paired.mapP r fun p q z=>⟨z.1,ht _ _ z.2.1,z.2.2⟩,ob,es,ep,k _ _ (.inl rfl) e,c⟩
  | set S n=>obtain ⟨ob,es,ep,t,e,c⟩:=x;exact ⟨ob,es,ep,t,k _ _ (.inl rfl) e,c⟩
  | ins C dx fs =>
    obtain ⟨d,z,ne,e,mA,⟨od,es,ep,e2,c⟩,r⟩:=x
    exact ⟨ho _ d,z,ne,k _ _ (.inl rfl) e,mA,⟨od,es,ep,k _ _ (.inr d) e2,c⟩,r⟩
  | own y=>obtain ⟨ob,e⟩:=x;exact ⟨ob,k _ _ (.inl rfl) e⟩
  | xd fs=>obtain ⟨mA,⟨od,es,ep,e,c⟩,r⟩:=x;exact ⟨mA,⟨od,es,ep,k _ _ (.inl rfl) e,c⟩,r⟩
  | rng lo hi=>obtain ⟨t,u,v,e⟩:=x;exact ⟨t,u,v,k _ _ (.inl rfl) e⟩
  | frz ob u ih=>obtain ⟨e,q⟩:=x;exact ⟨k _ _ (.inl rfl) e,ih q⟩
  | tbl ps =>
    have e:h.get? a=some { cls:=.none,data:=.fields ps }:=x
    show h'.get? a=some { cls:=.none,data:=.fields ps }
    exact k a _ (.inl rfl) e
  | met f y =>
    have e:h.get? a=some (PySem.W.methodObj (.ref f) (.ref y)):=x
    show h'.get? a=some (PySem.W.methodObj (.ref f) (.ref y))
    exact k a _ (.inl rfl) e
  | ext φ=>obtain ⟨p,⟨o,e⟩,st⟩:=x;exact ⟨st _ _ p fun o q=>k _ _ (.inl rfl) q,⟨o,k _ _ (.inl rfl) e⟩,st⟩
theorem HOk.lt (x:HOk P w H h) (e:H a=some o):a<h.objs.size:=(x a o e).lt
theorem HOk.fresh (x:HOk P w H h) (e:h.objs.size≤a):H a=none:=by
  cases q:H a with
  | none=>rfl
  | some u=>exact absurd (Nat.lt_of_lt_of_le (x.lt q) e) (Nat.lt_irrefl _)
theorem HOk.kept (x:HOk P w H h) (k:∀ b u,h.get? b=some u→h'.get? b=some u):HOk P w H h':=fun a o e =>
  (x a o e).stay (fun b u _ q=>k b u q) (fun _ q=>q) fun _ _ q=>q
theorem HOk.laid (x:HOk P w H h) (k:∀ b u,h.get? b=some u→h'.get? b=some u) (hp:h.objs.size≤a) (new:ObjOk P w (upd H a o) h' a o):HOk P w (upd H a o) h':=fun b u e=>by
  have hn:=x.fresh hp
  by_cases hb:b=a
  · subst hb;rw [z0k] at e;cases e;exact new
  · rw [z0h hb] at e
    exact (x b u e).stay (fun c v _ q=>k c v q) (fun c q=>by rw [z0h (z0o q hn)];exact q) fun c xs q=>by rw [z0h (z0o q hn)];exact q
end
def Rd (H:Hp) (a:Addr) (u:HO):Prop:=H a=some u∨∃ o,H a=some (.frz o u)
theorem Rd.ok {P:Program} {w:World} {H:Hp} {h:Heap} {a:Addr} {u:HO} (r:Rd H a u) (x:HOk P w H h):ObjOk P w H h a u:=by
  rcases r with r | ⟨o,r⟩
  · exact x a u r
  · obtain ⟨_,q⟩:=x a _ r
    exact q
def Mut:Option HO→Prop
  | some (.lst _)=>True
  | some (.dK _)=>True
  | some (.dT _)=>True
  | some (.set _ _)=>True
  | some (.ins _ _ _)=>True
  | some (.ext _)=>True
  | _=>False
section
variable {P:Program} {w:World} {H:Hp} {h h':Heap} {x e:Addr} {o':HO}
theorem HOk.write (ok:HOk P w H h) (mu:Mut (H x)) (he:e=x∨H e=some (.own x)) (k:∀ b u,b≠e→h.get? b=some u→h'.get? b=some u) (heo:∃ u,h'.get? e=some u)
    (new:ObjOk P w (upd H x o') h' x o'):HOk P w (upd H x o') h':=fun b u q=>by
  have nown:∀ c y,H c=some (.own y)→c≠x:=fun c y r z=>by subst z;rw [r] at mu;exact mu
  have ntup:∀ c xs,H c=some (.tup xs)→c≠x:=fun c xs r z=>by subst z;rw [r] at mu;exact mu
  by_cases hb:b=x
  · subst hb;rw [z0k] at q;cases q;exact new
  · rw [z0h hb] at q
    by_cases hbe:b=e
    · have q':H b=some (.own x):=by
        rcases he with z | z
        · exact absurd (hbe.trans z) hb
        · rw [hbe];exact z
      rw [q] at q';cases q'
      obtain ⟨v,hv⟩:=heo
      exact ⟨v,by rw [hbe];exact hv⟩
    · refine (ok b u q).stay (fun c v hc r=>k c v ?_ r) (fun c r=>by rw [z0h (nown c b r)];exact r) fun c xs r=>by rw [z0h (ntup c xs r)];exact r
      rcases hc with rfl | hc
      · exact hbe
      · rintro rfl
        rcases he with z | z
        · exact nown c b hc z
        · rw [hc] at z;cases z;exact hb rfl
end
structure Un (fs ex:List Addr) (H H':Hp) (h h':Heap):Prop where
  keep:∀ b o,h.get? b=some o→H b=none→b∉fs→b∉ex→h'.get? b=some o
  slot:∀ b o,h.get? b=some o→H b=none→b∈fs→b∉ex→∃ sl,h'.get? b=some { o with slots:=sl }
  free:∀ b o,h.get? b=some o→H b=none→b∉ex→H' b=none
  there:∀ b o,h.get? b=some o→b∉ex→∃ o',h'.get? b=some o'
  tups:∀ b xs,H b=some (.tup xs)→H' b=some (.tup xs)
  frzs:∀ b o u,H b=some (.frz o u)→H' b=some (.frz o u)
  tbls:∀ b ps,H b=some (.tbl ps)→∃ more,H' b=some (.tbl (ps++more))
section
variable {fs fs' ex ex':List Addr} {H H1 H2:Hp} {h h1 h2 h':Heap} {a x e:Addr} {o:HO}
theorem Un.any (u:Un fs ex H H1 h h1) {b:Addr} {ob:Obj} (q:h.get? b=some ob) (n:H b=none) (hx:b∉ex):∃ sl,h1.get? b=some { ob with slots:=sl }:=by
  by_cases hb:b∈fs
  · exact u.slot b ob q n hb hx
  · exact ⟨ob.slots,u.keep b ob q n hb hx⟩
theorem Un.kept (k:∀ b u,h.get? b=some u→h'.get? b=some u):Un fs ex H H h h' :=
  ⟨fun b ob q _ _ _=>k b ob q,fun b ob q _ _ _=>⟨ob.slots,k b ob q⟩,fun _ _ _ n _=>n,fun b ob q _=>⟨ob,k b ob q⟩,fun _ _ q=>q,fun _ _ _ q=>q,fun _ ps q=>⟨#[],by rw [q];simp⟩⟩
theorem Un.refl:Un fs ex H H h h:=Un.kept fun _ _ q=>q
theorem Un.laid (k:∀ b u,h.get? b=some u→h'.get? b=some u) (hp:h.objs.size≤a) (hn:H a=none):Un fs ex H (upd H a o) h h' where
  keep:=fun b u q _ _ _=>k b u q
  slot:=fun b u q _ _ _=>⟨u.slots,k b u q⟩
  free:=fun b u q n _=>by rw [z0h (Nat.ne_of_lt (Nat.lt_of_lt_of_le (Heap.lt_size q) hp))];exact n
  there:=fun b u q _=>⟨u,k b u q⟩
  tups:=fun b xs q=>by rw [z0h (z0o q hn)];exact q
  frzs:=fun b u xs q=>by rw [z0h (z0o q hn)];exact q
  tbls:=fun b ps q=>⟨#[],by rw [z0h (z0o q hn),q];simp⟩
theorem Un.write (mu:Mut (H x)) (he:e=x∨H e=some (.own x)) (k:∀ b u,b≠e→h.get? b=some u→h'.get? b=some u) (heo:∃ u,h'.get? e=some u):Un fs ex H (upd H x o) h h':=by
  have hx:∀ b,H b=none→b≠x:=fun b n z=>by subst z;rw [n] at mu;exact mu
  have hb:∀ b,H b=none→b≠e:=fun b n z=>by
    subst z
    rcases he with r | r
    · exact hx b n r
    · rw [n] at r;cases r
  have hm:∀ b u,H b=some u→¬ Mut (some u)→b≠x:=fun b u q nm z=>by subst z;rw [q] at mu;exact nm mu
  refine ⟨fun b u q n _ _=>k b u (hb b n) q,fun b u q n _ _=>⟨u.slots,k b u (hb b n) q⟩,fun b u q n _=>by rw [z0h (hx b n)];exact n,fun b u q _=>?_,
    fun b xs q=>by rw [z0h (hm b _ q fun z=>z)];exact q,fun b u xs q=>by rw [z0h (hm b _ q fun z=>z)];exact q,fun b ps q=>⟨#[],by rw [z0h (hm b _ q fun z=>z),q];simp⟩⟩
  by_cases hbe:b=e
  · subst hbe;exact heo
  · exact ⟨u,k b u hbe q⟩
end
noncomputable def trk (h:Heap) (H:Hp):List Addr:=(List.range h.objs.size).filter fun a=>(H a).isSome
noncomputable def zkq (h:Heap) (H:Hp):Heap:=PySem.W.hideAll h (trk h H)
theorem zht (h:Heap) (H:Hp):(zkq h H).objs.size=h.objs.size:=PySem.W.hideAll_size _ _
theorem zkp {h:Heap} {H:Hp} {b:Addr} {o:Obj} (e:h.get? b=some o) (n:H b=none):(zkq h H).get? b=some o :=
  PySem.W.hideAll_get _ e fun hm=>by
    have q:(H b).isSome=true:=(List.mem_filter.mp hm).2
    rw [n] at q;simp at q
theorem zo2 {h:Heap} {H:Hp} {b:Addr} {o:Obj} (e:(zkq h H).get? b=some o):h.get? b=some o∧H b=none:=by
  have e':h.get? b=some o:=PySem.W.of_hideAll (trk h H) e
  refine ⟨e',?_⟩
  cases q:H b with
  | none=>rfl
  | some x =>
    have hm:b∈trk h H:=List.mem_filter.mpr ⟨List.mem_range.mpr (Heap.lt_size e'),by simp [q]⟩
    have z:(zkq h H).get? b=none:=PySem.W.hideAll_none (trk h H) hm
    rw [z] at e;cases e
noncomputable def zp3 (g h:Heap) (L:Addr):List (Addr×Obj):=(List.range h.objs.size).filterMap fun a=>if a=L∨(g.get? a).isSome=true then none else (h.get? a).map fun o=>(a,o)
noncomputable def z1y (g h:Heap) (L d:Addr):List (Addr×Obj):=(zp3 g h L).filter fun p=>decide (p.1≠d)
structure Mod (K:PySem.W.Frag) (mg:Str→Option Value) (base:Heap):Prop where
  kin:K.In base
  glob:base.Ns mainGlobals mg
  blt:∃ mb,base.Ns builtinsNs mb∧∀ x:Str,x ≠ "__name__" → mb x=bootBuiltins x
  nolimit:base.NoLimit
structure Cx where
  prog:Program
  w:World
  K:PySem.W.Frag
  mg:Str→Option Value
  base:Heap
  A:Around
  N:List Str
  s₀:Shared
  H₀:Hp
  env:Env
  outer:List Env
  stack:List Env
  ex:List Addr
  fn:Str→Bool
  calm:Bool
  pn:List (Addr×Obj)
  xe:Value→Shared→Prop
noncomputable def frs (l:List Env):List Addr:=l.filterMap (·.frame)
noncomputable abbrev Cx.fs (X:Cx):List Addr:=frs X.outer
def Vis (sc:Scope) (x:Str):Prop:=sc.names.lookup x=some .local∨sc.names.lookup x=some .cell∨sc.names.lookup x=some .free
def Loc (sc:Scope) (x:Str):Prop:=sc.names.lookup x=some .local∨sc.names.lookup x=some .cell
noncomputable def zvv (env:Env) (h:Heap) (m:Str→Option Value) (x:Str) (u:Value):Prop :=
  (env.kindOf x=some .local∧m x=some u)∨((env.kindOf x=some .cell∨env.kindOf x=some .free)∧∃ c,env.cells.lookup x=some c∧h.IsCell c (some u))
structure Cx.Ok (X:Cx):Prop where
  mod:Mod X.K X.mg X.base
  kind:X.env.scope.kind=.function
  glob:X.env.globals=mainGlobals
  blt:X.env.builtins=builtinsNs
  above:X.s₀.heap.objs.size≤X.env.locals
  inj:∀ x y c,X.env.cells.lookup x=some c→X.env.cells.lookup y=some c→x=y
  has:∀ x,(X.env.kindOf x=some .cell∨X.env.kindOf x=some .free)→∃ c,X.env.cells.lookup x=some c
  cab:∀ x c,X.fn x=true→X.env.cells.lookup x=some c→X.s₀.heap.objs.size≤c
  hd:X.calm=true→X.A.handled=none
  frames:X.A.frames=some X.stack
  stk:X.stack=X.outer∨(X.stack=X.env::X.outer∧X.env.frame=some X.env.locals)
  exf:∀ b∈X.ex,b≠X.env.locals∧∀ x c,X.env.cells.lookup x=some c→c≠b
  bs:∀ b o,X.base.get? b=some o→X.s₀.heap.get? b=some o∧X.H₀ b=none
  bsz:X.base.objs.size≤X.s₀.heap.objs.size
  noex:∀ b o,X.base.get? b=some o→b∉X.ex
  exfs:∀ b∈X.ex,b∉X.fs
  funs:X.s₀.heap.FunFrames X.base X.outer
  frf:∀ b∈X.fs,X.H₀ b=none
structure Inv (X:Cx) (pins:List (Addr×Obj)) (σ:List (Option V)) (H:Hp) (s:Shared):Prop where
  ok:X.Ok
  os:s.os=X.s₀.os
  bare:AllBare s.gens
  base:Un X.fs X.ex X.H₀ H X.s₀.heap s.heap
  loc:∃ m,s.heap.Ns X.env.locals m∧∀ (i:Nat) (x:Str) (v:V),X.N[i]?=some x→σ[i]?=some (some v)→Vis X.env.scope x→∃ u,RelV v u∧zvv X.env s.heap m x u
  cell:∀ x c,X.env.cells.lookup x=some c→∃ v,s.heap.IsCell c v
  free:H X.env.locals=none
  freeC:∀ x c,X.env.cells.lookup x=some c→H c=none
  pin:∀ p∈X.pn++pins,s.heap.get? p.1=some p.2∧H p.1=none∧p.1≠X.env.locals∧p.1∉X.fs∧∀ v,p.2.data≠.cell v
  hok:HOk X.prog X.w H s.heap
  len:σ.length=X.N.length
section
variable {X:Cx} {pins:List (Addr×Obj)} {σ:List (Option V)} {H H':Hp} {s:Shared} {h':Heap}
theorem Cx.Ok.nofr (ok:X.Ok) {b:Addr} {o:Obj} (e:X.base.get? b=some o):b∉X.fs:=fun hb=>by
  have:=(ok.funs.mem hb).1
  rw [e] at this;cases this
theorem Inv.bs (I:Inv X pins σ H s):∀ b o,X.base.get? b=some o→s.heap.get? b=some o∧H b=none:=fun b o e =>
  ⟨I.base.keep b o (I.ok.bs b o e).1 (I.ok.bs b o e).2 (I.ok.nofr e) (I.ok.noex b o e),I.base.free b o (I.ok.bs b o e).1 (I.ok.bs b o e).2 (I.ok.noex b o e)⟩
theorem Inv.bk (I:Inv X pins σ H s):∀ b o,X.base.get? b=some o→s.heap.get? b=some o:=fun b o e=>(I.bs b o e).1
theorem Inv.mod (I:Inv X pins σ H s):Mod X.K X.mg X.base:=I.ok.mod
theorem Inv.kIn (I:Inv X pins σ H s):X.K.In s.heap:=I.ok.mod.kin.keeps I.bk
theorem Inv.lt (I:Inv X pins σ H s):X.env.locals<s.heap.objs.size:=let ⟨_,hn,_⟩:=I.loc;hn.lt
theorem Inv.sz (I:Inv X pins σ H s):X.s₀.heap.objs.size≤s.heap.objs.size:=Nat.le_trans I.ok.above (Nat.le_of_lt I.lt)
theorem Inv.nofs (I:Inv X pins σ H s) {a:Addr} (h:s.heap.objs.size≤a):a∉X.fs:=fun hb=>by
  refine bq fun bG=>?_
  obtain ⟨_,o,ho,_⟩:=I.ok.funs.mem hb
  exact bG (absurd (Nat.lt_of_lt_of_le (Heap.lt_size ho) (Nat.le_trans I.sz h)) (Nat.lt_irrefl _))
theorem Inv.cne (I:Inv X pins σ H s):∀ x c,X.env.cells.lookup x=some c→c≠X.env.locals:=fun x c e z=>by
  obtain ⟨v,o,ho,hd⟩:=I.cell x c e
  obtain ⟨m,⟨o',es,ep,ho',hd',_⟩,_⟩:=I.loc
  rw [z,ho'] at ho;cases ho;rw [hd'] at hd;cases hd
theorem Inv.funs (I:Inv X pins σ H s):s.heap.FunFrames X.base X.outer:=by
  have all:∀ (l:List Env),(∀ b∈frs l,b∈X.fs)→X.s₀.heap.FunFrames X.base l→s.heap.FunFrames X.base l:=by
    intro l
    induction l with
    | nil=>intro _ _;trivial
    | cons env r ih =>
      intro hs hl
      obtain ⟨hk,⟨L,o,hf,hn,ho,hd⟩,hr⟩:=hl
      have hL:L∈X.fs:=hs L (by unfold frs;rw [List.filterMap_cons,hf];exact List.mem_cons_self)
      obtain ⟨sl,e⟩:=I.base.slot L o ho (I.ok.frf L hL) hL fun z=>I.ok.exfs L z hL
      exact ⟨hk,⟨L,_,hf,hn,e,hd⟩,ih (fun b hb=>hs b (by unfold frs;rw [List.filterMap_cons,hf];exact List.mem_cons_of_mem _ hb)) hr⟩
  exact all X.outer (fun _ hb=>hb) I.ok.funs
theorem Inv.stack (I:Inv X pins σ H s):s.heap.FunFrames X.base X.stack:=by
  rcases I.ok.stk with e | ⟨e,hf⟩
  · rw [e];exact I.funs
  · rw [e]
    obtain ⟨m,hn,_⟩:=I.loc
    refine .cons (by rw [I.ok.kind];decide) hf hn ?_ I.funs
    exact Heap.get?_none_of_le (Nat.le_trans I.ok.bsz I.ok.above)
theorem Inv.stkSub (I:Inv X pins σ H s):∀ b∈frs X.stack,b∈X.env.locals::X.fs:=fun b hb=>by
  rcases I.ok.stk with e | ⟨e,hf⟩
  · rw [e] at hb;exact List.mem_cons_of_mem _ hb
  · rw [e] at hb
    unfold frs at hb
    rw [List.filterMap_cons,hf] at hb
    exact hb
theorem Inv.stkFree (I:Inv X pins σ H s):∀ b∈frs X.stack,H b=none:=fun b hb=>by
  rcases List.mem_cons.mp (I.stkSub b hb) with e | hb
  · rw [e];exact I.free
  · obtain ⟨_,o,ho,_⟩:=I.ok.funs.mem hb
    exact I.base.free b o ho (I.ok.frf b hb) fun z=>I.ok.exfs b z hb
theorem Inv.step {g':Array GenState} {t':Nat} {d':Drawn} {ch:List Addr} (I:Inv X pins σ H s)
    (hch:∀ b∈ch,(b∈X.ex∨X.s₀.heap.objs.size≤b)∧b≠X.env.locals∧(∀ x c,X.env.cells.lookup x=some c→c≠b)∧∀ p∈X.pn++pins,p.1≠b)
    (keep:∀ b o,b≠X.env.locals→b∉X.fs→b∉ch→s.heap.get? b=some o→H b=none→h'.get? b=some o)
    (slot:∀ b o,b≠X.env.locals→b∈X.fs→b∉ch→s.heap.get? b=some o→H b=none→∃ sl,h'.get? b=some { o with slots:=sl }) (free:∀ b o,b∉ch→s.heap.get? b=some o→H b=none→H' b=none)
    (there:∀ b o,b∉ch→s.heap.get? b=some o→∃ o',h'.get? b=some o')
    (tups:∀ b xs,H b=some (.tup xs)→H' b=some (.tup xs)) (frzs:∀ b o u,H b=some (.frz o u)→H' b=some (.frz o u)) (tbls:∀ b ps,H b=some (.tbl ps)→∃ more,H' b=some (.tbl (ps++more)))
    (ns:∀ m,s.heap.Ns X.env.locals m→h'.Ns X.env.locals m) (hok:HOk X.prog X.w H' h') (hg:AllBare g') :
    Inv X pins σ H' { s with heap:=h',gens:=g',drawn:=d',toks:=t' }:=by
  have neL:∀ b o,X.s₀.heap.get? b=some o→b≠X.env.locals:=fun b o e=>Nat.ne_of_lt (Nat.lt_of_lt_of_le (Heap.lt_size e) I.ok.above)
  have neC:∀ b o,X.s₀.heap.get? b=some o→b∉X.ex→b∉ch:=fun b o e hx hb=>by
    rcases (hch b hb).1 with z | z
    · exact hx z
    · exact absurd (Nat.lt_of_lt_of_le (Heap.lt_size e) z) (Nat.lt_irrefl _)
  have cellK:∀ x c,X.env.cells.lookup x=some c→∀ v,s.heap.IsCell c v→h'.IsCell c v:=fun x c e v ⟨o,ho,hd⟩=>by
    have nch:c∉ch:=fun z=>(hch c z).2.2.1 x c e rfl
    by_cases hc:c∈X.fs
    · obtain ⟨sl,q⟩:=slot c o (I.cne x c e) hc nch ho (I.freeC x c e)
      exact ⟨_,q,hd⟩
    · exact ⟨o,keep c o (I.cne x c e) hc nch ho (I.freeC x c e),hd⟩
  refine ⟨I.ok,I.os,hg,⟨fun b o e n hb hx=>?_,fun b o e n hb hx=>?_,fun b o e n hx=>?_,fun b o e hx=>?_,fun b xs e=>tups b xs (I.base.tups b xs e),fun b o xs e=>frzs b o xs (I.base.frzs b o xs e),fun b ps e=>?_⟩,?_,fun x c e=>?_,?_,fun x c e=>?_,fun p hp=>?_,hok,I.len⟩
  · exact keep b o (neL b o e) hb (neC b o e hx) (I.base.keep b o e n hb hx) (I.base.free b o e n hx)
  · obtain ⟨sl,e1⟩:=I.base.slot b o e n hb hx
    refine bq fun bG=>?_
    obtain ⟨sl',e2⟩:=slot b _ (neL b o e) hb (neC b o e hx) e1 (I.base.free b o e n hx)
    exact bG (⟨sl',e2⟩)
  · obtain ⟨o',e1⟩:=I.base.there b o e hx
    exact free b o' (neC b o e hx) e1 (I.base.free b o e n hx)
  · obtain ⟨o',e1⟩:=I.base.there b o e hx
    exact there b o' (neC b o e hx) e1
  · obtain ⟨m1,e1⟩:=I.base.tbls b ps e
    refine bq fun bG=>?_
    obtain ⟨m2,e2⟩:=tbls b _ e1
    exact bG (⟨m1++m2,by rw [e2,Array.append_assoc]⟩)
  · obtain ⟨m,hn,hl⟩:=I.loc
    refine ⟨m,ns m hn,fun i x v e1 e2 e3=>?_⟩
    refine bq fun bG=>?_
    obtain ⟨u,r,l⟩:=hl i x v e1 e2 e3
    refine bG (⟨u,r,?_⟩)
    rcases l with l | ⟨k,c,e,z⟩
    · exact .inl l
    · exact .inr ⟨k,c,e,cellK x c e _ z⟩
  · obtain ⟨v,z⟩:=I.cell x c e
    exact ⟨v,cellK x c e v z⟩
  · obtain ⟨m,⟨o,_,_,ho,_⟩,_⟩:=I.loc
    exact free _ o (fun z=>(hch _ z).2.1 rfl) ho I.free
  · obtain ⟨v,o,ho,hd⟩:=I.cell x c e
    exact free c o (fun z=>(hch c z).2.2.1 x c e rfl) ho (I.freeC x c e)
  · obtain ⟨e,n,ne,nf,d⟩:=I.pin p hp
    have nch:p.1∉ch:=fun z=>(hch p.1 z).2.2.2 p hp rfl
    exact ⟨keep p.1 p.2 ne nf nch e n,free p.1 p.2 nch e n,ne,nf,d⟩
theorem Inv.un {t':Nat} (I:Inv X pins σ H s) (u:Un X.fs [] H H' s.heap h') (hok:HOk X.prog X.w H' h'):Inv X pins σ H' { s with heap:=h',toks:=t' }:=by
  obtain ⟨m,⟨o,es,ep,ho,r⟩,_⟩:=id I.loc
  obtain ⟨sl,hL⟩:=u.any ho I.free (by simp)
  exact I.step (g':=s.gens) (d':=s.drawn) (ch:=[]) (fun _ z=>nomatch z) (fun b o _ hb _ e n=>u.keep b o e n hb (by simp)) (fun b o _ hb _ e n=>u.slot b o e n hb (by simp)) (fun b o _ e n=>u.free b o e n (by simp)) (fun b o _ e=>u.there b o e (by simp)) u.tups u.frzs u.tbls (fun m' hm=>by
    obtain ⟨o',es',ep',ho',r'⟩:=hm
    rw [ho] at ho';cases ho'
    exact ⟨_,es',ep',hL,r'⟩) hok I.bare
theorem Inv.call {g':Array GenState} {t':Nat} {d':Drawn} {ch:List Addr} (I:Inv X pins σ H s) (u:Un (frs X.stack) ch H H' s.heap h') (hok:HOk X.prog X.w H' h') (hg:AllBare g')
    (hch:∀ b∈ch,(b∈X.ex∨X.s₀.heap.objs.size≤b)∧b≠X.env.locals∧(∀ x c,X.env.cells.lookup x=some c→c≠b)∧∀ p∈X.pn++pins,p.1≠b) :
    Inv X pins σ H' { s with heap:=h',gens:=g',drawn:=d',toks:=t' }:=by
  obtain ⟨m,⟨o,es,ep,ho,r⟩,_⟩:=id I.loc
  obtain ⟨sl,hL⟩:=u.any ho I.free fun z=>(hch _ z).2.1 rfl
  exact I.step (ch:=ch) hch (fun b o hL hb hc e n=>u.keep b o e n (fun z=>(List.mem_cons.mp (I.stkSub b z)).elim hL hb) hc) (fun b o _ _ hc e n=>u.any e n hc) (fun b o hc e n=>u.free b o e n hc) (fun b o hc e=>u.there b o e hc) u.tups u.frzs u.tbls (fun m' hm=>by
    obtain ⟨o',es',ep',ho',r'⟩:=hm
    rw [ho] at ho';cases ho'
    exact ⟨_,es',ep',hL,r'⟩) hok hg
theorem Inv.turned {t':Nat} {it:Addr} (I:Inv X pins σ H s) (k:∀ b o,b≠it→s.heap.get? b=some o→h'.get? b=some o) (hn:H it=none) (hL:it≠X.env.locals)
    (h1:it∈X.ex∨X.s₀.heap.objs.size≤it) (h2:∀ x c,X.env.cells.lookup x=some c→c≠it) (h3:∀ p∈X.pn++pins,p.1≠it):Inv X pins σ H { s with heap:=h',toks:=t' }:=by
  have nit:∀ b u,H b=some u→b≠it:=fun b u e z=>by rw [z,hn] at e;cases e
  refine I.step (g':=s.gens) (d':=s.drawn) (ch:=[it]) (fun b hb=>?_) (fun b o _ _ hc e _=>k b o (fun z=>hc (by simp [z])) e) (fun b o _ _ hc e _=>⟨o.slots,k b o (fun z=>hc (by simp [z])) e⟩) (fun _ _ _ _ n=>n)
    (fun b o hc e=>⟨o,k b o (fun z=>hc (by simp [z])) e⟩) (fun _ _ e=>e) (fun _ _ _ e=>e) (fun b ps e=>⟨#[],by rw [e];simp⟩) (fun m hm=>?_) (fun b u e=>?_) I.bare
  · have e:b=it:=by simpa using hb
    subst e
    exact ⟨h1,hL,h2,h3⟩
  · obtain ⟨o,es,ep,ho,r⟩:=hm
    exact ⟨o,es,ep,k _ o (Ne.symm hL) ho,r⟩
  · refine (I.hok b u e).stay (fun c v hc q=>k c v ?_ q) (fun _ q=>q) fun _ _ q=>q
    rcases hc with z | z
    · rw [z];exact nit b u e
    · exact nit c _ z
theorem Inv.tok (I:Inv X pins σ H s) (t:Nat):Inv X pins σ H { s with toks:=t }:=I.un (h':=s.heap) (t':=t) Un.refl I.hok
theorem Inv.kept {t':Nat} (I:Inv X pins σ H s) (k:∀ b u,s.heap.get? b=some u→h'.get? b=some u):Inv X pins σ H { s with heap:=h',toks:=t' }:=I.un (Un.kept k) (I.hok.kept k)
theorem Inv.laid {a:Addr} {o:HO} {t':Nat} (I:Inv X pins σ H s) (k:∀ b u,s.heap.get? b=some u→h'.get? b=some u) (hp:s.heap.objs.size≤a) (new:ObjOk X.prog X.w (upd H a o) h' a o) :
    Inv X pins σ (upd H a o) { s with heap:=h',toks:=t' }:=I.un (Un.laid k hp (I.hok.fresh hp)) (I.hok.laid k hp new)
theorem Inv.write {x e:Addr} {o:HO} {t':Nat} (I:Inv X pins σ H s) (mu:Mut (H x)) (he:e=x∨H e=some (.own x)) (k:∀ b u,b≠e→s.heap.get? b=some u→h'.get? b=some u) (heo:∃ u,h'.get? e=some u)
    (new:ObjOk X.prog X.w (upd H x o) h' x o):Inv X pins σ (upd H x o) { s with heap:=h',toks:=t' }:=I.un (Un.write mu he k heo) (I.hok.write mu he k heo new)
theorem Inv.pins_of {pins':List (Addr×Obj)} (I:Inv X pins σ H s) (h:∀ p∈pins',s.heap.get? p.1=some p.2∧H p.1=none∧p.1≠X.env.locals∧p.1∉X.fs∧∀ v,p.2.data≠.cell v):Inv X pins' σ H s :=
  ⟨I.ok,I.os,I.bare,I.base,I.loc,I.cell,I.free,I.freeC,fun p hp=>(List.mem_append.mp hp).elim (fun z=>I.pin p (List.mem_append_left _ z)) (h p),I.hok,I.len⟩
theorem zdn {N:List Str} (hN:N.Nodup) {i j:Nat} {x:Str} (a:N[i]?=some x) (b:N[j]?=some x):i=j:=by
  refine bq fun bG=>?_
  obtain ⟨h1,e1⟩:=List.getElem?_eq_some_iff.mp a
  obtain ⟨h2,e2⟩:=List.getElem?_eq_some_iff.mp b
  exact bG ((List.getElem_inj hN).mp (e1.trans e2.symm))
theorem z6y {M:Model} {A:Around} {E:Value→Shared→Prop} {i:Nat} {x:Str} {v:V} {u:Value} {Q:Unit→Shared→Prop} (I:Inv X pins σ H s) (hN:X.N.Nodup) (hi:X.N[i]?=some x) (hx:Loc X.env.scope x) (r:RelV v u)
    (h:∀ s',Inv X pins (σ.set i (some v)) H s'→(∃ a,Heap.SameBut a s.heap s'.heap∧(a=X.env.locals∨X.env.cells.lookup x=some a))→Q () s') (hf:X.fn x=true∨X.env.scope.names.lookup x=some .local:=by first | exact .inl rfl | exact .inr rfl | assumption):wpAny M A (storeName X.env x u) Q E s:=by
  obtain ⟨m,hn,hl⟩:=id I.loc
  have hcls:(X.env.scope.kind==.class||(X.env.scope.kind==.module&&X.env.locals != X.env.globals))=false:=by rw [I.ok.kind];rfl
  have hiσ:i<σ.length:=by rw [I.len];exact (List.getElem?_eq_some_iff.mp hi).1
  have cne:=I.cne
  have tracked:∀ {a:Addr} {h':Heap},(∃ o,s.heap.get? a=some o∧H a=none)→Heap.SameBut a s.heap h'→HOk X.prog X.w H h':=fun {a h'} ha hs b ob e=>by
    refine bq fun bG=>?_
    obtain ⟨_,_,hfree⟩:=ha
    refine bG ((I.hok b ob e).stay (fun c w' hc q=>(hs.2 c ?_).trans q) (fun _ q=>q) fun _ _ q=>q)
    rintro rfl
    rcases hc with rfl | hc
    · rw [hfree] at e;cases e
    · rw [hfree] at hc;cases hc
  rcases hx with hk | hk
  · refine wpAny_storeName_local hk hn (fun h' hn' hs=>?_) hcls
    refine bq fun bG=>?_
    obtain ⟨oL,_,_,hoL,_⟩:=id hn
    refine bG (h _ ⟨I.ok,I.os,I.bare,⟨fun b o e n hb hx=>?_,fun b o e n hb hx=>?_,I.base.free,fun b o e hx=>?_,I.base.tups,I.base.frzs,I.base.tbls⟩,⟨_,hn',fun j y v' e1 e2 e3=>?_⟩,fun y c e=>?_,I.free,I.freeC,fun p hp=>?_,tracked ⟨oL,hoL,I.free⟩ hs,by simpa using I.len⟩ ⟨_,hs,.inl rfl⟩)
    · exact (hs.2 b (Nat.ne_of_lt (Nat.lt_of_lt_of_le (Heap.lt_size e) I.ok.above))).trans (I.base.keep b o e n hb hx)
    · obtain ⟨sl,e1⟩:=I.base.slot b o e n hb hx
      exact ⟨sl,(hs.2 b (Nat.ne_of_lt (Nat.lt_of_lt_of_le (Heap.lt_size e) I.ok.above))).trans e1⟩
    · obtain ⟨o',e1⟩:=I.base.there b o e hx
      exact ⟨o',(hs.2 b (Nat.ne_of_lt (Nat.lt_of_lt_of_le (Heap.lt_size e) I.ok.above))).trans e1⟩
    · by_cases hj:j=i
      · subst hj
        rw [hi] at e1;cases e1
        rw [List.getElem?_set_self hiσ] at e2
        cases e2
        exact ⟨u,r,.inl ⟨hk,by simp⟩⟩
      · rw [List.getElem?_set_ne (Ne.symm hj)] at e2
        refine bq fun bG=>?_
        obtain ⟨u',r',q⟩:=hl j y v' e1 e2 e3
        refine bG (⟨u',r',?_⟩)
        rcases q with ⟨k,e⟩ | ⟨k,c,e,z⟩
        · refine .inl ⟨k,?_⟩
          have:y≠x:=fun e=>hj (zdn hN e1 (e ▸ hi))
          simp [this,e]
        · exact .inr ⟨k,c,e,z.sameBut hs (cne y c e)⟩
    · obtain ⟨w',z⟩:=I.cell y c e
      exact ⟨w',z.sameBut hs (cne y c e)⟩
    · obtain ⟨e,n,ne,nf,d⟩:=I.pin p hp
      exact ⟨(hs.2 p.1 ne).trans e,n,ne,nf,d⟩
  · have hfn:X.fn x=true:=by
      rcases hf with z | z
      · exact z
      · rw [z] at hk;cases hk
    refine bq fun bG=>?_
    obtain ⟨c,hc⟩:=I.ok.has x (.inl hk)
    obtain ⟨w',z⟩:=I.cell x c hc
    refine bG (wpAny_storeName_cell I.ok.kind hk hc z (fun h' hc' hs=>?_))
    refine bq fun bG=>?_
    obtain ⟨oc,hoc,hocd⟩:=id z
    refine bG (h { s with heap:=h' } ⟨I.ok,I.os,I.bare,⟨fun b o e n hb hx=>?_,fun b o e n hb hx=>?_,I.base.free,fun b o e hx=>?_,I.base.tups,I.base.frzs,I.base.tbls⟩,⟨m,hn.sameBut hs (Ne.symm (cne x c hc)),fun j y v' e1 e2 e3=>?_⟩,fun y c' e=>?_,I.free,I.freeC,fun p hp=>?_,tracked ⟨oc,hoc,I.freeC x c hc⟩ hs,by simpa using I.len⟩ ⟨c,hs,.inr hc⟩)
    · exact (hs.2 b (Nat.ne_of_lt (Nat.lt_of_lt_of_le (Heap.lt_size e) (I.ok.cab x c hfn hc)))).trans (I.base.keep b o e n hb hx)
    · obtain ⟨sl,e1⟩:=I.base.slot b o e n hb hx
      exact ⟨sl,(hs.2 b (Nat.ne_of_lt (Nat.lt_of_lt_of_le (Heap.lt_size e) (I.ok.cab x c hfn hc)))).trans e1⟩
    · obtain ⟨o',e1⟩:=I.base.there b o e hx
      exact ⟨o',(hs.2 b (Nat.ne_of_lt (Nat.lt_of_lt_of_le (Heap.lt_size e) (I.ok.cab x c hfn hc)))).trans e1⟩
    · by_cases hj:j=i
      · subst hj
        rw [hi] at e1;cases e1
        rw [List.getElem?_set_self hiσ] at e2
        cases e2
        exact ⟨u,r,.inr ⟨.inl hk,c,hc,hc'⟩⟩
      · rw [List.getElem?_set_ne (Ne.symm hj)] at e2
        refine bq fun bG=>?_
        obtain ⟨u',r',q⟩:=hl j y v' e1 e2 e3
        refine bG (⟨u',r',?_⟩)
        rcases q with q | ⟨k,c',e,z'⟩
        · exact .inl q
        · refine .inr ⟨k,c',e,z'.sameBut hs ?_⟩
          rintro rfl
          exact hj (zdn hN e1 (I.ok.inj _ _ _ e hc ▸ hi))
    · by_cases hcc:c'=c
      · subst hcc;exact ⟨_,hc'⟩
      · obtain ⟨w2,z2⟩:=I.cell y c' e
        exact ⟨w2,z2.sameBut hs hcc⟩
    · obtain ⟨e,n,ne,nf,d⟩:=I.pin p hp
      refine ⟨(hs.2 p.1 ?_).trans e,n,ne,nf,d⟩
      intro q
      rw [q,hoc] at e
      have q':oc=p.2:=Option.some.inj e
      exact d w' (by rw [← q'];exact hocd)
theorem z8z {M:Model} {A:Around} {E:Value→Shared→Prop} {i:Nat} {x:Str} {v:V} {u:Value} {Q:Unit→Shared→Prop} (I:Inv X pins σ H s) (hN:X.N.Nodup) (hi:X.N[i]?=some x) (hx:Loc X.env.scope x) (r:RelV v u)
    (h:∀ s',Inv X pins (σ.set i (some v)) H s'→Q () s') (hf:X.fn x=true∨X.env.scope.names.lookup x=some .local:=by first | exact .inl rfl | exact .inr rfl | assumption):wpAny M A (storeName X.env x u) Q E s :=
  z6y I hN hi hx r (fun s' I' _=>h s' I') hf
theorem Inv.call' {s':Shared} {ch:List Addr} (I:Inv X pins σ H s) (ho:s'.os=s.os) (u:Un (frs X.stack) ch H H' s.heap s'.heap) (hok:HOk X.prog X.w H' s'.heap) (hg:AllBare s'.gens)
    (hch:∀ b∈ch,(b∈X.ex∨X.s₀.heap.objs.size≤b)∧b≠X.env.locals∧(∀ x c,X.env.cells.lookup x=some c→c≠b)∧∀ p∈X.pn++pins,p.1≠b):Inv X pins σ H' s':=by
  refine bq fun bG=>?_
  obtain ⟨h',g',d',t',o'⟩:=s'
  have e:o'=s.os:=ho
  subst e
  exact bG (I.call (g':=g') (t':=t') (d':=d') u hok hg hch)
end
noncomputable abbrev XK:=Value→Option Addr→Hp→Prop
noncomputable abbrev St:=List (Option V)
noncomputable abbrev VK:=V→Hp→Prop
noncomputable abbrev TE:=St→Hp→VK→Prop
noncomputable abbrev TT:=St→Hp→(Bool→Hp→Prop)→Prop
noncomputable abbrev TA:=St→Hp→(List V→Hp→Prop)→Prop
structure Ends where
  nx:St→Hp→Prop
  rt:VK
  bk:St→Hp→Prop:=fun _ _=>False
  ct:St→Hp→Prop:=fun _ _=>False
noncomputable abbrev TS:=Ends→St→Hp→Prop
def EP (X:Cx) (pins:List (Addr×Obj)) (σ:St) (Q:VK) (u:Value) (s':Shared):Prop:=∃ v H',Inv X pins σ H' s'∧RelV v u∧Q v H'
def TP (X:Cx) (pins:List (Addr×Obj)) (σ:St) (Q:Bool→Hp→Prop) (b:Bool) (s':Shared):Prop:=∃ H',Inv X pins σ H' s'∧Q b H'
def AP (X:Cx) (pins:List (Addr×Obj)) (σ:St) (Q:List V→Hp→Prop) (us:List Value) (s':Shared):Prop:=∃ vs H',Inv X pins σ H' s'∧Vals vs us∧Q vs H'
noncomputable def SP (X:Cx) (pins:List (Addr×Obj)) (D:Ends) (f:Flow) (s':Shared):Prop :=
  match f with
  | .next=>∃ σ' H',Inv X pins σ' H' s'∧D.nx σ' H'
  | .brk=>∃ σ' H',Inv X pins σ' H' s'∧D.bk σ' H'
  | .cont=>∃ σ' H',Inv X pins σ' H' s'∧D.ct σ' H'
  | .ret u=>∃ v σ' H',Inv X pins σ' H' s'∧RelV v u∧D.rt v H'
noncomputable def PE (X:Cx) (e:Expr) (t:TE):Prop :=
  ∀ (pins:List (Addr×Obj)) (s:Shared) (σ:St) (H:Hp) (Q:VK),Inv X pins σ H s→t σ H Q→wpAny (model X.prog X.w) X.A (eval e X.env) (EP X pins σ Q) X.xe s
noncomputable def PT (X:Cx) (e:Expr) (t:TT):Prop :=
  ∀ (pins:List (Addr×Obj)) (s:Shared) (σ:St) (H:Hp) (Q:Bool→Hp→Prop),Inv X pins σ H s→t σ H Q→wpAny (model X.prog X.w) X.A (isTrue e X.env (eval e X.env)) (TP X pins σ Q) X.xe s
noncomputable def PW (X:Cx) (e:Expr) (t:TT):Prop :=
  ∀ (whole:Sem Value) (pins:List (Addr×Obj)) (s:Shared) (σ:St) (H:Hp) (Q:Bool→Hp→Prop),Inv X pins σ H s→t σ H Q→wpAny (model X.prog X.w) X.A (isTrue e X.env whole) (TP X pins σ Q) X.xe s
theorem PW.pt {X:Cx} {e:Expr} {t:TT} (h:PW X e t):PT X e t:=h _
noncomputable def PA (X:Cx) (es:List Expr) (t:TA):Prop :=
  ∀ (pos:Pos) (pins:List (Addr×Obj)) (s:Shared) (σ:St) (H:Hp) (Q:List V→Hp→Prop),Inv X pins σ H s→t σ H Q→wpAny (model X.prog X.w) X.A (spliced (backTo pos (starEach es X.env))) (AP X pins σ Q) X.xe s
noncomputable def PS (X:Cx) (st:Stmt) (t:TS):Prop :=
  ∀ (pins:List (Addr×Obj)) (s:Shared) (σ:St) (H:Hp) (D:Ends),Inv X pins σ H s→t D σ H→wpAny (model X.prog X.w) X.A (exec st X.env) (SP X pins D) X.xe s
noncomputable def PSs (X:Cx) (st:List Stmt) (t:TS):Prop :=
  ∀ (pins:List (Addr×Obj)) (s:Shared) (σ:St) (H:Hp) (D:Ends),Inv X pins σ H s→t D σ H→wpAny (model X.prog X.w) X.A (execs st X.env) (SP X pins D) X.xe s
theorem thn {α:Type} {t:Sem α} {Q Q':α→Shared→Prop} {M:Model} {A:Around} {E:Value→Shared→Prop} {s:Shared} (h:wpAny M A t Q E s) (hQ:∀ a s,Q a s→Q' a s):wpAny M A t Q' E s:=wpAny_mono h hQ fun _ _ x=>x
section
variable {X:Cx}
def zul (i:Nat):TE:=fun σ H Q=>∃ v,σ[i]?=some (some v)∧Q v H
def tC (v:V):TE:=fun _ H Q=>Q v H
theorem zly {i:Nat} {x:Str} {pos:Pos} (hN:X.N[i]?=some x) (hv:Vis X.env.scope x) (hd:(x==("__debug__" : Str))=false:=by decide) (hcd:(x==("__classdict__" : Str))=false:=by decide):PE X (.Name x pos) (zul i):=by
  intro pins s σ H Q I h
  obtain ⟨v,e,h⟩:=h
  obtain ⟨m,hn,hl⟩:=I.loc
  obtain ⟨u,r,l⟩:=hl i x v hN e hv
  have fin:EP X pins σ Q u s:=⟨v,H,I,r,h⟩
  rcases l with ⟨hk,hm⟩ | ⟨hk,c,hc,hcell⟩
  · exact wpAny_Name (wpAny_loadName_local I.ok.kind hk hn hm fin) hd
  · rcases hk with hk | hk
    · exact wpAny_Name (wpAny_loadName_cell I.ok.kind hk hc hcell fin) hd
    · exact wpAny_Name (wpAny_loadName_free I.ok.kind hk hc hcell fin hcd) hd
theorem zr1 {i j pos}:PE X (.Constant (.int i) j pos) (tC (.int i)):=fun _ _ _ H _ I h=>wpAny_Constant_int ⟨.int i,H,I.tok _,⟨_,rfl⟩,h⟩
theorem ztv {b j pos}:PE X (.Constant (.bool b) j pos) (tC (.bl b)):=fun _ _ _ H _ I h=>Constant_bool ⟨.bl b,H,I,rfl,h⟩
theorem zr0 {j pos}:PE X (.Constant .none j pos) (tC .non):=fun _ _ _ H _ I h=>Constant_none ⟨.non,H,I,rfl,h⟩
theorem zlz {x j pos}:PE X (.Constant (.str x) j pos) (tC (.str x)):=fun _ _ _ H _ I h=>Calls.Constant_str ⟨.str x,H,I.tok _,⟨_,rfl⟩,h⟩
def Gl (X:Cx) (x:Str):Prop:=X.env.kindOf x=some .globalImplicit
theorem z7c {E:Value→Shared→Prop} {pins:List (Addr×Obj)} {s:Shared} {σ:St} {H:Hp} {x:Str} {u:Value} {pos:Pos} {Q:Value→Shared→Prop} (I:Inv X pins σ H s) (hg:Gl X x) (hm:X.mg x=some u) (h:Q u s)
    (hd:(x==("__debug__" : Str))=false:=by decide):wpAny (model X.prog X.w) X.A (eval (.Name x pos) X.env) Q E s :=
  Calls.Name_function_global I.ok.kind hg (Calls.loadGlobal_global (by rw [I.ok.glob];exact I.mod.glob.keeps I.bk) hm h) hd
theorem z62 {E:Value→Shared→Prop} {pins:List (Addr×Obj)} {s:Shared} {σ:St} {H:Hp} {x:Str} {u:Value} {pos:Pos} {Q:Value→Shared→Prop} (I:Inv X pins σ H s) (hg:Gl X x) (hm:X.mg x=none) (hv:bootBuiltins x=some u) (h:Q u s)
    (hn:x ≠ "__name__" := by decide) (hd:(x==("__debug__" : Str))=false:=by decide):wpAny (model X.prog X.w) X.A (eval (.Name x pos) X.env) Q E s:=by
  obtain ⟨mb,h1,h2⟩:=I.mod.blt
  exact Calls.Name_function_global I.ok.kind hg (Calls.loadGlobal_builtin (by rw [I.ok.glob];exact I.mod.glob.keeps I.bk) hm (by rw [I.ok.blt];exact h1.keeps I.bk) ((h2 x hn).trans hv) h) hd
theorem z3m {x:Str} {v:V} {u:Value} {pos:Pos} (hg:Gl X x) (hm:X.mg x=some u) (r:RelV v u) (hd:(x==("__debug__" : Str))=false:=by decide):PE X (.Name x pos) (tC v) :=
  fun _ _ _ H _ I h=>z7c I hg hm ⟨v,H,I,r,h⟩ hd
theorem z22 {x:Str} {v:V} {u:Value} {pos:Pos} (hg:Gl X x) (hm:X.mg x=none) (hv:bootBuiltins x=some u) (r:RelV v u) (hn:x ≠ "__name__" := by decide) (hd:(x==("__debug__" : Str))=false:=by decide):PE X (.Name x pos) (tC v) :=
  fun _ _ _ H _ I h=>z62 I hg hm hv ⟨v,H,I,r,h⟩ hn hd
variable {a b:Expr} {ta tb:TE} {pos:Pos}
def tB (t:TE):TT:=fun σ H Q=>t σ H fun x H1=>∃ c,x=.bl c∧Q c H1
theorem zqp {e:Expr} {t:TE} (h:PE X e t) (he:∀ whole,isTrue e X.env whole=(do let v ← whole;standAt e.pos;holding [v] (truthy v)):=by intro _;rfl):PT X e (tB t):=by
  intro pins s σ H Q I hw
  refine isTrue_plain (thn (h pins s σ H _ I hw) fun v s1 hm=>?_) (he _)
  refine bq fun bG=>?_
  obtain ⟨x,H1,I1,r1,q1⟩:=hm
  obtain ⟨d,rfl,q⟩:=q1
  cases r1
  exact bG (wpAny_truthy_bool ⟨H1,I1,q⟩)
variable {tA tB':TT} {z1y:List Expr}
def zum (t u:TT):TT:=fun σ H Q=>t σ H fun c H1=>if c=true then u σ H1 Q else Q false H1
def tOr (t u:TT):TT:=fun σ H Q=>t σ H fun c H1=>if c=true then Q true H1 else u σ H1 Q
def zv7 (t:TT):TT:=fun σ H Q=>t σ H fun c H1=>Q (!c) H1
theorem zng (ha:PT X a tA):PW X (.BoolOp .And [a] pos) tA:=by
  intro wh pins s σ H Q I h
  refine isTrue_and (thn (ha pins s σ H Q I h) fun c s1 e=>?_)
  cases c with
  | true=>exact isTrue_and_nil e
  | false=>exact e
theorem zqn (ha:PT X a tA):PW X (.BoolOp .Or [a] pos) tA:=by
  intro wh pins s σ H Q I h
  refine isTrue_or (thn (ha pins s σ H Q I h) fun c s1 e=>?_)
  cases c with
  | false=>exact isTrue_or_nil e
  | true=>exact e
theorem zqo (ha:PT X a tA) (hb:PW X (.BoolOp .And (b::z1y) pos) tB'):PW X (.BoolOp .And (a::b::z1y) pos) (zum tA tB'):=by
  intro wh pins s σ H Q I h
  refine isTrue_and (thn (ha pins s σ H _ I h) fun c s1 hm=>?_)
  obtain ⟨H1,I1,q1⟩:=hm
  cases c with
  | true=>exact hb wh pins s1 σ H1 Q I1 q1
  | false=>exact ⟨H1,I1,q1⟩
theorem ztp (ha:PT X a tA) (hb:PW X (.BoolOp .Or (b::z1y) pos) tB'):PW X (.BoolOp .Or (a::b::z1y) pos) (tOr tA tB'):=by
  intro wh pins s σ H Q I h
  refine isTrue_or (thn (ha pins s σ H _ I h) fun c s1 hm=>?_)
  obtain ⟨H1,I1,q1⟩:=hm
  cases c with
  | true=>exact ⟨H1,I1,q1⟩
  | false=>exact hb wh pins s1 σ H1 Q I1 q1
theorem zlu (ha:PT X a tA):PT X (.UnaryOp .Not a pos) (zv7 tA):=by
  intro pins s σ H Q I h
  exact isTrue_not (ha pins s σ H (fun c H1=>Q (!c) H1) I h)
def ztl (ta tb:TE):TE:=fun σ H Q=>ta σ H fun x H1=>∃ c,x=.bl c∧if c=true then tb σ H1 Q else Q (.bl false) H1
def zv6 (ta tb:TE):TE:=fun σ H Q=>ta σ H fun x H1=>∃ c,x=.bl c∧if c=true then Q (.bl true) H1 else tb σ H1 Q
def zte (ta:TE):TE:=fun σ H Q=>ta σ H fun x H1=>∃ c,x=.bl c∧Q (.bl (!c)) H1
theorem zqy {op} {t:TE} (h:PE X a t):PE X (.BoolOp op [a] pos) t:=fun pins s σ H Q I hw=>BoolOp_one (h pins s σ H Q I hw)
theorem zr4 (ha:PE X a ta) (hb:PE X (.BoolOp .And (b::z1y) pos) tb):PE X (.BoolOp .And (a::b::z1y) pos) (ztl ta tb):=by
  intro pins s σ H Q I h
  refine BoolOp_and (thn (ha pins s σ H _ I h) fun v s1 hm=>?_)
  refine bq fun bG=>?_
  obtain ⟨x,H1,I1,r1,q1⟩:=hm
  obtain ⟨c,rfl,q1⟩:=q1
  cases r1
  refine bG (wpAny_truthy_bool ?_)
  cases c with
  | true=>exact hb pins s1 σ H1 Q I1 q1
  | false=>exact ⟨.bl false,H1,I1,rfl,q1⟩
theorem zts (ha:PE X a ta) (hb:PE X (.BoolOp .Or (b::z1y) pos) tb):PE X (.BoolOp .Or (a::b::z1y) pos) (zv6 ta tb):=by
  intro pins s σ H Q I h
  refine BoolOp_or (thn (ha pins s σ H _ I h) fun v s1 hm=>?_)
  refine bq fun bG=>?_
  obtain ⟨x,H1,I1,r1,q1⟩:=hm
  obtain ⟨c,rfl,q1⟩:=q1
  cases r1
  refine bG (wpAny_truthy_bool ?_)
  cases c with
  | false=>exact hb pins s1 σ H1 Q I1 q1
  | true=>exact ⟨.bl true,H1,I1,rfl,q1⟩
theorem zqz (ha:PE X a ta):PE X (.UnaryOp .Not a pos) (zte ta):=by
  intro pins s σ H Q I h
  refine UnaryOp_ (thn (ha pins s σ H _ I h) fun v s1 hm=>?_)
  refine bq fun bG=>?_
  obtain ⟨x,H1,I1,r1,q1⟩:=hm
  obtain ⟨c,rfl,q1⟩:=q1
  cases r1
  exact bG (not_of (wpAny_truthy_bool ⟨.bl (!c),H1,I1,rfl,q1⟩))
def tIf (t:TT) (ta tb:TE):TE:=fun σ H Q=>t σ H fun c H1=>if c=true then ta σ H1 Q else tb σ H1 Q
theorem zk8 {c:Expr} (hc:PT X c tA) (ha:PE X a ta) (hb:PE X b tb):PE X (.IfExp c a b pos) (tIf tA ta tb):=by
  intro pins s σ H Q I h
  refine wpAny_IfExp (thn (hc pins s σ H _ I h) fun d s1 hm=>?_)
  obtain ⟨H1,I1,q1⟩:=hm
  cases d with
  | true=>exact ha pins s1 σ H1 Q I1 q1
  | false=>exact hb pins s1 σ H1 Q I1 q1
end
noncomputable def SqL (K:PySem.W.Frag) (H:Hp) (a:Addr) (xs:List V):Prop :=
  Rd H a (.lst xs) ∨
    ∃ (o:Obj) (its:Array Value) (n:Nat),K.lookup a=some o∧o.cls=.type "list" ∧ o.dict=none∧o.data=.seq its n∧its.size≤sizeLine∧Vals xs its.toList
noncomputable def SqT (K:PySem.W.Frag) (H:Hp) (a:Addr) (xs:List V):Prop :=
  Rd H a (.tup xs) ∨
    ∃ (o:Obj) (its:Array Value) (n:Nat),K.lookup a=some o∧o.cls=.type "tuple" ∧ o.data=.seq its n∧its.size≤sizeLine∧Vals xs its.toList
noncomputable def zvt:Value→Option V
  | .none=>some .non
  | .bool b=>some (.bl b)
  | .int i _=>some (.int i)
  | .str x _=>some (.str x)
  | .bytes b _=>some (.byt b)
  | .float b _=>some (.flt b)
  | .ref a=>some (.ref a)
  | .type n=>some (.ty n)
  | _=>none
theorem RelV.abs {x:V} {u:Value} (r:RelV x u):zvt u=some x:=by
  cases x with
  | non=>cases r;rfl
  | bl _=>cases r;rfl
  | int _=>obtain ⟨t,rfl⟩:=r;rfl
  | str _=>obtain ⟨t,rfl⟩:=r;rfl
  | byt _=>obtain ⟨t,rfl⟩:=r;rfl
  | flt _=>obtain ⟨t,rfl⟩:=r;rfl
  | ref _=>cases r;rfl
  | ty _=>cases r;rfl
theorem RelV.inj {x y:V} {u:Value} (r:RelV x u) (q:RelV y u):x=y:=Option.some.inj (r.abs.symm.trans q.abs)
theorem Vals.inj:∀ {xs ys:List V} {us:List Value},Vals xs us→Vals ys us→xs=ys
  | _,_,_,.nil,.nil=>rfl
  | _,_,_,.cons r t,.cons r' t'=>by rw [r.inj r',Vals.inj t t']
section
variable {X:Cx} {pins:List (Addr×Obj)} {σ:St} {H:Hp} {s:Shared} {a:Addr} {xs ys:List V}
theorem SqL.of {K:PySem.W.Frag} (h:H a=some (.lst xs)):SqL K H a xs:=.inl (.inl h)
theorem SqT.of {K:PySem.W.Frag} (h:H a=some (.tup xs)):SqT K H a xs:=.inl (.inl h)
theorem Inv.list (I:Inv X pins σ H s) (h:SqL X.K H a xs):∃ its:List Value,Vals xs its∧PlainL s.heap a its.toArray∧xs.length≤sizeLine:=by
  rcases h with h | ⟨o,its,n,hk,hc,hd,hs,hz,r⟩
  · obtain ⟨z,its,n,r,e⟩:=h.ok I.hok
    exact ⟨its,r,⟨_,n,e,rfl,rfl,rfl⟩,z⟩
  · refine ⟨its.toList,r,⟨o,n,I.kIn a o hk,hc,hd,by simpa using hs⟩,?_⟩
    have e:=r.length
    simp only [Array.length_toList] at e
    omega
theorem Inv.tuple (I:Inv X pins σ H s) (h:SqT X.K H a xs):∃ its:List Value,Vals xs its∧IsTup s.heap a its.toArray∧xs.length≤sizeLine:=by
  rcases h with h | ⟨o,its,n,hk,hc,hs,hz,r⟩
  · obtain ⟨z,its,r,p⟩:=h.ok I.hok
    exact ⟨its,r,p,z⟩
  · refine ⟨its.toList,r,⟨o,I.kIn a o hk,hc,n,by simpa using hs⟩,?_⟩
    have e:=r.length
    simp only [Array.length_toList] at e
    omega
theorem Inv.list_inj (I:Inv X pins σ H s) (h:SqL X.K H a xs) (h':SqL X.K H a ys):xs=ys:=by
  obtain ⟨its,r,⟨o,n,e,_,_,d⟩,_⟩:=I.list h
  obtain ⟨its',r',⟨o',n',e',_,_,d'⟩,_⟩:=I.list h'
  rw [e] at e';cases e'
  rw [d] at d'
  injection d' with d1 _
  have:its=its':=by simpa using congrArg Array.toList d1
  subst this
  exact r.inj r'
end
noncomputable abbrev Cx.wish (X:Cx) (E:Value→Shared→Prop):Cx:={ X with xe:=E }
noncomputable abbrev Cx.nox (X:Cx):Cx:=X.wish fun _ _=>False
theorem Cx.Ok.wish {X:Cx} (ok:X.Ok) (E:Value→Shared→Prop):(X.wish E).Ok :=
  ⟨ok.mod,ok.kind,ok.glob,ok.blt,ok.above,ok.inj,ok.has,ok.cab,ok.hd,ok.frames,ok.stk,ok.exf,ok.bs,ok.bsz,ok.noex,ok.exfs,ok.funs,ok.frf⟩
theorem Cx.Ok.unwish {X:Cx} {E:Value→Shared→Prop} (ok:(X.wish E).Ok):X.Ok :=
  ⟨ok.mod,ok.kind,ok.glob,ok.blt,ok.above,ok.inj,ok.has,ok.cab,ok.hd,ok.frames,ok.stk,ok.exf,ok.bs,ok.bsz,ok.noex,ok.exfs,ok.funs,ok.frf⟩
section
variable {X:Cx} {pins:List (Addr×Obj)} {σ:St} {H:Hp} {s:Shared} {E:Value→Shared→Prop}
theorem Inv.wish (I:Inv X pins σ H s) (E:Value→Shared→Prop):Inv (X.wish E) pins σ H s:=⟨I.ok.wish E,I.os,I.bare,I.base,I.loc,I.cell,I.free,I.freeC,I.pin,I.hok,I.len⟩
theorem Inv.unwish (I:Inv (X.wish E) pins σ H s):Inv X pins σ H s:=⟨I.ok.unwish,I.os,I.bare,I.base,I.loc,I.cell,I.free,I.freeC,I.pin,I.hok,I.len⟩
theorem SP.unwish {D:Ends} {f:Flow} {s':Shared} (h:SP (X.wish E) pins D f s'):SP X pins D f s':=by
  cases f with
  | next=>obtain ⟨σ',H',I,q⟩:=h;exact ⟨σ',H',I.unwish,q⟩
  | brk=>obtain ⟨σ',H',I,q⟩:=h;exact ⟨σ',H',I.unwish,q⟩
  | cont=>obtain ⟨σ',H',I,q⟩:=h;exact ⟨σ',H',I.unwish,q⟩
  | ret u=>obtain ⟨v,σ',H',I,r,q⟩:=h;exact ⟨v,σ',H',I.unwish,r,q⟩
theorem PE.nox {e:Expr} {t:TE} (h:PE X.nox e t):PE X e t:=fun pins s σ H Q I hw =>
  wpAny_mono (h pins s σ H Q (I.wish _) hw) (fun _ _ ⟨v,H',I',r,q⟩=>⟨v,H',I'.unwish,r,q⟩) fun _ _ z=>False.elim z
theorem PT.nox {e:Expr} {t:TT} (h:PT X.nox e t):PT X e t:=fun pins s σ H Q I hw =>
  wpAny_mono (h pins s σ H Q (I.wish _) hw) (fun _ _ ⟨H',I',q⟩=>⟨H',I'.unwish,q⟩) fun _ _ z=>False.elim z
theorem PSs.nox {st:List Stmt} {t:TS} (h:PSs X.nox st t):PSs X st t:=fun pins s σ H D I hw =>
  wpAny_mono (h pins s σ H D (I.wish _) hw) (fun _ _ q=>q.unwish) fun _ _ z=>False.elim z
end
section
variable {X:Cx} {st:Stmt} {z1y:List Stmt} {t u:TS} {e:Expr} {te:TE} {pos:Pos}
def ztf:TS:=fun D σ H=>D.nx σ H
def zv4 (t u:TS):TS:=fun D σ H=>t { D with nx:=u D } σ H
theorem zni:PSs X [] ztf:=fun _ _ σ H _ I h=>wpAny_execs_nil ⟨σ,H,I,h⟩
theorem zdk (h1:PS X st t) (h2:PSs X z1y u):PSs X (st::z1y) (zv4 t u):=by
  intro pins s σ H D I h
  refine wpAny_execs_cons (thn (h1 pins s σ H { D with nx:=u D } I h) fun f s1 q=>?_)
  cases f with
  | next =>
    obtain ⟨σ',H',I',q⟩:=q
    exact h2 pins s1 σ' H' D I' q
  | ret v=>exact q
  | brk=>exact q
  | cont=>exact q
theorem zgs (h1:PS X st t):PSs X [st] t:=by
  intro pins s σ H D I h
  refine wpAny_execs_cons (thn (h1 pins s σ H D I h) fun f s1 q=>?_)
  cases f with
  | next=>exact wpAny_execs_nil q
  | ret v=>exact q
  | brk=>exact q
  | cont=>exact q
theorem Inv.quiet {pins:List (Addr×Obj)} {σ:St} {H:Hp} {s:Shared} (I:Inv X pins σ H s):interactive X.env=false:=by simp [interactive,I.ok.kind]
def zth (te:TE):TS:=fun D σ H=>te σ H fun _ H1=>D.nx σ H1
theorem zgt (he:PE X e te) (hs:swapsWith e none pos.line X.env=pure false:=by rfl):PS X (.Expr e pos) (zth te):=by
  intro pins s σ H D I h
  exact wpAny_Expr_any (thn (he pins s σ H _ I h) fun v s1 ⟨x,H1,I1,r1,q1⟩=>⟨σ,H1,I1,q1⟩) I.quiet hs
def zv5 (te:TE):TS:=fun D σ H=>te σ H D.rt
theorem zlw (he:PE X e te):PS X (.Return (some e) pos) (zv5 te):=by
  intro pins s σ H D I h
  exact wpAny_Return_some (thn (he pins s σ H _ I h) fun v s1 ⟨x,H1,I1,r1,q1⟩=>⟨x,σ,H1,I1,r1,q1⟩)
def zv9 (c:TT) (t u:TS):TS:=fun D σ H=>c σ H fun b H1=>if b=true then t D σ H1 else u D σ H1
theorem zqr {c:Expr} {a b:List Stmt} {tc:TT} (hc:PT X c tc) (ha:PSs X a t) (hb:PSs X b u):PS X (.If c a b pos) (zv9 tc t u):=by
  intro pins s σ H D I h
  refine wpAny_If (thn (hc pins s σ H _ I h) fun d s1 hm=>?_)
  obtain ⟨H1,I1,q1⟩:=hm
  cases d with
  | true=>exact ha pins s1 σ H1 D I1 q1
  | false=>exact hb pins s1 σ H1 D I1 q1
end
noncomputable abbrev TG:=V→St→Hp→(St→Hp→Prop)→Prop
noncomputable abbrev TGs:=List V→St→Hp→(St→Hp→Prop)→Prop
noncomputable def PG (X:Cx) (target:Expr) (t:TG):Prop :=
  ∀ (pins:List (Addr×Obj)) (s:Shared) (σ:St) (H:Hp) (v:V) (u:Value) (Q:St→Hp→Prop),Inv X pins σ H s→RelV v u→t v σ H Q →
    wpAny (model X.prog X.w) X.A (assign target X.env u) (fun _ s'=>∃ σ' H',Inv X pins σ' H' s'∧Q σ' H') X.xe s
noncomputable def PGs (X:Cx) (ts:List Expr) (t:TGs):Prop :=
  ∀ (pins:List (Addr×Obj)) (s:Shared) (σ:St) (H:Hp) (vs:List V) (us:List Value) (Q:St→Hp→Prop),Inv X pins σ H s→Vals vs us→t vs σ H Q →
    wpAny (model X.prog X.w) X.A (assignInOrder ((assignEach ts X.env).map (·.2)) us) (fun _ s'=>∃ σ' H',Inv X pins σ' H' s'∧Q σ' H') X.xe s
noncomputable abbrev zui:=V→V→V→Hp→(Hp→Prop)→Prop
noncomputable def zux (X:Cx) (t:zui):Prop :=
  ∀ (pins:List (Addr×Obj)) (s:Shared) (σ:St) (H:Hp) (o i v:V) (ov iv u:Value) (Q:Hp→Prop),Inv X pins σ H s→RelV o ov→RelV i iv→RelV v u→t o i v H Q →
    wpAny (model X.prog X.w) X.A (setItem ov iv u) (fun _ s'=>∃ H',Inv X pins σ H' s'∧Q H') X.xe s
section
variable {X:Cx} {pos:Pos}
def zob (i:Nat):TG:=fun v σ H Q=>Q (σ.set i (some v)) H
theorem znq {i:Nat} {x:Str} (hN:X.N.Nodup) (hi:X.N[i]?=some x) (hx:Loc X.env.scope x) (hf:X.fn x=true∨X.env.scope.names.lookup x=some .local:=by first | exact .inl rfl | exact .inr rfl | assumption):PG X (.Name x pos) (zob i):=by
  intro pins s σ H v u Q I r h
  exact wpAny_assign_Name (z8z I hN hi hx r (fun s' I'=>⟨_,H,I',h⟩) hf)
noncomputable def zvh:TGs:=fun vs σ H Q=>vs=[]∧Q σ H
noncomputable def zu8 (t:TG) (u:TGs):TGs:=fun vs σ H Q=>∃ v r,vs=v::r∧t v σ H fun σ' H'=>u r σ' H' Q
theorem znp:PGs X [] zvh:=by
  intro pins s σ H vs us Q I r h
  refine bq fun bG=>?_
  obtain ⟨e,h⟩:=h
  subst e
  cases r
  exact bG (assignInOrder_nil ⟨σ,H,I,h⟩)
theorem zk6 {e:Expr} {es:List Expr} {t:TG} {u:TGs} (h1:PG X e t) (h2:PGs X es u)
    (hs:(assignEach (e::es) X.env).map (·.2)=assign e X.env::(assignEach es X.env).map (·.2):=by rfl):PGs X (e::es) (zu8 t u):=by
  intro pins s σ H vs us Q I r h
  obtain ⟨v,vr,e1,h⟩:=h
  subst e1
  cases r with
  | cons r rr =>
    rw [hs]
    refine assignInOrder_cons (thn (h1 pins s σ H _ _ _ I r h) fun _ s1 hm=>?_)
    refine bq fun bG=>?_
    obtain ⟨σ1,H1,I1,q1⟩:=hm
    exact bG (h2 pins s1 σ1 H1 _ _ Q I1 rr q1)
def zut (K:PySem.W.Frag) (n:Nat) (t:TGs):TG:=fun v σ H Q=>∃ a xs,v=.ref a∧SqT K H a xs∧xs.length=n∧t xs σ H Q
theorem zqw {es:List Expr} {k:Nat} {t:TGs} {n:Nat} (hc:X.calm=true) (h:PGs X es t)
    (hn:(assignEach es X.env).length=n:=by rfl) (hst:(assignEach es X.env).findIdx? (·.1)=none:=by rfl):PG X (.Tuple es k pos) (zut X.K n t):=by
  intro pins s σ H v u Q I r hw
  refine bq fun bG=>?_
  obtain ⟨a,xs,e1,hq,hl,hw⟩:=hw
  subst e1
  cases r
  obtain ⟨its,rv,ht,hz⟩:=I.tuple hq
  refine bG (assign_Tuple_tuple (I.ok.hd hc) ht (by simp [hn,← hl,rv.length]) hst fun h' hx=>?_)
  have I1:Inv X pins σ H { s with heap:=h' }:=I.kept (t':=s.toks) fun b o e=>hx b o (Nat.ne_of_lt (Heap.lt_size e)) e
  exact h pins _ σ H xs _ Q I1 (by simpa using rv) hw
def zvg (to ti:TE) (t:zui):TG:=fun v σ H Q=>to σ H fun o H1=>ti σ H1 fun i H2=>t o i v H2 fun H3=>Q σ H3
theorem zqx {o i:Expr} {to ti:TE} {t:zui} (ho:PE X o to) (hi:PE X i ti) (hs:zux X t)
    (ha:∀ v,assign (.Subscript o i pos) X.env v=(do
      let ov ← holding [v] (eval o X.env)
      let iv ← holding [v,ov] (eval i X.env)
      standAt pos
      holding [v,ov,iv] (setItem ov iv v)
      release [v,ov,iv] []):=by intro _;rfl):PG X (.Subscript o i pos) (zvg to ti t):=by
  intro pins s σ H v u Q I r h
  rw [ha]
  refine wpAny_bind (wpAny_holding (thn (ho pins s σ H _ I h) fun ov s1 hm=>?_))
  refine bq fun bG=>?_
  obtain ⟨x,H1,I1,r1,q1⟩:=hm
  refine bG (wpAny_bind (wpAny_holding (thn (hi pins s1 σ H1 _ I1 q1) fun iv s2 hm=>?_)))
  refine bq fun bG=>?_
  obtain ⟨y,H2,I2,r2,q2⟩:=hm
  refine bG (wpAny_bind (wpAny_standAt (wpAny_bind (wpAny_holding (thn (hs pins s2 σ H2 x y v ov iv u _ I2 r1 r2 r q2) fun _ s3 hm=>?_)))))
  refine bq fun bG=>?_
  obtain ⟨H3,I3,q3⟩:=hm
  exact bG (wpAny_release ⟨σ,H3,I3,q3⟩)
def ztk (te:TE) (g:TG):TS:=fun D σ H=>te σ H fun x H1=>g x σ H1 D.nx
theorem zqs {tg e:Expr} {te:TE} {g:TG} (he:PE X e te) (hg:PG X tg g) (hs:swapsWithSole [tg] e pos.line X.env=pure false:=by rfl) (hw:swappedStores [tg] e X.env=pure none:=by rfl)
    (h1:(assignEach [tg] X.env).map (·.2)=[assign tg X.env]:=by rfl):PS X (.Assign [tg] e pos) (ztk te g):=by
  intro pins s σ H D I h
  refine wpAny_Assign_stores (thn (he pins s σ H _ I h) fun v s1 hm=>?_) hs hw
  obtain ⟨x,H1,I1,r1,q1⟩:=hm
  rw [h1]
  exact thn (hg pins s1 σ H1 x v _ I1 r1 q1) fun _ s2 q=>q
theorem zlv {i:Nat} {x:Str} {e:Expr} {te:TE} {pos':Pos} (hN:X.N.Nodup) (hi:X.N[i]?=some x) (hx:Loc X.env.scope x) (he:PE X e te) (hs:swapsWith e (some (.Name x pos')) pos.line X.env=pure false:=by rfl) (hf:X.fn x=true∨X.env.scope.names.lookup x=some .local:=by first | exact .inl rfl | exact .inr rfl | assumption) :
    PS X (.Assign [.Name x pos'] e pos) (ztk te (zob i)):=by
  intro pins s σ H D I h
  refine wpAny_Assign_Name (thn (he pins s σ H _ I h) fun v s1 hm=>?_) hs
  refine bq fun bG=>?_
  obtain ⟨y,H1,I1,r1,q1⟩:=hm
  exact bG (z8z I1 hN hi hx r1 (fun s2 I2=>⟨_,H1,I2,q1⟩) hf)
end
section
variable {X:Cx} {pos:Pos}
end
structure It where
  go:Nat→Hp→Prop
  yld:Nat→Hp→V→Hp→Prop
  stop:Nat→Hp→Prop
noncomputable def z5x (X:Cx) (pins:List (Addr×Obj)) (H:Hp) (b:Addr):Prop :=
  H b=none∧b≠X.env.locals∧b∉X.fs∧(b∈X.ex∨X.s₀.heap.objs.size≤b)∧(∀ x c,X.env.cells.lookup x=some c→c≠b)∧∀ p∈X.pn++pins,p.1≠b
theorem Inv.fpOk {X:Cx} {pins:List (Addr×Obj)} {σ:St} {H H':Hp} {s:Shared} {b:Addr} (I:Inv X pins σ H s) (hb:s.heap.objs.size≤b) (hn:H' b=none):z5x X pins H' b:=by
  refine ⟨hn,Nat.ne_of_gt (Nat.lt_of_lt_of_le I.lt hb),I.nofs hb,.inr (Nat.le_trans I.sz hb),fun x c e z=>?_,fun p hp z=>?_⟩
  · obtain ⟨v,q⟩:=I.cell x c e
    exact absurd (Nat.lt_of_lt_of_le q.lt (by rw [z];exact hb)) (Nat.lt_irrefl _)
  · exact absurd (Nat.lt_of_lt_of_le (Heap.lt_size (I.pin p hp).1) (by rw [z];exact hb)) (Nat.lt_irrefl _)
structure Turn (P:Program) (w:World) (K:PySem.W.Frag) (tg:Expr) (J:It) (fp:List Addr) (it:Addr) (tn:Nat→Heap→Prop):Prop where
  mem:it∈fp
  obj:∀ i h,tn i h→∀ b∈fp,∃ o,h.get? b=some o∧∀ v,o.data≠.cell v
  keep:∀ i h h',tn i h→(∀ b∈fp,∀ o,h.get? b=some o→h'.get? b=some o)→tn i h'
  item:∀ (X:Cx),X.prog=P→X.w=w→X.K=K→X.calm=true→∀ (i:Nat) (pins:List (Addr×Obj)) (s:Shared) (σ:St) (H:Hp) (E:Value→Shared→Prop),Inv X pins σ H s→(∀ b∈fp,z5x X pins H b)→tn i s.heap→J.go i H →
    wpAny (model P w) X.A (pyNext (.ref it)) (fun r s1=>∃ u,r=some u ∧
      wpAny (model P w) X.A (letOwnedTupleGo tg (.ref it) u) (fun _ s2=>∃ x H',Inv X pins σ H' s2∧RelV x u∧J.yld i H x H'∧tn (i+1) s2.heap∧∀ b∈fp,H' b=none) E s1) E s
  done:∀ (X:Cx),X.prog=P→X.w=w→X.K=K→X.calm=true→∀ (i:Nat) (pins:List (Addr×Obj)) (s:Shared) (σ:St) (H:Hp) (E:Value→Shared→Prop),Inv X pins σ H s→(∀ b∈fp,z5x X pins H b)→tn i s.heap→J.stop i H →
    wpAny (model P w) X.A (pyNext (.ref it)) (fun r s1=>r=none∧Inv X pins σ H s1) E s
  self:∀ (A:Around) (i:Nat) (s:Shared) (Q:Value→Shared→Prop) (E:Value→Shared→Prop),tn i s.heap→Q (.ref it) s→wpAny (model P w) A (pyIter (.ref it)) Q E s
noncomputable abbrev TI:=St→Hp→(It→Hp→Prop)→Prop
noncomputable def PIE (X:Cx) (pins:List (Addr×Obj)) (σ:St) (tg:Expr) (R:It→Hp→Prop) (itv:Value) (s2:Shared):Prop :=
  ∃ (it:Addr) (fp:List Addr) (tn:Nat→Heap→Prop) (J:It) (H':Hp),itv=.ref it∧Inv X pins σ H' s2∧Turn X.prog X.w X.K tg J fp it tn∧tn 0 s2.heap∧(∀ b∈fp,z5x X pins H' b)∧R J H'
noncomputable def PI (X:Cx) (tg iter:Expr) (wi:TI):Prop :=
  ∀ (pins:List (Addr×Obj)) (s:Shared) (σ:St) (H:Hp) (R:It→Hp→Prop),Inv X pins σ H s→wi σ H R →
    wpAny (model X.prog X.w) X.A (eval iter X.env) (fun v s1=>wpAny (model X.prog X.w) X.A (pyIter v) (PIE X pins σ tg R) X.xe s1) X.xe s
theorem zs2 {M:Model} {A:Around} {E:Value→Shared→Prop} {s:Shared} {tg:Expr} {it:Addr} {u:Value} {o:Obj} {n:String} {vs:Array Value} {Q:Unit→Shared→Prop} (ho:s.heap.get? it=some o) (hc:o.cls=.type n) (hd:o.data=.fields vs)
    (hn:["enumerate", "zip", "dict_itemiterator", "dict_reverseitemiterator", "odict_iterator", "itertools.zip_longest", "itertools.pairwise"].contains n=false) (hQ:Q () s):wpAny M A (letOwnedTupleGo tg (.ref it) u) Q E s:=by
  unfold letOwnedTupleGo
  cases tg <;> first
    | exact wpAny_pure hQ
    | (cases u <;> first
        | exact wpAny_pure hQ
        | (refine wpAny_bind (wpAny_load ho ?_)
           rw [hc,hd]
           show wpAny M A (if (["enumerate", "zip", "dict_itemiterator", "dict_reverseitemiterator", "odict_iterator", "itertools.zip_longest", "itertools.pairwise"].contains n&&vs[0]?==some (rawInt _))=true then _ else _) Q E s
           rw [if_neg (by intro h;rw [hn,Bool.false_and] at h;cases h)]
           exact wpAny_pure hQ))
noncomputable def Itl (K:PySem.W.Frag) (a:Addr):It :=
  ⟨fun i H=>∃ xs x,SqL K H a xs∧xs[i]?=some x,fun i H x H'=>H'=H∧∀ xs,SqL K H a xs→xs[i]?=some x,fun i H=>∃ xs,SqL K H a xs∧xs.length≤i⟩
noncomputable def Itr (lo:Int) (n:Nat):It:=⟨fun i _=>i<n,fun i H x H'=>H'=H∧x=.int (lo+i),fun i _=>n≤i⟩
theorem zft {P:Program} {w:World} {K:PySem.W.Frag} {tg:Expr} (a it:Addr):Turn P w K tg (Itl K a) [it] it (fun i h=>h.IsListIter it a i) where
  mem:=by simp
  obj:=fun i h st b hb=>by
    have e:b=it:=by simpa using hb
    subst e
    obtain ⟨o,e,c,d⟩:=st
    exact ⟨o,e,fun v z=>by rw [d] at z;cases z⟩
  keep:=fun i h h' st k=>st.at fun o e=>k it (by simp) o e
  item:=by
    intro X hP hw hK hc i pins s σ H E I hf st hg
    subst hP hw hK
    refine bq fun bG=>?_
    obtain ⟨xs,x,hq,hx⟩:=hg
    obtain ⟨its,rv,p,hz⟩:=I.list hq
    obtain ⟨u,hu,ru⟩:=rv.get hx
    obtain ⟨f0,f1,f2,f3,f4,f5⟩:=hf it (by simp)
    refine bG (wpAny_pyNext_list_item st p.isList (x:=u) (by simpa using hu) fun h' st' sb=>?_)
    have I1:Inv X pins σ H { s with heap:=h' }:=I.turned (t':=s.toks) (fun b o hb e=>(sb.2 b hb).trans e) f0 f1 f3 f4 f5
    obtain ⟨o,e,c,d⟩:=id st'
    exact ⟨u,rfl,zs2 (s:={ s with heap:=h' }) e c d (by decide) ⟨x,H,I1,ru,⟨rfl,fun ys hy=>by rw [I.list_inj hy hq];exact hx⟩,st',fun b hb=>(hf b hb).1⟩⟩
  done:=by
    intro X hP hw hK hc i pins s σ H E I hf st hg
    subst hP hw hK
    obtain ⟨xs,hq,hx⟩:=hg
    obtain ⟨its,rv,p,hz⟩:=I.list hq
    obtain ⟨f0,f1,f2,f3,f4,f5⟩:=hf it (by simp)
    have hl:=rv.length
    exact wpAny_pyNext_list_end (I.ok.hd hc) st p.isList (by simp;omega) fun h' eb=>⟨rfl,I.turned (t':=s.toks) (fun b o hb e=>eb b o hb e) f0 f1 f3 f4 f5⟩
  self:=fun _ _ _ _ _ st h=>wpAny_pyIter_listiter st h
theorem z8f {P:Program} {w:World} {K:PySem.W.Frag} {tg:Expr} (it:Addr) (lo:Int) (n:Nat):Turn P w K tg (Itr lo n) [it] it (fun i h=>IsRangeIter h it (lo+(i:Nat)*1) ((n:Int) - (i:Nat)) 1) where
  mem:=by simp
  obj:=fun i h st b hb=>by
    have e:b=it:=by simpa using hb
    subst e
    exact ⟨_,st,fun v z=>by
      have z':Data.fields _=Data.cell v:=z
      cases z'⟩
  keep:=fun i h h' st k=>k it (by simp) _ st
  item:=by
    intro X hP hw hK hc i pins s σ H E I hf st hg
    subst hP hw hK
    refine bq fun bG=>?_
    obtain ⟨f0,f1,f2,f3,f4,f5⟩:=hf it (by simp)
    have W:=Walks.range (prog:=X.prog) (w:=X.w) (I.ok.hd hc) it lo 1 n
    refine bG (W.item i s _ _ hg st fun v h' tk hv st' kk=>?_)
    refine bq fun bG=>?_
    obtain ⟨t,rfl⟩:=hv
    have I1:Inv X pins σ H { s with heap:=h',toks:=tk }:=I.turned (fun b o hb e=>kk b o (by simpa using hb) e) f0 f1 f3 f4 f5
    refine bG (⟨_,rfl,zs2 (s:={ s with heap:=h',toks:=tk }) (n := "range_iterator") st' rfl rfl (by decide) ⟨.int (lo+i),H,I1,⟨t,?_⟩,⟨rfl,rfl⟩,st',fun b hb=>(hf b hb).1⟩⟩)
    rw [Int.mul_one]
  done:=by
    intro X hP hw hK hc i pins s σ H E I hf st hg
    subst hP hw hK
    obtain ⟨f0,f1,f2,f3,f4,f5⟩:=hf it (by simp)
    exact wpAny_pyNext_range_end (I.ok.hd hc) st (by have:n≤i:=hg;omega) fun h' eb=>⟨rfl,I.turned (t':=s.toks) (fun b o hb e=>eb b o hb e) f0 f1 f3 f4 f5⟩
  self:=fun _ _ _ _ _ st h=>wpAny_pyIter_rangeiter st h
section
variable {X:Cx} {tg:Expr}
def zrz (K:PySem.W.Frag) (tl:TE):TI:=fun σ H R=>tl σ H fun x H1=>∃ a,x=.ref a∧(∃ xs,SqL K H1 a xs)∧R (Itl K a) H1
theorem zgx {l:Expr} {tl:TE} (hl:PE X l tl):PI X tg l (zrz X.K tl):=by
  intro pins s σ H R I h
  refine thn (hl pins s σ H _ I h) fun v s1 hm=>?_
  refine bq fun bG=>?_
  obtain ⟨x,H1,I1,r1,q1⟩:=hm
  refine bG (bq fun bG=>?_)
  obtain ⟨a,e,⟨xs,hq⟩,q⟩:=q1
  subst e
  cases r1
  obtain ⟨its,rv,p,hz⟩:=I1.list hq
  refine bG (wpAny_pyIter_list p.isList ?_)
  refine ⟨s1.heap.objs.size,[s1.heap.objs.size],_,_,H1,rfl,I1.kept (t':=s1.toks) fun b o e=>Heap.get?_push_of_some _ e,zft a _,⟨_,Heap.get?_push_size _ rfl,rfl,rfl⟩,fun b hb=>?_,q⟩
  have e:b=s1.heap.objs.size:=by simpa using hb
  subst e
  exact I1.fpOk (Nat.le_refl _) (I1.hok.fresh (Nat.le_refl _))
theorem zdg {pins:List (Addr×Obj)} {σ:St} {H:Hp} {s:Shared} {R:It→Hp→Prop} {E:Value→Shared→Prop} {lo hi:Int} {t u v:Tok} {tk:Nat} (I:Inv X pins σ H s) (h1:-(2 ^ 62)≤lo) (h2:lo<2 ^ 62) (h3:-(2 ^ 62)≤hi) (h4:hi<2 ^ 62)
    (q:R (Itr lo (hi - lo).toNat) H):wpAny (model X.prog X.w) X.A (pyIter (.ref s.heap.objs.size)) (PIE X pins σ tg R) E { s with heap:=s.heap.push { cls:=.type "range",data:=.fields #[.int lo t,.int hi u,.int 1 v] },toks:=tk }:=by
  refine wpAny_pyIter_range (IsRange.new ..) (small_one h1 h2 h3 h4) ?_
  have I1:Inv X pins σ H { s with heap:=s.heap.push { cls:=.type "range",data:=.fields #[.int lo t,.int hi u,.int 1 v] },toks:=tk }:=I.kept fun b o e=>Heap.get?_push_of_some _ e
  refine ⟨(s.heap.push { cls:=.type "range",data:=.fields #[.int lo t,.int hi u,.int 1 v] }).objs.size,[(s.heap.push { cls:=.type "range",data:=.fields #[.int lo t,.int hi u,.int 1 v] }).objs.size],_,_,H,rfl,
    I1.kept (t':=tk) fun b o e=>Heap.get?_push_of_some _ e,z8f _ lo (hi - lo).toNat,?_,fun b hb=>?_,q⟩
  · have e1:lo+((0:Nat):Int)*1=lo:=by simp
    have e2:(((hi - lo).toNat:Nat):Int) - ((0:Nat):Int)=Builtin.Range.rangeSize lo hi 1:=by rw [rangeSize_one];split <;> omega
    show IsRangeIter _ _ (lo+((0:Nat):Int)*1) ((((hi - lo).toNat:Nat):Int) - ((0:Nat):Int)) 1
    rw [e1,e2]
    exact Heap.get?_push_size _ rfl
  · have e:b=(s.heap.push { cls:=.type "range",data:=.fields #[.int lo t,.int hi u,.int 1 v] }).objs.size:=by simpa using hb
    subst e
    exact I1.fpOk (Nat.le_refl _) (I1.hok.fresh (Nat.le_refl _))
def zry (ta:TA):TI:=fun σ H R=>ta σ H fun vs H1=>∃ j:Int,vs=[.int j]∧-(2 ^ 62)≤j∧j<2 ^ 62∧R (Itr 0 j.toNat) H1
theorem zgw {a:Expr} {ta:TA} {p pos:Pos} (hg:Gl X "range") (hm:X.mg "range" = none) (ha:PA X [a] ta) (hs:starEach [a] X.env=[(false,eval a X.env)]:=by rfl):PI X tg (.Call (.Name "range" p) [a] [] pos) (zry ta):=by
  intro pins s σ H R I h
  refine Call_ (z62 I hg hm boot_range (PyProof.Rows.callWith_type1 (thn (ha pos pins s σ H _ I h) fun us s1 hm=>?_) hs rfl))
  obtain ⟨vs,H1,I1,r1,q1⟩:=hm
  obtain ⟨j,e,q1,q2,q⟩:=q1
  subst e
  cases r1 with
  | cons r rr =>
    cases rr
    refine bq fun bG=>?_
    obtain ⟨t,rfl⟩:=r
    exact bG (call_range_1 (zdg I1 (by omega) (by omega) q1 q2 (by simpa using q)))
def zva (wi:TI) (g:TG) (tb:TS):TS:=fun D σ H=>wi σ H fun J H1=>∃ W:Nat→Nat→St→Hp→Prop,(∃ m,W 0 m σ H1)∧∀ i m σ H,W i m σ H →
  (J.stop i H∧D.nx σ H)∨(J.go i H∧∃ N:St→Hp→Prop,(∀ σ' H',N σ' H'→∃ m',m'<m∧W (i+1) m' σ' H')∧∀ x H',J.yld i H x H'→g x σ H' fun σ2 H2=>tb { D with nx:=N,ct:=N,bk:=D.nx } σ2 H2)
noncomputable def z5z (fp:List Addr) (h:Heap):List (Addr×Obj):=fp.filterMap fun b=>(h.get? b).map fun o=>(b,o)
theorem z1c {fp:List Addr} {h:Heap} {b:Addr} {o:Obj} (hb:b∈fp) (e:h.get? b=some o):(b,o)∈z5z fp h:=List.mem_filterMap.mpr ⟨b,hb,by rw [e];rfl⟩
theorem zh1 {fp:List Addr} {h:Heap} {p:Addr×Obj} (hp:p∈z5z fp h):p.1∈fp∧h.get? p.1=some p.2:=by
  obtain ⟨b,hb,e⟩:=List.mem_filterMap.mp hp
  cases q:h.get? b with
  | none=>rw [q] at e;cases e
  | some o =>
    rw [q] at e
    have e':(b,o)=p:=Option.some.inj e
    subst e'
    exact ⟨hb,q⟩
theorem Inv.pinned {pins:List (Addr×Obj)} {σ:St} {H:Hp} {s:Shared} {fp:List Addr} (I:Inv X pins σ H s) (hf:∀ b∈fp,z5x X pins H b) (ho:∀ b∈fp,∃ o,s.heap.get? b=some o∧∀ v,o.data≠.cell v):Inv X (pins++z5z fp s.heap) σ H s :=
  I.pins_of fun p hp=>(List.mem_append.mp hp).elim (fun z=>I.pin p (List.mem_append_right _ z)) fun z=>by
    obtain ⟨hb,e⟩:=zh1 z
    obtain ⟨f0,f1,f2,_⟩:=hf p.1 hb
    obtain ⟨o,e',d⟩:=ho p.1 hb
    rw [e] at e';cases e'
    exact ⟨e,f0,f1,f2,d⟩
theorem Inv.unpinned {pins pl:List (Addr×Obj)} {σ:St} {H:Hp} {s:Shared} (I:Inv X (pins++pl) σ H s):Inv X pins σ H s:=I.pins_of fun p hp=>I.pin p (List.mem_append_right _ (List.mem_append_left _ hp))
theorem zlx {iter:Expr} {body:List Stmt} {wi:TI} {g:TG} {tb:TS} {pos:Pos} (hp:PassesOwn (model X.prog X.w) X.A X.env X.xe) (hc:X.calm=true) (hi:PI X tg iter wi) (hg:PG X tg g) (hb:PSs X body tb)
    (hs:∀ x,foldedSetIterable iter X.env x=pure x:=by intro _;rfl):PS X (.For tg iter body [] pos) (zva wi g tb):=by
  intro pins s σ H D I h
  refine wpAny_For (thn (hi pins s σ H _ I h) fun v s1 h1=>thn h1 fun itv s2 h2=>?_) hs
  obtain ⟨it,fp,tn,J,H2,e,I2,T,st2,f2,W,⟨m0,w0⟩,turn⟩:=h2
  subst e
  have stat:∀ {H':Hp},(∀ b∈fp,H' b=none)→∀ b∈fp,z5x X pins H' b:=fun hn b hb=>⟨hn b hb,(f2 b hb).2⟩
  refine codeAny_forLoop_any (fun n s'=>∃ i σ' H',Inv X pins σ' H' s'∧tn i s'.heap∧(∀ b∈fp,H' b=none)∧W i n σ' H') ?_ m0 ⟨0,σ,H2,I2,st2,fun b hb=>(f2 b hb).1,w0⟩
  rintro n s3 ⟨i,σ3,H3,I3,st3,fr3,w3⟩
  rcases turn i n σ3 H3 w3 with ⟨stop,qn⟩ | ⟨go,N,hN,step⟩
  · refine wpAny_passesOwn hp (thn (T.done X rfl rfl rfl hc i pins s3 σ3 H3 X.xe I3 (stat fr3) st3 stop) fun r s4 ⟨hr,I4⟩=>?_)
    subst hr
    exact wpAny_execs_nil ⟨σ3,H3,I4,qn⟩
  · refine wpAny_passesOwn hp (thn (T.item X rfl rfl rfl hc i pins s3 σ3 H3 X.xe I3 (stat fr3) st3 go) fun r s4 ⟨u,hr,h4⟩=>?_)
    subst hr
    refine wpAny_passesOwn hp (thn h4 fun _ s5 hm=>?_)
    refine bq fun bG=>?_
    obtain ⟨x,H5,I5,r5,y5,st5,fr5⟩:=hm
    have I5':=I5.pinned (stat fr5) (T.obj _ _ st5)
    refine bG (wpAny_passesOwn hp (thn (hg _ s5 σ3 H5 x u _ I5' r5 (step x H5 y5)) fun _ s6 hm=>?_))
    refine bq fun bG=>?_
    obtain ⟨σ6,H6,I6,q6⟩:=hm
    refine bG (wpAny_passesOwn hp (thn (hb _ s6 σ6 H6 _ I6 q6) fun f s7 q7=>?_))
    have again:∀ {σ7:St} {H7:Hp},Inv X (pins++z5z fp s5.heap) σ7 H7 s7→N σ7 H7→∃ m,m<n∧∃ i σ' H',Inv X pins σ' H' s7∧tn i s7.heap∧(∀ b∈fp,H' b=none)∧W i m σ' H':=fun {σ7 H7} I7 n7=>by
      refine bq fun bG=>?_
      obtain ⟨m',hm,w7⟩:=hN σ7 H7 n7
      refine bG (⟨m',hm,i+1,σ7,H7,I7.unpinned,T.keep _ _ _ st5 fun b hb o e=>(I7.pin (b,o) (List.mem_append_right _ (List.mem_append_right _ (z1c hb e)))).1,fun b hb=>?_,w7⟩)
      refine bq fun bG=>?_
      obtain ⟨o,e,d⟩:=T.obj _ _ st5 b hb
      exact bG ((I7.pin (b,o) (List.mem_append_right _ (List.mem_append_right _ (z1c hb e)))).2.1)
    cases f with
    | next=>obtain ⟨σ7,H7,I7,n7⟩:=q7;exact again I7 n7
    | cont=>obtain ⟨σ7,H7,I7,n7⟩:=q7;exact again I7 n7
    | brk=>obtain ⟨σ7,H7,I7,q7⟩:=q7;exact ⟨σ7,H7,I7.unpinned,q7⟩
    | ret v=>obtain ⟨x7,σ7,H7,I7,r7,q7⟩:=q7;exact ⟨x7,σ7,H7,I7.unpinned,r7,q7⟩
end
noncomputable abbrev R2:=V→V→Hp→VK→Prop
noncomputable def OpR (X:Cx) (f:Value→Value→Sem Value) (r:R2):Prop :=
  ∀ (pins:List (Addr×Obj)) (s:Shared) (σ:St) (H:Hp) (x y:V) (v u:Value) (Q:VK),Inv X pins σ H s→RelV x v→RelV y u→r x y H Q →
    wpAny (model X.prog X.w) X.A (f v u) (EP X pins σ Q) X.xe s
noncomputable def UnR (X:Cx) (f:Value→Sem Value) (r:V→Hp→VK→Prop):Prop :=
  ∀ (pins:List (Addr×Obj)) (s:Shared) (σ:St) (H:Hp) (x:V) (v:Value) (Q:VK),Inv X pins σ H s→RelV x v→r x H Q →
    wpAny (model X.prog X.w) X.A (f v) (EP X pins σ Q) X.xe s
noncomputable def z3u (X:Cx) (f:Value) (r:List V→Hp→VK→Prop):Prop :=
  ∀ (pins:List (Addr×Obj)) (s:Shared) (σ:St) (H:Hp) (xs:List V) (us:List Value) (Q:VK),Inv X pins σ H s→Vals xs us→r xs H Q →
    wpAny (model X.prog X.w) X.A (call f us) (EP X pins σ Q) X.xe s
noncomputable def zvu (X:Cx) (r:V→Hp→(Bool→Hp→Prop)→Prop):Prop :=
  ∀ (pins:List (Addr×Obj)) (s:Shared) (σ:St) (H:Hp) (x:V) (v:Value) (Q:Bool→Hp→Prop),Inv X pins σ H s→RelV x v→r x H Q →
    wpAny (model X.prog X.w) X.A (truthy v) (TP X pins σ Q) X.xe s
def tOp (r:R2) (ta tb:TE):TE:=fun σ H Q=>ta σ H fun x H1=>tb σ H1 fun y H2=>r x y H2 Q
def tUn (r:V→Hp→VK→Prop) (ta:TE):TE:=fun σ H Q=>ta σ H fun x H1=>r x H1 Q
noncomputable def rI (C:Int→Int→Prop) (g:Int→Int→V):R2:=fun x y H Q=>∃ i j,x=.int i∧y=.int j∧C i j∧Q (g i j) H
noncomputable def rI0 (g:Int→Int→V):R2:=fun x y H Q=>∃ i j,x=.int i∧y=.int j∧Q (g i j) H
def rU (g:Int→V):V→Hp→VK→Prop:=fun x H Q=>∃ i,x=.int i∧Q (g i) H
section
variable {X:Cx} {a b c:Expr} {ta tb tc:TE} {pos:Pos}
theorem zug (ha:PE X a ta) (hb:PE X b tb) {pins:List (Addr×Obj)} {s:Shared} {σ:St} {H:Hp} {R:V→V→Hp→Prop} (I:Inv X pins σ H s)
    (h:ta σ H fun x H1=>tb σ H1 fun y H2=>R x y H2) {Q:Value→Shared→Prop} {f:Value→Value→Sem Value}
    (hf:∀ v u s2 x y H2,Inv X pins σ H2 s2→RelV x v→RelV y u→R x y H2→wpAny (model X.prog X.w) X.A (f v u) Q X.xe s2) :
    wpAny (model X.prog X.w) X.A (eval a X.env) (fun v s₁=>wpAny (model X.prog X.w) X.A (eval b X.env) (fun u s₂=>wpAny (model X.prog X.w) X.A (f v u) Q X.xe s₂) X.xe s₁) X.xe s:=by
  refine thn (ha pins s σ H _ I h) fun v s1 hm=>?_
  refine bq fun bG=>?_
  obtain ⟨x,H1,I1,r1,q1⟩:=hm
  refine bG (thn (hb pins s1 σ H1 _ I1 q1) fun u s2 hm=>?_)
  refine bq fun bG=>?_
  obtain ⟨y,H2,I2,r2,q2⟩:=hm
  exact bG (hf v u s2 x y H2 I2 r1 r2 q2)
theorem ztt {op:Operator} {r:R2} (ho:OpR X (binaryOp op) r) (ha:PE X a ta) (hb:PE X b tb):PE X (.BinOp a op b pos) (tOp r ta tb):=by
  intro pins s σ H Q I h
  exact wpAny_BinOp (zug ha hb I h fun v u s2 x y H2 I2 rx ry q=>ho pins s2 σ H2 x y v u Q I2 rx ry q)
theorem ztr {op:UnaryOp} {r:V→Hp→VK→Prop} (ho:UnR X (unaryOp op) r) (ha:PE X a ta):PE X (.UnaryOp op a pos) (tUn r ta):=by
  intro pins s σ H Q I h
  exact UnaryOp_ (thn (ha pins s σ H _ I h) fun v s1 ⟨x,H1,I1,r1,q1⟩=>ho pins s1 σ H1 x v Q I1 r1 q1)
theorem opI {f:Value→Value→Sem Value} {C:Int→Int→Prop} {g:Int→Int→Int}
    (rule:∀ (i j:Int) (t u:Tok) (s:Shared) (Q:Value→Shared→Prop) (E:Value→Shared→Prop),C i j→Q (.int (g i j) s.toks) { s with toks:=s.toks+1 }→wpAny (model X.prog X.w) X.A (f (.int i t) (.int j u)) Q E s) :
    OpR X f (rI C fun i j=>.int (g i j)):=by
  intro pins s σ H x y v u Q I rx ry h
  refine bq fun bG=>?_
  obtain ⟨i,j,rfl,rfl,hc,q⟩:=h
  obtain ⟨t,rfl⟩:=rx
  obtain ⟨t',rfl⟩:=ry
  exact bG (rule i j t t' s _ _ hc ⟨.int (g i j),H,I.tok _,⟨_,rfl⟩,q⟩)
theorem zus {f:Value→Value→Sem Value} {g:Int→Int→Int}
    (rule:∀ (i j:Int) (t u:Tok) (s:Shared) (Q:Value→Shared→Prop) (E:Value→Shared→Prop),Q (.int (g i j) s.toks) { s with toks:=s.toks+1 }→wpAny (model X.prog X.w) X.A (f (.int i t) (.int j u)) Q E s) :
    OpR X f (rI0 fun i j=>.int (g i j)):=by
  intro pins s σ H x y v u Q I rx ry h
  refine bq fun bG=>?_
  obtain ⟨i,j,rfl,rfl,q⟩:=h
  obtain ⟨t,rfl⟩:=rx
  obtain ⟨t',rfl⟩:=ry
  exact bG (rule i j t t' s _ _ ⟨.int (g i j),H,I.tok _,⟨_,rfl⟩,q⟩)
theorem ztx {f:Value→Value→Sem Value} {g:Int→Int→Bool}
    (rule:∀ (i j:Int) (t u:Tok) (s:Shared) (Q:Value→Shared→Prop) (E:Value→Shared→Prop),Q (.bool (g i j)) s→wpAny (model X.prog X.w) X.A (f (.int i t) (.int j u)) Q E s) :
    OpR X f (rI0 fun i j=>.bl (g i j)):=by
  intro pins s σ H x y v u Q I rx ry h
  refine bq fun bG=>?_
  obtain ⟨i,j,rfl,rfl,q⟩:=h
  obtain ⟨t,rfl⟩:=rx
  obtain ⟨t',rfl⟩:=ry
  exact bG (rule i j t t' s _ _ ⟨.bl (g i j),H,I,rfl,q⟩)
def zsp (i j:Int):Prop:=0≤j∧j≤1000000∧i.natAbs<2 ^ 64
def CMul (i j:Int):Prop:=(-(2 ^ 64)<i∧i<2 ^ 64)∨(-(2 ^ 64)<j∧j<2 ^ 64)
theorem CMul.ok {i j:Int} (h:CMul i j):IntMulOk i j:=by
  rcases h with ⟨h1,h2⟩ | ⟨h1,h2⟩
  · exact .of_left (intBits_le_64 h1 h2)
  · exact .of_right (intBits_le_64 h1 h2)
theorem op_add:OpR X (binaryOp .Add) (rI0 fun i j=>.int (i+j)):=zus fun _ _ _ _ _ _ _ q=>add_int q
theorem zr5:OpR X (binaryOp .Sub) (rI0 fun i j=>.int (i - j)):=zus fun _ _ _ _ _ _ _ q=>sub_int q
theorem op_mul:OpR X (binaryOp .Mult) (rI CMul fun i j=>.int (i*j)):=opI fun _ _ _ _ _ _ _ hc q=>mul_int q hc.ok
theorem zr8:OpR X (binaryOp .Mod) (rI (fun _ j=>0<j) fun i j=>.int (i % j)):=opI fun i j _ _ _ _ _ hc q=>by
  have h1:(0:Int)<j:=hc
  exact mod_int' (by omega) (by rw [Int.fmod_eq_emod_of_nonneg i (by omega)];exact q)
theorem zr7:OpR X (binaryOp .Pow) (rI zsp fun i j=>.int (i ^ j.toNat)):=opI fun _ _ _ _ _ _ _ hc q=>pow_int_small hc.1 hc.2.1 hc.2.2 q
theorem unI {f:Value→Sem Value} {g:Int→Int}
    (rule:∀ (i:Int) (t:Tok) (s:Shared) (Q:Value→Shared→Prop) (E:Value→Shared→Prop),Q (.int (g i) s.toks) { s with toks:=s.toks+1 }→wpAny (model X.prog X.w) X.A (f (.int i t)) Q E s) :
    UnR X f (rU fun i=>.int (g i)):=by
  intro pins s σ H x v Q I rx h
  refine bq fun bG=>?_
  obtain ⟨i,rfl,q⟩:=h
  obtain ⟨t,rfl⟩:=rx
  exact bG (rule i t s _ _ ⟨.int (g i),H,I.tok _,⟨_,rfl⟩,q⟩)
theorem zpp:UnR X (unaryOp .USub) (rU fun i=>.int (-i)):=unI fun _ _ _ _ _ q=>neg_int q
end
section
variable {X:Cx} {a b c:Expr} {ta tb tc:TE} {pos:Pos}
theorem zs4 {pins:List (Addr×Obj)} {σ:St} {H:Hp} {s:Shared} {Q:VK} {k k':Bool} (I:Inv X pins σ H s) (q:Q (.bl k) H) (e:k=k'):EP X pins σ Q (.bool k') s:=by
  subst e
  exact ⟨.bl k,H,I,rfl,q⟩
theorem zny:OpR X (compareOp .Lt) (rI0 fun i j=>.bl (decide (i<j))):=ztx fun _ _ _ _ _ _ _ q=>lt_int q
theorem zr9:OpR X (compareOp .LtE) (rI0 fun i j=>.bl (decide (i≤j))):=ztx fun _ _ _ _ _ _ _ q=>le_int q
theorem zrc:OpR X (compareOp .Gt) (rI0 fun i j=>.bl (decide (j<i))):=ztx fun _ _ _ _ _ _ _ q=>gt_int q
theorem zra:OpR X (compareOp .Is) (fun x y H Q=>y=.non∧Q (.bl (decide (x=.non))) H):=by
  intro pins s σ H x y v u Q I rx ry h
  refine bq fun bG=>?_
  obtain ⟨rfl,q⟩:=h
  cases ry
  refine bG (is_none_gen (zs4 I q ?_))
  cases x <;> first
    | (cases rx;rfl)
    | (obtain ⟨t,rfl⟩:=rx;rfl)
theorem OpR.or {f:Value→Value→Sem Value} {r r':R2} (h:OpR X f r) (h':OpR X f r'):OpR X f (fun x y H Q=>r x y H Q∨r' x y H Q):=by
  intro pins s σ H x y v u Q I rx ry q
  rcases q with q | q
  · exact h pins s σ H x y v u Q I rx ry q
  · exact h' pins s σ H x y v u Q I rx ry q
theorem z60 (b:Expr) {op:CmpOp} (h:op≠.In:=by decide) (h2:op≠.NotIn:=by decide):behindInMarks op b=false:=by
  have e1:(op==CmpOp.In)=false:=by cases op <;> first | rfl | exact absurd rfl h
  have e2:(op==CmpOp.NotIn)=false:=by cases op <;> first | rfl | exact absurd rfl h2
  cases b <;> simp [behindInMarks,e1,e2]
theorem znu {op:CmpOp} {r:R2} (ho:OpR X (compareOp op) r) (ha:PE X a ta) (hb:PE X b tb) (hm:behindInMarks op b=false):PE X (.Compare a [op] [b] pos) (tOp r ta tb):=by
  intro pins s σ H Q I h
  exact wpAny_Compare1 (zug ha hb I h fun v u s2 x y H2 I2 rx ry q=>ho pins s2 σ H2 x y v u Q I2 rx ry q) hm
def zn2 (t:TE):TT:=fun σ H Q=>t σ H fun x H'=>∃ k,x=.bl k∧Q k H'
theorem znh {op:CmpOp} {r:R2} (ho:OpR X (compareOp op) r) (ha:PE X a ta) (hb:PE X b tb) (hm:behindInMarks op b=false):PT X (.Compare a [op] [b] pos) (zn2 (tOp r ta tb)):=by
  intro pins s σ H Q I h
  refine wpAny_isTrue_Compare1 (thn (ha pins s σ H _ I h) fun v s1 ⟨x,H1,I1,r1,q1⟩=>thn (hb pins s1 σ H1 _ I1 q1) fun u s2 ⟨y,H2,I2,r2,q2⟩ =>
    thn (ho pins s2 σ H2 x y v u _ I2 r1 r2 q2) fun c s3 ⟨z,H3,I3,r3,k,e,q3⟩=>?_) hm
  subst e
  cases r3
  exact wpAny_truthy_bool ⟨H3,I3,q3⟩
def zlp (r r':R2) (ta tb tc:TE):TE:=fun σ H Q=>ta σ H fun x H1=>tb σ H1 fun y H2=>r x y H2 fun z H3=>∃ k,z=.bl k ∧
  (if k=true then tc σ H3 fun w' H4=>r' y w' H4 Q else Q (.bl false) H3)
theorem zk3 {op op':CmpOp} {r r':R2} (ho:OpR X (compareOp op) r) (ho':OpR X (compareOp op') r') (ha:PE X a ta) (hb:PE X b tb) (hc:PE X c tc)
    (hm:lastMarks [op,op'] [b,c]=false:=by with_unfolding_all rfl):PT X (.Compare a [op,op'] [b,c] pos) (zn2 (zlp r r' ta tb tc)):=by
  intro pins s σ H Q I h
  refine isTrue_chain (thn (ha pins s σ H _ I h) fun v s1 ⟨x,H1,I1,r1,q1⟩=>test_link (thn (hb pins s1 σ H1 _ I1 q1) fun u s2 ⟨y,H2,I2,r2,q2⟩ =>
    thn (ho pins s2 σ H2 x y v u _ I2 r1 r2 q2) fun d s3 ⟨z,H3,I3,r3,k,e,q3⟩=>?_)) hm
  subst e
  cases r3
  refine wpAny_truthy_bool ?_
  cases k with
  | false =>
    obtain ⟨k',e',q'⟩:=q3
    cases e'
    exact ite_ff ⟨H3,I3,q'⟩
  | true =>
    refine ite_tt (test_last (thn (hc pins s3 σ H3 _ I3 q3) fun w' s4 ⟨z',H4,I4,r4,q4⟩=>thn (ho' pins s4 σ H4 y z' u w' _ I4 r2 r4 q4) fun d' s5 hm=>?_))
    refine bq fun bG=>?_
    obtain ⟨z2,H5,I5,r5,k2,e2,q5⟩:=hm
    subst e2
    cases r5
    exact bG (wpAny_truthy_bool ⟨H5,I5,q5⟩)
noncomputable def zuh (K:PySem.W.Frag) (x:V) (H:Hp) (k:Bool):Prop :=
  match x with
  | .non=>k=false
  | .bl b=>k=b
  | .int i=>k=(i != 0)
  | .str y=>y.length≤sizeLine∧k=((y.length:Int) != 0)
  | .byt y=>y.size≤sizeLine∧k=((y.size:Int) != 0)
  | .ref p=>(∃ xs,SqL K H p xs∧k=!xs.isEmpty)∨(∃ xs,SqT K H p xs∧k=!xs.isEmpty)∨∃ kvs,H p=some (.dK kvs)∧k=!kvs.isEmpty
  | _=>False
theorem zez {κ:Type} {kvs:List (κ×V)} {vs:List (κ×Value)} (r:KV kvs vs):(!vs.isEmpty)=!kvs.isEmpty:=by
  cases r <;> rfl
theorem z8p {xs:List V} {its:List Value} (r:Vals xs its):(!its.toArray.isEmpty)=!xs.isEmpty:=by
  cases r <;> simp
theorem z8m:(sizeLine:Nat)<2 ^ 63:=by rw [sizeLine_eq];decide
theorem zps:zvu X (fun x H Q=>∃ k,zuh X.K x H k∧Q k H):=by
  intro pins s σ H x v Q I rx h
  obtain ⟨k,e,q⟩:=h
  have hl:=z8m
  have hs:sizeLine=16777216:=sizeLine_eq
  cases x with
  | non =>
    cases rx
    have e':k=false:=e
    subst e'
    exact truthy_none ⟨H,I,q⟩
  | bl b =>
    cases rx
    have e':k=b:=e
    subst e'
    exact wpAny_truthy_bool ⟨H,I,q⟩
  | int i =>
    obtain ⟨t,rfl⟩:=rx
    have e':k=(i != 0):=e
    subst e'
    exact PySem.P.truthy_int ⟨H,I,q⟩
  | str y =>
    obtain ⟨t,rfl⟩:=rx
    obtain ⟨hy,e'⟩:y.length≤sizeLine∧k=((y.length:Int) != 0):=e
    subst e'
    exact PySem.P.truthy_str (by omega) ⟨H,I.tok _,q⟩
  | byt y =>
    obtain ⟨t,rfl⟩:=rx
    obtain ⟨hy,e'⟩:y.size≤sizeLine∧k=((y.size:Int) != 0):=e
    subst e'
    exact PySem.W.truthy_bytes (by omega) ⟨H,I.tok _,q⟩
  | ref p =>
    cases rx
    have e':(∃ xs,SqL X.K H p xs∧k=!xs.isEmpty)∨(∃ xs,SqT X.K H p xs∧k=!xs.isEmpty)∨∃ kvs,H p=some (.dK kvs)∧k=!kvs.isEmpty:=e
    rcases e' with ⟨xs,hx,e'⟩ | ⟨xs,hx,e'⟩ | ⟨kvs,hx,e'⟩
    · subst e'
      obtain ⟨its,r,pl,hz⟩:=I.list hx
      have hlen:=r.length
      exact wpAny_truthy_list pl.isList (by simp only [List.size_toArray];omega) ⟨H,I.tok _,by rw [z8p r];exact q⟩
    · subst e'
      obtain ⟨its,r,pl,hz⟩:=I.tuple hx
      have hlen:=r.length
      exact truthy_tuple pl (by simp only [List.size_toArray];omega) ⟨H,I.tok _,by rw [z8p r];exact q⟩
    · subst e'
      obtain ⟨hz,hS,vs,r,m⟩:kvs.length≤sizeLine∧(p==sysModules)=false∧∃ vs,KV kvs vs∧s.heap.DictOf (z17 X.prog X.w) p vs:=I.hok p _ hx
      have hlen:kvs.length=vs.length:=Paired.length r
      exact wpAny_truthy_dict hS m (by omega) ⟨H,I.tok _,by rw [zez r];exact q⟩
  | _=>exact (show False from e).elim
theorem zk2 (ha:PE X a ta) (he:∀ whole,isTrue a X.env whole=(do let v ← whole;standAt a.pos;holding [v] (truthy v))) :
    PT X a (fun σ H Q=>ta σ H fun x H'=>∃ k,zuh X.K x H' k∧Q k H'):=by
  intro pins s σ H Q I h
  exact isTrue_plain (thn (ha pins s σ H _ I h) fun v s1 ⟨x,H1,I1,r1,q1⟩=>zps pins s1 σ H1 x v Q I1 r1 q1) (he _)
theorem z67 {x:V} {us:List Value} (r:Vals [x] us):∃ u,us=[u]∧RelV x u:=by
  cases r with
  | cons r1 r2=>cases r2;exact ⟨_,rfl,r1⟩
theorem zeh {x y:V} {us:List Value} (r:Vals [x,y] us):∃ u w',us=[u,w']∧RelV x u∧RelV y w':=by
  cases r with
  | cons r1 r2 =>
    cases r2 with
    | cons r3 r4=>cases r4;exact ⟨_,_,rfl,r1,r3⟩
theorem zif (hc:X.calm=true):z3u X (.builtin "max") (fun xs H Q=>∃ i j,xs=[.int i,.int j]∧Q (.int (if j > i then j else i)) H):=by
  intro pins s σ H xs us Q I r h
  refine bq fun bG=>?_
  obtain ⟨i,j,rfl,q⟩:=h
  obtain ⟨u,w',rfl,⟨t,rfl⟩,⟨t',rfl⟩⟩:=zeh r
  refine bG (max_two_ints (I.ok.hd hc) fun h' tk k=>⟨_,H,I.kept k,?_,q⟩)
  by_cases hj:j > i
  · rw [if_pos hj,if_pos hj];exact ⟨_,rfl⟩
  · rw [if_neg hj,if_neg hj];exact ⟨_,rfl⟩
theorem zie (hc:X.calm=true):z3u X (.builtin "min") (fun xs H Q=>∃ i j,xs=[.int i,.int j]∧Q (.int (if j<i then j else i)) H):=by
  intro pins s σ H xs us Q I r h
  refine bq fun bG=>?_
  obtain ⟨i,j,rfl,q⟩:=h
  obtain ⟨u,w',rfl,⟨t,rfl⟩,⟨t',rfl⟩⟩:=zeh r
  refine bG (min_two_ints (I.ok.hd hc) fun h' tk k=>⟨_,H,I.kept k,?_,q⟩)
  by_cases hj:j<i
  · rw [if_pos hj,if_pos hj];exact ⟨_,rfl⟩
  · rw [if_neg hj,if_neg hj];exact ⟨_,rfl⟩
theorem zii:z3u X (.type "int") (fun xs H Q=>(∃ i,xs=[.int i]∧Q (.int i) H)∨∃ k,xs=[.bl k]∧Q (.int (if k then 1 else 0)) H):=by
  intro pins s σ H xs us Q I r h
  rcases h with ⟨i,rfl,q⟩ | ⟨k,rfl,q⟩
  · obtain ⟨u,rfl,t,rfl⟩:=z67 r
    exact call_int_int ⟨.int i,H,I,⟨_,rfl⟩,q⟩
  · obtain ⟨u,rfl,r1⟩:=z67 r
    cases r1
    exact call_int_bool ⟨.int (if k then 1 else 0),H,I.tok _,⟨_,rfl⟩,q⟩
end
section
variable {prog:Program} {w:World} {A:Around} {E:Value→Shared→Prop} {s:Shared} {K:PySem.W.Frag} {x dx C f:Addr} {mA:Str→Option Value} {name:Str} {v:Value}
end
theorem RelO.some_of {v:V} {o:Option Value} (r:RelO (some v) o):∃ u,o=some u∧RelV v u:=by
  cases o with
  | none=>exact (show False from r).elim
  | some u=>exact ⟨u,rfl,r⟩
section
variable {P:Program} {w:World} {H H':Hp} {h h':Heap} {a C dx:Addr} {fs fs':List (Str×V)}
end
section
variable {X:Cx} {pins:List (Addr×Obj)} {σ:St} {H:Hp} {s:Shared} {a C dx:Addr} {fs:List (Str×V)} {f:Str} {v:V} {A:Around} {E:Value→Shared→Prop}
end
section
variable {X:Cx} {o e value:Expr} {f:Str} {pos pos' tpos:Pos} {ta tv:TE}
end
section
variable {X:Cx} {pins:List (Addr×Obj)} {σ:St} {H:Hp} {s:Shared} {A:Around} {E:Value→Shared→Prop} {Q:Value→Shared→Prop} {c:Value} {b:Bool}
end
structure Room (k:Nat) (A:Around):Prop where
  hd:A.handled=none
  dp:A.depth+3*k+5<recursionLimit
  un:A.units+16*k+200<cLine
theorem Room.mono {j k:Nat} {A:Around} (r:Room k A) (h:j≤k):Room j A:=⟨r.hd,by have:=r.dp;omega,by have:=r.un;omega⟩
theorem Room.deeper {k:Nat} {A:Around} (r:Room (k+1) A) (env:Env):Room k (A.deeper env) :=
  ⟨r.hd,by have:=r.dp;show A.depth+1+3*k+5<_;omega,by have:=r.un;show A.units+3+16*k+200<_;omega⟩
theorem Room.depth {k:Nat} {A:Around} (r:Room k A):A.depth<recursionLimit:=by have:=r.dp;omega
theorem Room.units {k:Nat} {A:Around} (r:Room k A):A.units+64<cLine:=by have:=r.un;omega
def zfw:TA:=fun _ H Q=>Q [] H
def z5m (ta:TE) (tr:TA):TA:=fun σ H Q=>ta σ H fun x H1=>tr σ H1 fun xs H2=>Q (x::xs) H2
section
variable {X:Cx} {e:Expr} {es:List Expr} {te:TE} {t:TA} {pos:Pos}
theorem z16:PA X [] zfw:=fun _ _ _ _ H Q I h=>Calls.spliced_nil ⟨[],H,I,.nil,h⟩
theorem z0n (ha:PE X e te) (hr:PA X es t) (hs:starEach (e::es) X.env=(false,eval e X.env)::starEach es X.env:=by rfl):PA X (e::es) (z5m te t):=by
  intro pos pins s σ H Q I h
  rw [hs]
  show wpAny _ _ (spliced ((false,eval e X.env)::backTo pos (starEach es X.env))) _ _ s
  refine Calls.spliced_cons (thn (ha pins s σ H _ I h) fun u s1 hm=>?_)
  refine bq fun bG=>?_
  obtain ⟨x,H1,I1,r1,q1⟩:=hm
  exact bG (thn (hr pos pins s1 σ H1 _ I1 q1) fun us s2 ⟨xs,H2,I2,r2,q2⟩=>⟨x::xs,H2,I2,.cons r1 r2,q2⟩)
def zv3 (t:TA):TE:=fun σ H Q=>t σ H fun xs H1=>xs.length≤sizeLine∧∀ p,H1 p=none→Q (.ref p) (upd H1 p (.tup xs))
def zv8 (t:TA):TE:=fun σ H Q=>t σ H fun xs H1=>xs.length≤sizeLine∧∀ p,H1 p=none→Q (.ref p) (upd H1 p (.lst xs))
theorem zgy {x1} (h:PA X es t):PE X (.Tuple es x1 pos) (zv3 t):=by
  intro pins s σ H Q I hq
  refine wpAny_Tuple_spliced (thn (h pos pins s σ H _ I hq) fun us s1 ⟨xs,H1,I1,r,z,q⟩=>⟨by rw [← r.length];exact z,?_⟩)
  have hf:H1 s1.heap.objs.size=none:=I1.hok.fresh (Nat.le_refl _)
  refine ⟨.ref s1.heap.objs.size,upd H1 s1.heap.objs.size (.tup xs),I1.laid (t':=s1.toks) (fun b u e=>Heap.get?_push_of_some _ e) (Nat.le_refl _) ?_,rfl,q _ hf⟩
  exact ⟨z,us,r,⟨_,Heap.get?_push_size _ rfl,rfl,_,rfl⟩⟩
theorem zm0 (h:PA X es t):PE X (.List es pos) (zv8 t):=by
  intro pins s σ H Q I hq
  refine wpAny_List_spliced (thn (h pos pins s σ H _ I hq) fun us s1 ⟨xs,H1,I1,r,z,q⟩=>⟨by rw [← r.length];exact z,?_⟩)
  have hf:H1 s1.heap.objs.size=none:=I1.hok.fresh (Nat.le_refl _)
  refine ⟨.ref s1.heap.objs.size,upd H1 s1.heap.objs.size (.lst xs),I1.laid (t':=s1.toks) (fun b u e=>Heap.get?_push_of_some _ e) (Nat.le_refl _) ?_,rfl,q _ hf⟩
  exact ⟨z,us,0,r,Heap.get?_push_size _ rfl⟩
end
noncomputable abbrev Sp:=List V→Hp→VK→XK→Prop
noncomputable abbrev CXT:=List Env→Hp→Shared→XK→Value→Shared→Prop
structure Env0 (P:Program) (w:World) (K:PySem.W.Frag) (mg:Str→Option Value) (base:Heap) (A:Around) (outer:List Env) (s:Shared) (H:Hp):Prop where
  frames:A.frames=some outer
  mod:Mod K mg base
  bs:∀ b o,base.get? b=some o→s.heap.get? b=some o∧H b=none
  bsz:base.objs.size≤s.heap.objs.size
  funs:s.heap.FunFrames base outer
  frf:∀ b∈frs outer,H b=none
  hok:HOk P w H s.heap
  bare:AllBare s.gens
noncomputable def CE (outer:List Env) (P:Program) (w:World) (H:Hp) (s:Shared) (Q:VK) (u:Value) (s':Shared):Prop :=
  ∃ v H',s'.os=s.os∧AllBare s'.gens∧Un (frs outer) [] H H' s.heap s'.heap∧HOk P w H' s'.heap∧RelV v u∧Q v H'
noncomputable def CR (CX:CXT) (outer:List Env) (P:Program) (w:World) (H:Hp) (s:Shared) (Q:VK) (E:XK) (r:Result) (s':Shared):Prop :=
  match r with
  | .ok (.ret u)=>CE outer P w H s Q u s'
  | .ok _=>False
  | .error e=>CX outer H s E e s'
structure FnOk (P:Program) (w:World) (K:PySem.W.Frag) (mg:Str→Option Value) (base:Heap) (CX:CXT) (k:Nat) (f:Addr) (fd:FuncData) (ps:List Str) (sp:Sp):Prop where
  len:∀ vs H Q E,sp vs H Q E→vs.length=ps.length
  run:∀ (A:Around) (outer:List Env) (s:Shared) (H:Hp) (args:Args) (us:List Value) (vs:List V) (Q:VK) (E:XK),Room k A→Env0 P w K mg base A outer s H→BindsTo s fd args (ps.zip us)→Vals vs us→sp vs H Q E →
    codeAny (model P w) A (.call (.ref f) args) (CR CX outer P w H s Q E) s
theorem FnOk.imp {P:Program} {w:World} {K:PySem.W.Frag} {mg:Str→Option Value} {base:Heap} {CX:CXT} {k:Nat} {f:Addr} {fd:FuncData} {ps:List Str} {sp sp':Sp} (F:FnOk P w K mg base CX k f fd ps sp)
    (h:∀ vs H Q E,sp' vs H Q E→sp vs H Q E):FnOk P w K mg base CX k f fd ps sp' :=
  ⟨fun vs H Q E q=>F.len vs H Q E (h _ _ _ _ q),fun A outer s H args us vs Q E hr he hb hv hs=>F.run A outer s H args us vs Q E hr he hb hv (h _ _ _ _ hs)⟩
section
variable {X:Cx} {pins:List (Addr×Obj)} {σ:St} {H:Hp} {s s':Shared}
theorem Inv.env0 (I:Inv X pins σ H s):Env0 X.prog X.w X.K X.mg X.base X.A X.stack s H :=
  ⟨I.ok.frames,I.ok.mod,I.bs,Nat.le_trans I.ok.bsz I.sz,I.stack,I.stkFree,I.hok,I.bare⟩
theorem Inv.after {Q:VK} {u:Value} (I:Inv X pins σ H s) (h:CE X.stack X.prog X.w H s Q u s'):EP X pins σ Q u s':=by
  obtain ⟨v,H',os,bare,un,hok,r,q⟩:=h
  obtain ⟨hh,g,d,t,os'⟩:=s'
  obtain rfl:os'=s.os:=os
  exact ⟨v,H',I.call (h':=hh) (g':=g) (d':=d) (t':=t) (ch:=[]) un hok bare (fun b z=>absurd z (by simp)),r,q⟩
end
def zpw (sp:Sp) (dvs:List V) (E:XK) (t:TA):TE:=fun σ H Q=>t σ H fun vs H1=>sp (vs++dvs) H1 Q E
noncomputable def Binds (K:PySem.W.Frag) (fd:FuncData) (ps:List Str) (ds:List Value):Prop :=
  ∀ (s:Shared) (us:List Value),K.In s.heap→(us++ds).length=ps.length→BindsTo s fd ⟨us,[]⟩ (ps.zip (us++ds))
theorem Binds.all {K:PySem.W.Frag} {fd:FuncData} {ps:List Str} (h:∀ us:List Value,us.length=ps.length→bindArgs fd ⟨us,[]⟩=pure (ps.zip us)):Binds K fd ps []:=fun s us _ hl=>by
  rw [List.append_nil] at hl ⊢
  exact .of_eq (h us hl)
def zeb (CX:CXT) (X:Cx) (E:XK):Prop:=∀ (pins:List (Addr×Obj)) (σ:St) (H:Hp) (s:Shared) (e:Value) (s':Shared),Inv X pins σ H s→CX X.stack H s E e s'→X.xe e s'
section
variable {X:Cx} {CX:CXT} {k:Nat} {f C:Addr} {fd:FuncData} {ps:List Str} {sp:Sp} {dvs:List V} {ds:List Value} {E:XK} {x m:Str} {p pos apos:Pos} {e o:Expr} {es:List Expr} {ta:TE} {t:TA}
theorem zq1 {pins:List (Addr×Obj)} {σ:St} {H:Hp} {s:Shared} {Q:VK} {us:List Value} {vs:List V} (F:FnOk X.prog X.w X.K X.mg X.base CX k f fd ps sp) (hr:Room k X.A) (hb:Binds X.K fd ps ds) (hd:Vals dvs ds) (hx:zeb CX X E)
    (I:Inv X pins σ H s) (r:Vals vs us) (h:sp (vs++dvs) H Q E):wpAny (model X.prog X.w) X.A (call (.ref f) us) (EP X pins σ Q) X.xe s:=by
  have r2:Vals (vs++dvs) (us++ds):=r.append hd
  have hl:(us++ds).length=ps.length:=by rw [← r2.length];exact F.len _ _ _ _ h
  refine wpAny_call (codeAny_mono (F.run X.A X.stack s H ⟨us,[]⟩ (us++ds) (vs++dvs) Q E hr I.env0 (hb s us I.kIn hl) r2 h) fun r s' hq=>?_)
  cases r with
  | error e=>exact hx pins σ H s e s' I hq
  | ok fl =>
    cases fl with
    | ret u=>exact I.after hq
    | next=>exact False.elim hq
    | brk=>exact False.elim hq
    | cont=>exact False.elim hq
theorem znv (F:FnOk X.prog X.w X.K X.mg X.base CX k f fd ps sp) (hr:Room k X.A) (hg:Gl X x) (hm:X.mg x=some (.ref f)) (hk:PySem.W.keepIn X.K (.ref f)=true) (hb:Binds X.K fd ps ds) (hd:Vals dvs ds) (hx:zeb CX X E)
    (ha:PA X (e::es) t) (hdb:(x==("__debug__" : Str))=false:=by decide) (he:starEach (e::es) X.env=(false,eval e X.env)::starEach es X.env:=by rfl) (hpl:(backTo pos (starEach es X.env)).any (·.1)=false:=by rfl) :
    PE X (.Call (.Name x p) (e::es) [] pos) (zpw sp dvs E t):=by
  intro pins s σ H Q I h
  refine wpAny_Call_Name_kw (z7c I hg hm ?_ hdb)
  refine PySem.W.callWith_K (h₀:=X.base) I.ok.mod.kin hk (thn (ha pos pins s σ H _ I h) fun us s1 ⟨vs,H1,I1,r,q⟩=>⟨I1.kIn,?_⟩) he hpl
  exact zq1 F hr hb hd hx I1 r q
end
section
variable {X:Cx} {CX:CXT} {k:Nat} {f C:Addr} {fd:FuncData} {ps ks:List Str} {sp:Sp} {E:XK} {x m:Str} {p pos apos kpos:Pos} {e o:Expr} {es:List Expr} {kws:List Keyword} {te ta:TE} {t tk:TA} {nm:Option Str}
variable {g:List Value→List Value→List Value} {gV:List V→List V→List V}
end
structure FnScope (N P:List Str) (sc:Scope):Prop where
  kind:sc.kind=.function
  co:sc.isCoroutine=false
  gen:sc.isGenerator=false
  nd:N.Nodup
  pre:N.take P.length=P
  par:∀ x∈P,sc.names.lookup x=some .local∨sc.names.lookup x=some .cell
  nofree:∀ y∈sc.names,y.2≠.free
theorem zbh {kindOf:Str→Option NameKind} {x:Str}:∀ {binds:List (Str×Value)} {m:Str→Option Value},(∀ v,(x,v)∉binds)→bindL kindOf binds m x=m x
  | [],_,_=>rfl
  | (n,v)::r,m,h=>by
    unfold bindL
    rw [zbh fun w hw=>h w (List.mem_cons_of_mem _ hw)]
    split
    · have:x≠n:=by rintro rfl;exact h v List.mem_cons_self
      simp [this]
    · rfl
theorem zbj {kindOf:Str→Option NameKind} {x:Str}:∀ {binds:List (Str×Value)} {m:Str→Option Value},(∀ v,(x,v)∉binds)→bindC kindOf binds m x=m x
  | [],_,_=>rfl
  | (n,v)::r,m,h=>by
    unfold bindC
    rw [zbj fun w hw=>h w (List.mem_cons_of_mem _ hw)]
    split
    · rfl
    · have:x≠n:=by rintro rfl;exact h v List.mem_cons_self
      simp [this]
theorem zbi {kindOf:Str→Option NameKind} {x:Str} {v:Value}:∀ {P:List Str} {vs:List Value} {i:Nat} {m:Str→Option Value},P.Nodup→P[i]?=some x→vs[i]?=some v→kindOf x=some .local →
    bindL kindOf (P.zip vs) m x=some v
  | [],_,_,_,_,h,_,_=>by simp at h
  | _::_,[],_,_,_,_,h,_=>by simp at h
  | p::P,w::vs,0,m,nd,h1,h2,hk=>by
    simp at h1 h2;subst h1;subst h2
    show bindL kindOf ((p,w)::P.zip vs) m p=_
    unfold bindL
    rw [zbh fun v hv=>(List.nodup_cons.mp nd).1 (List.of_mem_zip hv).1,if_pos hk]
    simp
  | p::P,w::vs,i+1,m,nd,h1,h2,hk=>by
    show bindL kindOf ((p,w)::P.zip vs) m x=_
    unfold bindL
    exact zbi (i:=i) (List.nodup_cons.mp nd).2 (by simpa using h1) (by simpa using h2) hk
theorem zbk {kindOf:Str→Option NameKind} {x:Str} {v:Value}:∀ {P:List Str} {vs:List Value} {i:Nat} {m:Str→Option Value},P.Nodup→P[i]?=some x→vs[i]?=some v→kindOf x≠some .local →
    bindC kindOf (P.zip vs) m x=some v
  | [],_,_,_,_,h,_,_=>by simp at h
  | _::_,[],_,_,_,_,h,_=>by simp at h
  | p::P,w::vs,0,m,nd,h1,h2,hk=>by
    simp at h1 h2;subst h1;subst h2
    show bindC kindOf ((p,w)::P.zip vs) m p=_
    unfold bindC
    rw [zbj fun v hv=>(List.nodup_cons.mp nd).1 (List.of_mem_zip hv).1,if_neg hk]
    simp
  | p::P,w::vs,i+1,m,nd,h1,h2,hk=>by
    show bindC kindOf ((p,w)::P.zip vs) m x=_
    unfold bindC
    exact zbk (i:=i) (List.nodup_cons.mp nd).2 (by simpa using h1) (by simpa using h2) hk
noncomputable def z90 (N:List Str) (vs:List V):St:=vs.map some++List.replicate (N.length - vs.length) none
noncomputable def z3w (CX:CXT) (P:Program) (w:World) (K:PySem.W.Frag) (mg:Str→Option Value) (base:Heap) (N:List Str) (qual:Str) (scope:Scope) (f:Addr) (cd:Value) (A:Around) (outer:List Env) (s:Shared) (H:Hp) (E:XK):Cx where
  prog:=P
  w:=w
  K:=K
  mg:=mg
  base:=base
  A:=A.deeper (envOfC qual scope s.heap.objs.size f cd)
  N:=N
  s₀:=s
  H₀:=H
  env:=envOfC qual scope s.heap.objs.size f cd
  outer:=outer
  stack:=envOfC qual scope s.heap.objs.size f cd::outer
  ex:=[]
  calm:=true
  fn:=fun _=>true
  pn:=[]
  xe:=fun e s'=>wpAny (model P w) (A.deeper (envOfC qual scope s.heap.objs.size f cd)) (leaving (envOfC qual scope s.heap.objs.size f cd) e) (fun _ s''=>CX outer H s E e s'') (fun e' s''=>CX outer H s E e' s'') s'
theorem ze8 {sc:Scope} {n:Nat} {x:Str} (h:sc.names.lookup x=some .cell):∃ c,(cellsFrom n sc.names []).lookup x=some c:=by
  have q:=PySem.W.cellsFrom_some sc.names n [] (.inl h)
  exact Option.isSome_iff_exists.mp q
theorem zhp {CX:CXT} {P:Program} {w:World} {K:PySem.W.Frag} {mg:Str→Option Value} {base:Heap} {N ps:List Str} {qual:Str} {scope:Scope} {f:Addr} {cd:Value} {A:Around} {outer:List Env} {s s1:Shared} {H:Hp} {E:XK} {us:List Value} {vs:List V}
    (S:FnScope N ps scope) (hd:A.handled=none) (e0:Env0 P w K mg base A outer s H) (hl:vs.length=ps.length) (r:Vals vs us)
    (x:InCallC s s.heap.objs.size (bindL (envOfC qual scope s.heap.objs.size f cd).kindOf (ps.zip us) fun _=>none) (cellsFrom (s.heap.objs.size+1) scope.names []) (bindC (envOfC qual scope s.heap.objs.size f cd).kindOf (ps.zip us) fun _=>none) s1) :
    Inv (z3w CX P w K mg base N qual scope f cd A outer s H E) [] (z90 N vs) H s1:=by
  have hpl:ps.length≤N.length:=by have:=congrArg List.length S.pre;rw [List.length_take] at this;omega
  obtain ⟨h1,tk,rfl,hk⟩:=x.done
  have noA:∀ b:Addr,b∉(z3w CX P w K mg base N qual scope f cd A outer s H E).ex:=fun b z=>absurd (show b∈([]:List Addr) from z) (by simp)
  refine ⟨⟨e0.mod,S.kind,rfl,rfl,Nat.le_refl _,fun y z c h1 h2=>?_,fun y hy=>?_,fun y c _ h=>?_,fun _=>hd,Around.frames_deeper e0.frames,.inr ⟨rfl,rfl⟩,fun b z=>absurd z (noA b),e0.bs,e0.bsz,fun b _ _=>noA b,fun b z=>absurd z (noA b),e0.funs,e0.frf⟩,
    rfl,e0.bare,Un.kept hk,⟨_,x.toInCall.ns,fun i y v h1 h2 h3=>?_⟩,fun y c h=>⟨_,x.cell y c h⟩,e0.hok.fresh (Nat.le_refl _),fun y c h=>?_,fun p hp=>absurd (show p∈([]:List (Addr×Obj)) from hp) (by simp),e0.hok.kept hk,?_⟩
  · exact name_of_addr x.apart (PySem.mem_of_lookup h1) (PySem.mem_of_lookup h2)
  · have hy:scope.names.lookup y=some .cell∨scope.names.lookup y=some .free:=hy
    rcases hy with hy | hy
    · exact ze8 hy
    · exact absurd rfl (S.nofree _ (PySem.mem_of_lookup hy))
  · exact Nat.le_of_lt (x.above y c (PySem.mem_of_lookup h))
  · have hi:i<vs.length:=by
      unfold z90 at h2
      by_cases hi:i<vs.length
      · exact hi
      · rw [List.getElem?_append_right (by simpa using hi)] at h2
        rw [List.getElem?_replicate] at h2
        split at h2 <;> cases h2
    have ha:vs[i]?=some v:=by
      unfold z90 at h2
      rw [List.getElem?_append_left (by simpa using hi),List.getElem?_map] at h2
      cases e:vs[i]? with
      | none=>rw [e] at h2;cases h2
      | some a=>rw [e] at h2;cases h2;rfl
    obtain ⟨u,hu,rv⟩:=r.get ha
    have hp:ps[i]?=some y:=by
      rw [← S.pre,List.getElem?_take_of_lt (by omega)];exact h1
    have ndP:ps.Nodup:=by rw [← S.pre];exact S.nd.sublist (List.take_sublist _ _)
    refine ⟨u,rv,?_⟩
    rcases S.par y (List.mem_of_getElem? hp) with k | k
    · exact .inl ⟨k,zbi ndP hp hu k⟩
    · obtain ⟨c,e⟩:=ze8 (n:=s.heap.objs.size+1) k
      refine .inr ⟨.inl k,c,e,?_⟩
      have q:=x.cell y c e
      rw [zbk ndP hp hu (by show scope.names.lookup y≠_;rw [k];decide)] at q
      exact q
  · exact e0.hok.fresh (Nat.le_of_lt (x.above y c (PySem.mem_of_lookup h)))
  · unfold z90
    show _=N.length
    rw [List.length_append,List.length_map,List.length_replicate]
    omega
theorem zs3 {CX:CXT} {P:Program} {w:World} {K:PySem.W.Frag} {mg:Str→Option Value} {base:Heap} {k:Nat} {f:Addr} {name qual:Str} {params:Arguments} {body:List Stmt} {scope:Scope} {dV kV doc pm cdv ct oc:Value} {an od:Option Addr}
    {osl:Array (Option Value)} {N ps:List Str} {sp:Sp} (lk:K.lookup f=some ⟨oc,od,.func (PySem.W.fnOf name qual params body scope dV kV doc pm an cdv ct),osl⟩) (hcd:PySem.W.codeIn K cdv qual=true) (S:FnScope N ps scope)
    (len:∀ vs H Q E,sp vs H Q E→vs.length=ps.length)
    (hbody:∀ (A:Around) (outer:List Env) (s:Shared) (H:Hp) (vs:List V) (Q:VK) (E:XK),Room k (A.deeper (envOfC qual scope s.heap.objs.size f cdv))→sp vs H Q E →
      ∃ t,PSs (z3w CX P w K mg base N qual scope f cdv A outer s H E) body t∧t { nx:=fun _ H'=>Q .non H',rt:=Q } (z90 N vs) H) :
    FnOk P w K mg base CX (k+1) f (PySem.W.fnOf name qual params body scope dV kV doc pm an cdv ct) ps sp:=by
  refine ⟨len,fun A outer s H args us vs Q E hr e0 hb r hsp=>?_⟩
  have hl:=len _ _ _ _ hsp
  have KX:K.In s.heap:=e0.mod.kin.keeps fun b o e=>(e0.bs b o e).1
  have lim:s.heap.NoLimit:=e0.mod.nolimit.keeps fun b o e=>(e0.bs b o e).1
  have hkind:∀ y∈ps.zip us,scope.names.lookup y.1=some .local∨(scope.names.lookup y.1=some .cell∧((cellsFrom (s.heap.objs.size+1) scope.names []).lookup y.1).isSome=true):=fun ⟨n,v⟩ hy=>by
    rcases S.par n (List.of_mem_zip hy).1 with q | q
    · exact .inl q
    · exact .inr ⟨q,PySem.W.cellsFrom_some _ _ _ (.inl q)⟩
  refine codeAny_call_function hr.depth (KX _ _ lk) rfl S.co S.gen rfl (PySem.W.codeRec_of KX hcd) (hb _ _ _ _ ?_)
  refine wpAny_newFunctionEnv_cells S.kind hkind fun env he s1 x=>?_
  subst he
  refine ⟨lim.keeps x.toInCall.keep,codeAny_func ?_⟩
  refine bq fun bG=>?_
  obtain ⟨t,ht,hq⟩:=hbody A outer s H vs Q E (hr.deeper _) hsp
  have I:Inv (z3w CX P w K mg base N qual scope f cdv A outer s H E) [] (z90 N vs) H s1:=zhp S hr.hd e0 hl r x
  refine bG (wpAny_mono (ht [] s1 (z90 N vs) H _ I hq) (fun fl s' hs=>?_) fun e s' hs=>hs)
  have fin:∀ {σ':St} {H':Hp} {v:V} {u:Value},Inv (z3w CX P w K mg base N qual scope f cdv A outer s H E) [] σ' H' s'→RelV v u→Q v H'→CE outer P w H s Q u s' :=
    fun {σ' H' v u} J rv q=>⟨v,H',J.os,J.bare,J.base,J.hok,rv,q⟩
  cases fl with
  | ret u =>
    obtain ⟨v,σ',H',J,rv,q⟩:=hs
    exact fin J rv q
  | next =>
    obtain ⟨σ',H',J,q⟩:=hs
    exact fin (v:=V.non) (u:=Value.none) J rfl q
  | brk =>
    obtain ⟨_,_,_,q⟩:=hs
    exact False.elim q
  | cont =>
    refine bq fun bG=>?_
    obtain ⟨_,_,_,q⟩:=hs
    exact bG (False.elim q)
section
variable {X:Cx} {x:Str} {p pos:Pos} {e:Expr} {es:List Expr} {t:TA} {id T:String} {r:List V→Hp→VK→Prop}
def tCB (r:List V→Hp→VK→Prop) (t:TA):TE:=fun σ H Q=>t σ H fun vs H1=>r vs H1 Q
theorem z1u (hc:z3u X (.builtin id) r) (hg:Gl X x) (hm:X.mg x=none) (hv:bootBuiltins x=some (.builtin id)) (ha:PA X (e::es) t) (hn:x ≠ "__name__" := by decide) (hdb:(x==("__debug__" : Str))=false:=by decide)
    (he:starEach (e::es) X.env=(false,eval e X.env)::starEach es X.env:=by rfl) (hpl:(backTo pos (starEach es X.env)).any (·.1)=false:=by rfl):PE X (.Call (.Name x p) (e::es) [] pos) (tCB r t):=by
  intro pins s σ H Q I h
  refine wpAny_Call_Name_kw (z62 I hg hm hv ?_ hn hdb)
  exact PyProof.Rows.callWith_builtin1 (thn (ha pos pins s σ H _ I h) fun us s1 ⟨vs,H1,I1,r1,q1⟩=>hc pins s1 σ H1 vs us Q I1 r1 q1) he hpl
theorem z44 (hc:z3u X (.type T) r) (hg:Gl X x) (hm:X.mg x=none) (hv:bootBuiltins x=some (.type T)) (ha:PA X (e::es) t) (hn:x ≠ "__name__" := by decide) (hdb:(x==("__debug__" : Str))=false:=by decide)
    (he:starEach (e::es) X.env=(false,eval e X.env)::starEach es X.env:=by rfl) (hpl:(backTo pos (starEach es X.env)).any (·.1)=false:=by rfl):PE X (.Call (.Name x p) (e::es) [] pos) (tCB r t):=by
  intro pins s σ H Q I h
  refine wpAny_Call_Name_kw (z62 I hg hm hv ?_ hn hdb)
  exact PyProof.Rows.callWith_type1 (thn (ha pos pins s σ H _ I h) fun us s1 ⟨vs,H1,I1,r1,q1⟩=>hc pins s1 σ H1 vs us Q I1 r1 q1) he hpl
end
end L2
namespace HT
open PySem PyProof.Rows
section
open PySem.SeqAt
open PySem.AutoSeq1 (wpAny_loadPart')
open PySem.MeetsSeq PySem.MeetsSeq2 PySem.MeetsSeq3
end
section
variable {prog:Program} {w:World} {A:Around} {E:Value→Shared→Prop} {s:Shared}
theorem cat_tup {t b:Addr} {vs ws:List Value} {Q:Value→Shared→Prop} (ht:IsTup s.heap t vs.toArray) (hb:IsTup s.heap b ws.toArray) (hv:vs≠[])
    (h1:ws=[]→Q (.ref t) s) (h2:ws≠[]→Q (.ref s.heap.objs.size) { s with heap:=s.heap.push { cls:=.type "tuple",data:=.seq (vs++ws).toArray } })
    (hsz:vs.length+ws.length≤sizeLine):wpAny (model prog w) A (binaryOp .Add (.ref t) (.ref b)) Q E s:=by
  obtain ⟨⟨cls,dd,data,sl⟩,ho,hc,n,hd⟩:=id ht
  obtain ⟨⟨cls2,dd2,data2,sl2⟩,ho2,hc2,n2,hd2⟩:=id hb
  simp only at hc hd hc2 hd2
  subst hc hd hc2 hd2
  have e:vs.toArray++ws.toArray=(vs++ws).toArray:=by simp
  by_cases hw:ws=[]
  · exact concat_meets ⟨_,ho,rfl⟩ ⟨_,ho2,rfl⟩ noFill_tuple_add seq_tuple_add PySem.F.slot_tuple_add PySem.F.entry_tuple_add (PySem.F.args_tuple_add_2 _ _)
      (tuple_addW1 t b vs.toArray ws.toArray n n2 dd dd2 sl sl2 (by simpa using hv) (by simp [hw])) ⟨ho,ho2,h1 hw⟩
  · refine concat_meets ⟨_,ho,rfl⟩ ⟨_,ho2,rfl⟩ noFill_tuple_add seq_tuple_add PySem.F.slot_tuple_add PySem.F.entry_tuple_add (PySem.F.args_tuple_add_2 _ _)
      (tuple_addW2 t b vs.toArray ws.toArray n n2 dd dd2 sl sl2 (by simpa using hv) (by simpa using hw) (by rw [List.size_toArray,List.size_toArray];exact hsz)) ⟨ho,ho2,?_⟩
    rw [e]
    exact h2 hw
noncomputable def sIx (n d:Nat):Option Int→Nat
  | none=>d
  | some v=>if v<0 then (v+(n:Int)).toNat else min v.toNat n
theorem sIx_none (n d:Nat):sIx n d none=d:=rfl
theorem sIx_nat (n d k:Nat):sIx n d (some (k:Int))=min k n:=by
  show (if (k:Int)<0 then ((k:Int)+(n:Int)).toNat else min (k:Int).toNat n)=min k n
  rw [if_neg (by omega),Int.toNat_natCast]
theorem zpz (n d:Nat) (hd:d≤n) (o:Option Int):sIx n d o≤n:=by
  cases o with
  | none=>exact hd
  | some v =>
    show (if v<0 then (v+(n:Int)).toNat else min v.toNat n)≤n
    by_cases hv:v<0
    · rw [if_pos hv];omega
    · rw [if_neg hv];exact Nat.min_le_right _ _
theorem zic (v:Int) (n d:Nat):(if v<0 then max (v+(n:Int)) 0 else min v (n:Int))=((sIx n d (some v):Nat):Int):=by
  show (if v<0 then max (v+(n:Int)) 0 else min v (n:Int))=(((if v<0 then (v+(n:Int)).toNat else min v.toNat n):Nat):Int)
  by_cases hv:v<0
  · simp only [if_pos hv];omega
  · simp only [if_neg hv];omega
theorem zfb (lo hi:Option Int) (n:Nat):Builtin.Slice.sliceAdjust lo hi 1 (n:Int)=(((sIx n 0 lo:Nat):Int),((sIx n n hi:Nat):Int)):=by
  have h1:¬ ((1:Int)<0):=by omega
  unfold Builtin.Slice.sliceAdjust
  simp only [h1,if_false]
  refine Prod.ext ?_ ?_
  · cases lo with
    | none=>rfl
    | some v=>exact zic v n 0
  · cases hi with
    | none=>rfl
    | some v=>exact zic v n n
theorem zes (i j:Nat):Builtin.Slice.slicePlaces (i:Int) (j:Int) 1=j - i:=by
  unfold Builtin.Slice.slicePlaces
  have h1:(1:Int) > 0:=by omega
  simp only [h1,if_true,Int.ediv_one]
  split <;> omega
theorem z8i {v:Value} {o:Option Int} {Q:Option Int→Shared→Prop} (p:IsPart v o) (h:Q o s):wpAny (model prog w) A (Builtin.Slice.slicePartIndex v) Q E s:=by
  cases p with
  | none=>exact slicePart_none h
  | int i t=>exact slicePart_int h
theorem z68 {sl:Addr} {vl vu:Value} {lo hi:Option Int} {n:Nat} {Q:Int×Int×Nat→Shared→Prop} (hs:s.heap.IsSliceOf sl vl vu .none) (pl:IsPart vl lo) (pu:IsPart vu hi)
    (h:Q (((sIx n 0 lo:Nat):Int),1,sIx n n hi - sIx n 0 lo) s):wpAny (model prog w) A (Builtin.Slice.sliceApplied (.ref sl) (pure (n:Int))) Q E s:=by
  obtain ⟨os,hos,hcs,hds⟩:=id hs
  unfold Builtin.Slice.sliceApplied Builtin.Slice.sliceFields
  refine wpAny_bind (wpAny_bind (wpAny_field hos hds (x:=vl) rfl (wpAny_bind (wpAny_field hos hds (x:=vu) rfl (wpAny_bind (wpAny_field hos hds (x:=.none) rfl (wpAny_pure ?_)))))))
  refine wpAny_bind (slicePart_none ?_)
  show wpAny _ _ (if ((1:Int)==0)=true then _ else _) _ _ s
  rw [if_neg (by decide)]
  refine wpAny_bind (z8i pl (wpAny_bind (z8i pu (wpAny_bind (wpAny_pure ?_)))))
  show wpAny _ _ (match Builtin.Slice.sliceAdjust lo hi 1 (n:Int) with | (lo,hi)=>pure (lo,(1:Int),Builtin.Slice.slicePlaces lo hi 1)) _ _ s
  rw [zfb lo hi n]
  show wpAny _ _ (pure (((sIx n 0 lo:Nat):Int),(1:Int),Builtin.Slice.slicePlaces ((sIx n 0 lo:Nat):Int) ((sIx n n hi:Nat):Int) 1)) _ _ s
  rw [zes]
  exact wpAny_pure h
theorem zk4 (xs:Array Value) (i k:Nat):((List.range k).filterMap fun (m:Nat)=>xs[((i:Int)+(m:Int)*1).toNat]?).toArray=((xs.toList.drop i).take k).toArray:=by
  have e:(fun (m:Nat)=>xs[((i:Int)+(m:Int)*1).toNat]?)=fun m=>xs[i+m]?:=by
    funext m
    have:((i:Int)+(m:Int)*1).toNat=i+m:=by omega
    rw [this]
  rw [e]
  have:=pick_run xs i k
  rw [List.filterMap_map] at this
  have e2:((fun x=>xs[x]?) ∘ fun x=>i+x)=fun m=>xs[i+m]?:=rfl
  rw [e2] at this
  rw [this]
theorem getItem_tuple_cut {t sl:Addr} {items:Array Value} {vl vu:Value} {lo hi:Option Int} {Q:Value→Shared→Prop} (ht:IsTup s.heap t items) (hs:s.heap.IsSliceOf sl vl vu .none) (pl:IsPart vl lo) (pu:IsPart vu hi)
    (hw:¬ (sIx items.size 0 lo=0∧sIx items.size items.size hi=items.size))
    (h:Q (.ref s.heap.objs.size) { s with heap:=s.heap.push { cls:=.type "tuple",data:=.seq ((items.toList.drop (sIx items.size 0 lo)).take (sIx items.size items.size hi - sIx items.size 0 lo)).toArray } })
    (hsz:items.size≤sizeLine):wpAny (model prog w) A (getItem (.ref t) (.ref sl)) Q E s:=by
  have htake:sizeOk (.seq ((items.toList.drop (sIx items.size 0 lo)).take (sIx items.size items.size hi - sIx items.size 0 lo)).toArray):=by
    show ((items.toList.drop (sIx items.size 0 lo)).take (sIx items.size items.size hi - sIx items.size 0 lo)).toArray.size≤sizeLine
    rw [List.size_toArray,List.length_take,List.length_drop,Array.length_toList]
    omega
  have hj:sIx items.size items.size hi≤items.size:=zpz _ _ (Nat.le_refl _) hi
  obtain ⟨os,hos,hcs,hds⟩:=id hs
  have hTs:s.TypeIs (.ref sl) "slice" := ⟨os,hos,hcs⟩
  unfold getItem
  try with_reducible refine wpAny_holding ?_
  first | refine wpAny_bind (wpAny_pure ?_) | skip
  refine wpAny_bind (wpAny_sequenceKey ht.typeIs (by decide) ?_)
  refine wpAny_bind (wpAny_callSpecial?_slot (name:=Str.ofString "__getitem__") ht.typeIs PyProof.Rows.slot_tuple_getitem
    (wpAny_call_entry PyProof.Rows.slot_tuple_getitem ht.typeIs entry_tuple_getitem ?_ (args_tuple_getitem _ _)))
  show wpAny _ _ (Builtin.Tuple.tupleItemsOf (.ref t) >>= _) _ _ s
  refine wpAny_bind (tupleItemsOf_ ht ?_)
  refine wpAny_bind (wpAny_typeOf hTs ?_)
  rw [if_pos (by decide)]
  refine wpAny_bind (z68 hs pl pu ?_)
  have hno:¬ ((((sIx items.size 0 lo:Nat):Int)==0&&(1:Int)==1&&(sIx items.size items.size hi - sIx items.size 0 lo)==items.size)=true):=by
    intro q
    rw [Bool.and_eq_true,Bool.and_eq_true] at q
    have q1:((sIx items.size 0 lo:Nat):Int)=0:=eq_of_beq q.1.1
    have q2:sIx items.size items.size hi - sIx items.size 0 lo=items.size:=eq_of_beq q.2
    exact hw ⟨by omega,by omega⟩
  show wpAny _ _ (if (((sIx items.size 0 lo:Nat):Int)==0&&(1:Int)==1&&(sIx items.size items.size hi - sIx items.size 0 lo)==items.size)=true then _ else _) _ _ s
  rw [if_neg hno,zk4]
  first
    | exact wpAny_bind (m:=Builtin.Tuple.tupleExact _) (wpAny_newObj_type (wpAny_pure ⟨_,rfl,wpAny_pure h⟩) htake)
    | exact wpAny_bind (m:=Builtin.Tuple.tupleExact _) (wpAny_newObj_type (wpAny_bind (wpAny_pure (wpAny_pure ⟨_,rfl,wpAny_pure h⟩))) htake)
    | exact wpAny_bind (wpAny_bind (m:=Builtin.Tuple.tupleExact _) (wpAny_newObj_type (wpAny_pure (wpAny_pure ⟨_,rfl,wpAny_pure h⟩)) htake))
    | exact wpAny_bind (wpAny_bind (m:=Builtin.Tuple.tupleExact _) (wpAny_newObj_type (wpAny_pure ⟨_,rfl,wpAny_pure h⟩) htake))
end
end HT
namespace L2
open PySem PySem.Spec PyProof.Rows
noncomputable abbrev TO:=St→Hp→(Option Int→Hp→Prop)→Prop
noncomputable def PO (X:Cx) (e:Option Expr) (t:TO):Prop :=
  ∀ (pins:List (Addr×Obj)) (s:Shared) (σ:St) (H:Hp) (Q:Option Int→Hp→Prop),Inv X pins σ H s→t σ H Q →
    wpAny (model X.prog X.w) X.A (evalPart e X.env) (fun u s'=>∃ o H',Inv X pins σ H' s'∧IsPart u o∧Q o H') X.xe s
noncomputable def zn3:TO:=fun _ H Q=>Q none H
noncomputable def ztd (t:TE):TO:=fun σ H Q=>t σ H fun x H1=>∃ i,x=.int i∧Q (some i) H1
theorem z4b {ns:List Int}:∀ {us:List Value},Vals (ns.map V.int) us→IntsAre us ns:=by
  induction ns with
  | nil=>intro us r;rw [List.map_nil] at r;cases r;exact .nil
  | cons n ns ih =>
    intro us r
    rw [List.map_cons] at r
    cases r with
    | cons r1 r2 =>
      refine bq fun bG=>?_
      obtain ⟨t,e⟩:=r1
      subst e
      exact bG (.cons n t (ih r2))
section
variable {X:Cx} {e:Expr} {te:TE} {lo hi:Option Expr} {tl th:TO} {pos p2:Pos}
theorem znk:PO X none zn3:=by
  intro pins s σ H Q I h
  rw [evalPart_none]
  exact wpAny_pure ⟨none,H,I,.none,h⟩
theorem znj (h:PE X e te):PO X (some e) (ztd te):=by
  intro pins s σ H Q I hw
  rw [evalPart_some]
  refine thn (h pins s σ H _ I hw) fun u s1 hm=>?_
  refine bq fun bG=>?_
  obtain ⟨x,H1,I1,r1,q1⟩:=hm
  refine bG (bq fun bG=>?_)
  obtain ⟨i,rfl,q⟩:=q1
  obtain ⟨t,rfl⟩:=r1
  exact bG (⟨some i,H1,I1,.int i t,q⟩)
noncomputable def SlR (X:Cx) (r:V→Option Int→Option Int→Hp→VK→Prop):Prop :=
  ∀ (pins:List (Addr×Obj)) (s:Shared) (σ:St) (H:Hp) (x:V) (v vl vu:Value) (lo hi:Option Int) (sl:Addr) (Q:VK),Inv X pins σ H s→RelV x v→s.heap.IsSliceOf sl vl vu .none→IsPart vl lo→IsPart vu hi→r x lo hi H Q →
    ∃ T id,typeLookup (.type T) "__getitem__" = pure (some (.builtin id))∧s.TypeIs v T∧wpAny (model X.prog X.w) X.A (getItem v (.ref sl)) (EP X pins σ Q) X.xe s
theorem SlR.or {r r':V→Option Int→Option Int→Hp→VK→Prop} (h:SlR X r) (h':SlR X r'):SlR X (fun x lo hi H Q=>r x lo hi H Q∨r' x lo hi H Q):=by
  intro pins s σ H x v vl vu lo hi sl Q I rx hs pl pu q
  rcases q with q | q
  · exact h pins s σ H x v vl vu lo hi sl Q I rx hs pl pu q
  · exact h' pins s σ H x v vl vu lo hi sl Q I rx hs pl pu q
def tSl (r:V→Option Int→Option Int→Hp→VK→Prop) (te:TE) (tl th:TO):TE:=fun σ H Q=>te σ H fun x H1=>tl σ H1 fun l H2=>th σ H2 fun u H3=>r x l u H3 Q
theorem zk7 {r:V→Option Int→Option Int→Hp→VK→Prop} (hr:SlR X r) (he:PE X e te) (hl:PO X lo tl) (hu:PO X hi th):PE X (.Subscript e (.Slice lo hi none p2) pos) (tSl r te tl th):=by
  intro pins s σ H Q I h
  refine Subscript_ (thn (he pins s σ H _ I h) fun v s1 hm=>?_)
  refine bq fun bG=>?_
  obtain ⟨x,H1,I1,r1,q1⟩:=hm
  refine bG (wpAny_Slice (thn (hl pins s1 σ H1 _ I1 q1) fun vl s2 ⟨l,H2,I2,pl,q2⟩=>thn (hu pins s2 σ H2 _ I2 q2) fun vu s3 hm=>?_))
  obtain ⟨u,H3,I3,pu,q3⟩:=hm
  rw [evalPart_none]
  refine wpAny_pure ?_
  have I4:Inv X pins σ H3 { s3 with heap:=s3.heap.push { cls:=.type "slice",data:=.fields #[vl,vu,.none] } }:=I3.kept (t':=s3.toks) fun b ob q=>Heap.get?_push_of_some _ q
  obtain ⟨T,id,hT,ht,hg⟩:=hr pins { s3 with heap:=s3.heap.push { cls:=.type "slice",data:=.fields #[vl,vu,.none] } } σ H3 x v vl vu l u s3.heap.objs.size Q I4 r1 (Heap.IsSliceOf.new ..) pl pu q3
  show wpAny (model X.prog X.w) X.A (subscriptTail e (.Slice lo hi none p2) v (.ref s3.heap.objs.size)) (EP X pins σ Q) X.xe { s3 with heap:=s3.heap.push { cls:=.type "slice",data:=.fields #[vl,vu,.none] } }
  exact tail_any (ops:=[.ref s3.heap.objs.size,v]) ht hT hg (by with_unfolding_all rfl)
noncomputable def zj1 (xs:List V) (lo hi:Option Int):List V:=(xs.drop (HT.sIx xs.length 0 lo)).take (HT.sIx xs.length xs.length hi - HT.sIx xs.length 0 lo)
theorem z7p (xs:List V) (lo hi:Option Int):(zj1 xs lo hi).length≤xs.length:=by
  unfold zj1
  rw [List.length_take,List.length_drop]
  omega
def zvb (K:PySem.W.Frag):V→Option Int→Option Int→Hp→VK→Prop:=fun x lo hi H Q=>∃ a xs,x=.ref a∧SqT K H a xs ∧
  ¬ (HT.sIx xs.length 0 lo=0∧HT.sIx xs.length xs.length hi=xs.length)∧∀ p,H p=none→Q (.ref p) (upd H p (.tup (zj1 xs lo hi)))
theorem zpy:SlR X (zvb X.K):=by
  intro pins s σ H x v vl vu lo hi sl Q I rx hs pl pu h
  refine bq fun bG=>?_
  obtain ⟨a,xs,rfl,hx,hw,q⟩:=h
  cases rx
  obtain ⟨its,r,ht,hz⟩:=I.tuple hx
  have hlen:its.toArray.size=xs.length:=by rw [List.size_toArray];exact r.length.symm
  refine bG (⟨"tuple",_,PyProof.Rows.slot_tuple_getitem.lookup,ht.typeIs,?_⟩)
  refine HT.getItem_tuple_cut ht hs pl pu (by rw [hlen];exact hw) ?_ (by rw [hlen];exact hz)
  rw [hlen]
  refine ⟨.ref s.heap.objs.size,_,I.laid (t':=s.toks) (o:=.tup (zj1 xs lo hi)) (fun b ob q=>Heap.get?_push_of_some _ q) (Nat.le_refl _) ?_,rfl,q _ (I.hok.fresh (Nat.le_refl _))⟩
  exact ⟨Nat.le_trans (z7p xs lo hi) hz,_,(r.drop (HT.sIx xs.length 0 lo)).take (HT.sIx xs.length xs.length hi - HT.sIx xs.length 0 lo),IsTup.new _ _⟩
noncomputable def zqi (K:PySem.W.Frag):R2:=fun x y H Q=>∃ a b xs ys,x=.ref a∧y=.ref b∧SqT K H a xs∧SqT K H b ys∧xs≠[]∧xs.length+ys.length≤sizeLine ∧
  (ys=[]→Q (.ref a) H)∧(ys≠[]→∀ p,H p=none→Q (.ref p) (upd H p (.tup (xs++ys))))
theorem Vals.nil_iff {xs:List V} {us:List Value} (r:Vals xs us):us=[]↔xs=[]:=by
  cases r with
  | nil=>simp
  | cons _ _=>simp
theorem znz:OpR X (binaryOp .Add) (zqi X.K):=by
  intro pins s σ H x y v u Q I rx ry h
  obtain ⟨a,b,xs,ys,rfl,rfl,ha,hb,hx,hz,q1,q2⟩:=h
  cases rx
  cases ry
  obtain ⟨its,r1,p1,_⟩:=I.tuple ha
  obtain ⟨its2,r2,p2,_⟩:=I.tuple hb
  refine HT.cat_tup p1 p2 (fun z=>hx (r1.nil_iff.mp z)) (fun z=>⟨.ref a,H,I,rfl,q1 (r2.nil_iff.mp z)⟩) (fun z=>?_) (by rw [← r1.length,← r2.length];exact hz)
  refine ⟨.ref s.heap.objs.size,_,I.laid (t':=s.toks) (o:=.tup (xs++ys)) (fun b ob q=>Heap.get?_push_of_some _ q) (Nat.le_refl _) ?_,rfl,q2 (fun w=>z (r2.nil_iff.mpr w)) _ (I.hok.fresh (Nat.le_refl _))⟩
  exact ⟨by rw [List.length_append];exact hz,_,r1.append r2,IsTup.new _ _⟩
end
noncomputable def ixN (n:Nat) (i:Int):Option Nat:=if 0≤i then (if i<n then some i.toNat else none) else if -(n:Int)≤i then some (i+n).toNat else none
noncomputable def atI {α:Type} (xs:List α) (i:Int):Option α:=(ixN xs.length i).bind fun j=>xs[j]?
theorem zhm {n:Nat} {i:Int} {j:Nat} (h:ixN n i=some j):seqIndex? i n=some j∧j<n∧-(n:Int)≤i∧i<n:=by
  unfold ixN at h
  by_cases h0:0≤i
  · rw [if_pos h0] at h
    by_cases h1:i<n
    · rw [if_pos h1] at h
      have e:i.toNat=j:=Option.some.inj h
      exact ⟨by rw [seqIndex_of h0 h1,e],by omega,by omega,h1⟩
    · rw [if_neg h1] at h;cases h
  · rw [if_neg h0] at h
    by_cases h1:-(n:Int)≤i
    · rw [if_pos h1] at h
      have e:(i+n).toNat=j:=Option.some.inj h
      exact ⟨by rw [seqIndex_neg (by omega) h1,e],by omega,h1,by omega⟩
    · rw [if_neg h1] at h;cases h
theorem zd3 {α:Type} {xs:List α} {i:Int} {v:α} (h:atI xs i=some v):∃ j,seqIndex? i xs.length=some j∧xs[j]?=some v∧j<xs.length∧-(xs.length:Int)≤i∧i<xs.length:=by
  unfold atI at h
  cases e:ixN xs.length i with
  | none=>rw [e] at h;cases h
  | some j =>
    rw [e] at h
    refine bq fun bG=>?_
    obtain ⟨h1,h2,h3,h4⟩:=zhm e
    exact bG (⟨j,h1,h,h2,h3,h4⟩)
theorem zp2 {α:Type} {xs:List α} {j:Nat} {v:α} (h:xs[j]?=some v):atI xs (j:Int)=some v:=by
  have hj:j<xs.length:=(List.getElem?_eq_some_iff.mp h).1
  have e:ixN xs.length (j:Int)=some j:=by
    unfold ixN
    rw [if_pos (by omega),if_pos (by omega)];simp
  unfold atI;rw [e];exact h
def zis (b:Expr):Prop:=∀ o i,subscripted b false o i=operate [o,i] (getItem o i)
noncomputable def IxR (X:Cx) (r:R2):Prop :=
  ∀ (value slice:Expr) (pins:List (Addr×Obj)) (s:Shared) (σ:St) (H:Hp) (x y:V) (v u:Value) (Q:VK),Inv X pins σ H s→RelV x v→RelV y u→r x y H Q →
    subscripted slice false v u=operate [v,u] (getItem v u)→wpAny (model X.prog X.w) X.A (subscriptTail value slice v u) (EP X pins σ Q) X.xe s
noncomputable def MtR (X:Cx) (id:String) (r:V→List V→Hp→VK→Prop):Prop :=
  ∀ (pins:List (Addr×Obj)) (s:Shared) (σ:St) (H:Hp) (x:V) (xs:List V) (v:Value) (us:List Value) (Q:VK),Inv X pins σ H s→RelV x v→Vals xs us→r x xs H Q →
    wpAny (model X.prog X.w) X.A (call (.builtin id) (v::us)) (EP X pins σ Q) X.xe s
section
variable {X:Cx} {a b:Expr} {ta tb:TE} {pos:Pos}
theorem IxR.or {r r':R2} (h:IxR X r) (h':IxR X r'):IxR X (fun x y H Q=>r x y H Q∨r' x y H Q):=by
  intro value slice pins s σ H x y v u Q I rx ry q hs
  rcases q with q | q
  · exact h value slice pins s σ H x y v u Q I rx ry q hs
  · exact h' value slice pins s σ H x y v u Q I rx ry q hs
theorem ztu {r:R2} (hr:IxR X r) (ha:PE X a ta) (hb:PE X b tb) (hs:zis b):PE X (.Subscript a b pos) (tOp r ta tb):=by
  intro pins s σ H Q I h
  exact Subscript_ (zug ha hb I h fun v u s2 x y H2 I2 rx ry q=>hr a b pins s2 σ H2 x y v u Q I2 rx ry q (hs _ _))
noncomputable def zuq (K:PySem.W.Frag):R2:=fun x y H Q=>∃ p xs i v,x=.ref p∧y=.int i∧SqL K H p xs∧atI xs i=some v∧Q v H
noncomputable def zuo (K:PySem.W.Frag):R2:=fun x y H Q=>∃ p xs i v,x=.ref p∧y=.int i∧SqT K H p xs∧atI xs i=some v∧Q v H
noncomputable def zup:R2:=fun x y H Q=>∃ z i c,x=.str z∧y=.int i∧z.length≤sizeLine∧atI z.cps.toList i=some c∧Q (.str ⟨#[c]⟩) H
theorem ix_list:IxR X (zuq X.K):=by
  intro value slice pins s σ H x y v u Q I rx ry h hs
  obtain ⟨p,xs,i,z,rfl,rfl,hq,he,q⟩:=h
  cases rx
  obtain ⟨t,rfl⟩:=ry
  obtain ⟨its,r,pl,hz⟩:=I.list hq
  obtain ⟨j,h1,h2,h3,h4,h5⟩:=zd3 he
  obtain ⟨w,ew,rw'⟩:=r.get h2
  have hl:=r.length
  have hn:=z8m
  have fin:EP X pins σ Q w s:=⟨z,H,I,rw',q⟩
  by_cases h0:0≤i
  · have hj:i.toNat=j:=by
      rw [seqIndex_of h0 h5] at h1
      exact Option.some.inj h1
    exact item_listR pl.isList h0 (by omega) (by rw [hj];simpa using ew) fin hs
  · have hj:(i+(its.toArray.size:Int)).toNat=j:=by
      rw [seqIndex_neg (by omega) h4] at h1
      rw [List.size_toArray,← hl]
      exact Option.some.inj h1
    exact subscriptTail_builtinR (x:=w) pl.isList.typeIs slot_list_getitem.lookup
      (wpAny_getItem_list_neg (Q:=fun r s'=>r=w∧EP X pins σ Q r s') pl.isList (by omega) (by rw [List.size_toArray] <;> omega) (by omega) (by rw [hj];simpa using ew) ⟨rfl,fin⟩) hs
theorem ix_tup:IxR X (zuo X.K):=by
  intro value slice pins s σ H x y v u Q I rx ry h hs
  obtain ⟨p,xs,i,z,rfl,rfl,hq,he,q⟩:=h
  cases rx
  obtain ⟨t,rfl⟩:=ry
  obtain ⟨its,r,pl,hz⟩:=I.tuple hq
  obtain ⟨j,h1,h2,h3,h4,h5⟩:=zd3 he
  obtain ⟨w,ew,rw'⟩:=r.get h2
  have hl:=r.length
  have hn:=z8m
  have fin:EP X pins σ Q w s:=⟨z,H,I,rw',q⟩
  exact subscriptTail_builtinR (x:=w) pl.typeIs slot_tuple_getitem.lookup
    (getItem_tuple (j:=j) (Q:=fun r s'=>r=w∧EP X pins σ Q r s') pl (by omega) (by omega) (by rw [List.size_toArray,← hl];exact h1) (by simpa using ew) ⟨rfl,fin⟩) hs
theorem zrt:IxR X zup:=by
  intro value slice pins s σ H x y v u Q I rx ry h hs
  obtain ⟨z,i,c,rfl,rfl,hz,he,q⟩:=h
  obtain ⟨t,rfl⟩:=rx
  obtain ⟨t',rfl⟩:=ry
  obtain ⟨j,h1,h2,h3,h4,h5⟩:=zd3 he
  have hl:z.cps.toList.length=z.length:=by simp [Str.length]
  rw [hl] at h1 h4 h5
  have hn:=z8m
  exact tail_any (typeIs_str s z t) slot_str_getitem.lookup (getItem_str (c:=c) (by
    have e1:decide (i < -(2 ^ 63:Int))=false:=decide_eq_false (by omega)
    have e2:decide (i≥2 ^ 63)=false:=decide_eq_false (by omega)
    rw [e1,e2,Bool.or_false]) (by rw [h1];simpa using h2) ⟨.str ⟨#[c]⟩,H,I.tok _,⟨_,rfl⟩,q⟩) hs
noncomputable def rIx (K:PySem.W.Frag):R2:=fun x y H Q=>zuq K x y H Q∨zuo K x y H Q∨zup x y H Q
theorem zru:IxR X (rIx X.K):=ix_list.or (ix_tup.or zrt)
theorem zew (its:List Value) (n j:Nat) (u:Value):Obj.mapSeq (·.setIfInBounds j u) { cls:=.type "list",data:=.seq its.toArray n }={ cls:=.type "list",data:=.seq (its.set j u).toArray n }:=by
  simp [Obj.mapSeq]
theorem Inv.lst {pins:List (Addr×Obj)} {σ:St} {H:Hp} {s:Shared} {p:Addr} {xs:List V} (I:Inv X pins σ H s) (h:H p=some (.lst xs)) :
    ∃ (its:List Value) (n:Nat),Vals xs its∧s.heap.get? p=some { cls:=.type "list",data:=.seq its.toArray n }∧xs.length≤sizeLine:=by
  refine bq fun bG=>?_
  obtain ⟨z,its,n,r,e⟩:=I.hok p _ h
  exact bG (⟨its,n,r,e,z⟩)
theorem Inv.lstUpd {pins:List (Addr×Obj)} {σ:St} {H:Hp} {s:Shared} {p:Addr} {xs ys:List V} {its its':List Value} {n n':Nat} {f:Obj→Obj} (I:Inv X pins σ H s) (h:H p=some (.lst xs))
    (ho:s.heap.get? p=some { cls:=.type "list",data:=.seq its.toArray n }) (hf:f { cls:=.type "list",data:=.seq its.toArray n }={ cls:=.type "list",data:=.seq its'.toArray n' }) (r:Vals ys its') (hz:ys.length≤sizeLine) (t:Nat) :
    Inv X pins σ (upd H p (.lst ys)) { s with heap:=s.heap.update p f,toks:=t }:=by
  have e:(s.heap.update p f).get? p=some { cls:=.type "list",data:=.seq its'.toArray n' }:=by
    rw [Heap.get?_update_self f ho (by rw [hf] <;> rfl),hf]
  refine I.write (x:=p) (e:=p) (by rw [h];trivial) (.inl rfl) (fun b u hb q=>(Heap.get?_update_other _ _ (Ne.symm hb)).trans q) ⟨_,e⟩ ?_
  exact ⟨hz,its',n',r,e⟩
def zto:V→V→V→Hp→(Hp→Prop)→Prop:=fun o i v H Q=>∃ p xs k j,o=.ref p∧i=.int k∧H p=some (.lst xs)∧ixN xs.length k=some j∧Q (upd H p (.lst (xs.set j v)))
theorem zjk:zux X zto:=by
  intro pins s σ H o i v ov iv u Q I ro ri rv h
  obtain ⟨p,xs,k,j,rfl,rfl,hp,hj,q⟩:=h
  cases ro
  obtain ⟨t,rfl⟩:=ri
  obtain ⟨its,n,r,ho,hz⟩:=I.lst hp
  obtain ⟨h1,h2,h3,h4⟩:=zhm hj
  have hl:=r.length
  have hn:=z8m
  have I':Inv X pins σ (upd H p (.lst (xs.set j v))) { s with heap:=s.heap.update p (Obj.mapSeq (·.setIfInBounds j u)) } :=
    I.lstUpd hp ho (zew its n j u) (r.set rv j) (by rw [List.length_set];exact hz) s.toks
  by_cases h0:0≤k
  · have hk:k.toNat=j:=by
      rw [seqIndex_of h0 h4] at h1
      exact Option.some.inj h1
    exact PySem.W.ki_setAt ho h0 (by omega) (by rw [List.size_toArray,← hl];exact h4) (by rw [hk];exact ⟨_,I',q⟩)
  · have hk:(k+(its.toArray.size:Int)).toNat=j:=by
      rw [seqIndex_neg (by omega) h3] at h1
      rw [List.size_toArray,← hl]
      exact Option.some.inj h1
    exact PySem.W.ki_setBack ho (by omega) (by rw [List.size_toArray,← hl];exact h3) (by omega) (by rw [hk];exact ⟨_,I',q⟩)
theorem zaf (lo hi:Option Int) (n:Nat):(sliceBounds lo hi none n).1=((HT.sIx n 0 lo:Nat):Int)∧(sliceBounds lo hi none n).2.1=((HT.sIx n n hi:Nat):Int)∧(sliceBounds lo hi none n).2.2=1:=by
  refine ⟨?_,?_,rfl⟩
  · cases lo with
    | none=>simp [sliceBounds,HT.sIx]
    | some i =>
      simp only [sliceBounds,HT.sIx,Option.getD_none,show (1:Int) > 0 by decide,if_true]
      by_cases h:i<0
      · simp only [h,if_true] <;> omega
      · simp only [h,if_false] <;> omega
  · cases hi with
    | none=>simp [sliceBounds,HT.sIx]
    | some i =>
      simp only [sliceBounds,HT.sIx,Option.getD_none,show (1:Int) > 0 by decide,if_true]
      by_cases h:i<0
      · simp only [h,if_true] <;> omega
      · simp only [h,if_false] <;> omega
theorem z91 (its:List Value) (lo hi:Option Int):slicePick its.toArray lo hi none=((its.drop (HT.sIx its.length 0 lo)).take (HT.sIx its.length its.length hi - HT.sIx its.length 0 lo)).toArray:=by
  obtain ⟨h1,h2,h3⟩:=zaf lo hi its.toArray.size
  unfold slicePick
  rw [h1,h2,h3]
  simp only [sliceRange_one,pick_run,List.size_toArray] <;> rfl
def zvc (K:PySem.W.Frag):V→Option Int→Option Int→Hp→VK→Prop:=fun x lo hi H Q=>∃ a xs,x=.ref a∧SqL K H a xs∧∀ p,H p=none→Q (.ref p) (upd H p (.lst (zj1 xs lo hi)))
theorem sl_list:SlR X (zvc X.K):=by
  intro pins s σ H x v vl vu lo hi sl Q I rx hs pl pu h
  refine bq fun bG=>?_
  obtain ⟨a,xs,rfl,hx,q⟩:=h
  cases rx
  obtain ⟨its,r,ht,hz⟩:=I.list hx
  have hlen:=r.length
  refine bG (⟨"list",_,slot_list_getitem.lookup,ht.isList.typeIs,?_⟩)
  refine wpAny_getItem_list_slice ht.isList hs pl pu .none (by simp) ?_ (by rw [List.size_toArray] <;> omega)
  rw [z91,← hlen]
  refine ⟨.ref s.heap.objs.size,_,I.laid (t':=s.toks) (o:=.lst (zj1 xs lo hi)) (fun b ob q=>Heap.get?_push_of_some _ q) (Nat.le_refl _) ?_,rfl,q _ (I.hok.fresh (Nat.le_refl _))⟩
  exact ⟨Nat.le_trans (z7p xs lo hi) hz,_,0,(r.drop (HT.sIx xs.length 0 lo)).take (HT.sIx xs.length xs.length hi - HT.sIx xs.length 0 lo),Heap.get?_push_size _ rfl⟩
theorem zbf:z3u X (.builtin "len") (fun xs H Q=>∃ p ys,xs=[.ref p]∧(SqL X.K H p ys∨SqT X.K H p ys)∧Q (.int ys.length) H):=by
  intro pins s σ H xs us Q I r h
  obtain ⟨p,ys,rfl,hq,q⟩:=h
  obtain ⟨u,rfl,rx⟩:=z67 r
  cases rx
  have hn:=z8m
  rcases hq with hq | hq
  · obtain ⟨its,r',pl,hz⟩:=I.list hq
    have hlen:=r'.length
    exact Calls.call_len_list pl.isList (by simp only [List.size_toArray] <;> omega) ⟨.int ys.length,H,I.tok _,⟨s.toks+1,by rw [List.size_toArray,hlen]⟩,q⟩
  · obtain ⟨its,r',pl,hz⟩:=I.tuple hq
    have hlen:=r'.length
    exact len_tuple pl (by simp only [List.size_toArray] <;> omega) ⟨.int ys.length,H,I.tok _,⟨s.toks+1,by rw [List.size_toArray,hlen]⟩,q⟩
theorem zbe:z3u X (.type "list") (fun xs H Q=>∃ p ys,xs=[.ref p]∧(SqL X.K H p ys∨SqT X.K H p ys)∧∀ l,H l=none→Q (.ref l) (upd H l (.lst ys))):=by
  intro pins s σ H xs us Q I r h
  obtain ⟨p,ys,rfl,hq,q⟩:=h
  obtain ⟨u,rfl,rx⟩:=z67 r
  cases rx
  have fin:∀ (its:List Value),Vals ys its→ys.length≤sizeLine→∀ (h':Heap) (c':Nat),(∀ b o',s.heap.get? b=some o'→h'.get? b=some o') →
      h'.get? s.heap.objs.size=some { cls:=.type "list",dict:=none,data:=.seq its.toArray c',slots:=#[] }→EP X pins σ Q (.ref s.heap.objs.size) { s with heap:=h' }:=fun its r' hz h' c' kp e =>
    ⟨.ref s.heap.objs.size,_,I.laid (t':=s.toks) kp (Nat.le_refl _) (show ObjOk X.prog X.w _ h' _ (.lst ys) from ⟨hz,its,c',r',e⟩),rfl,q _ (I.hok.fresh (Nat.le_refl _))⟩
  rcases hq with hq | hq
  · obtain ⟨its,r',pl,hz⟩:=I.list hq
    have hlen:=r'.length
    obtain ⟨o,ho,hc,n,hd⟩:=pl.isList
    exact call_list_seq p (.inl rfl) ho hc hd (fun h' c' kp e=>fin its r' hz h' c' kp e) (by simp only [List.size_toArray] <;> omega)
  · obtain ⟨its,r',pl,hz⟩:=I.tuple hq
    have hlen:=r'.length
    obtain ⟨o,ho,hc,n,hd⟩:=pl
    exact call_list_seq p (.inr rfl) ho hc hd (fun h' c' kp e=>fin its r' hz h' c' kp e) (by simp only [List.size_toArray] <;> omega)
def tyV (K:PySem.W.Frag) (T:String) (x:V) (H:Hp):Prop:=match x with
  | .str _=>T = "str"
  | .int _=>T = "int"
  | .ref p=>(T = "list" ∧ ∃ xs,SqL K H p xs)∨(T = "tuple" ∧ ∃ o,K.lookup p=some o∧o.cls=.type "tuple" ∧ o.dict=none) ∨
      (T = "dict" ∧ ((∃ kvs,H p=some (.dK kvs))∨∃ kvs,H p=some (.dT kvs)))∨(T = "set" ∧ ∃ S n,H p=some (.set S n))
  | _=>False
theorem zll {pins:List (Addr×Obj)} {σ:St} {H:Hp} {s:Shared} {T:String} {x:V} {v:Value} (I:Inv X pins σ H s) (r:RelV x v) (ty:tyV X.K T x H) :
    s.TypeIs v T∧∀ a,v=.ref a→∃ ob,s.heap.get? a=some ob∧ob.dict=none:=by
  cases x with
  | str z =>
    obtain ⟨t,rfl⟩:=r
    cases (show T = "str" from ty)
    exact ⟨typeIs_str s z t,fun _ e=>nomatch e⟩
  | int i =>
    obtain ⟨t,rfl⟩:=r
    cases (show T = "int" from ty)
    exact ⟨typeIs_int s i t,fun _ e=>nomatch e⟩
  | ref p =>
    cases r
    rcases ty with ⟨rfl,xs,hq⟩ | ⟨rfl,o,hk,hc,hd⟩ | ⟨rfl,hk⟩ | ⟨rfl,S,n,hk⟩
    · obtain ⟨its,_,pl,_⟩:=I.list hq
      refine ⟨pl.isList.typeIs,fun a e=>?_⟩
      cases e
      refine bq fun bG=>?_
      obtain ⟨o,n,e,c,hd,_⟩:=pl
      exact bG (⟨o,e,hd⟩)
    · refine ⟨⟨o,I.kIn p o hk,hc⟩,fun a e=>?_⟩
      cases e
      exact ⟨o,I.kIn _ o hk,hd⟩
    · have z:∃ o,s.heap.get? p=some o∧o.ExactDict:=by
        rcases hk with ⟨kvs,hk⟩ | ⟨kvs,hk⟩
        · obtain ⟨_,_,_,_,o,_,_,e,ex,_⟩:=I.hok p _ hk
          exact ⟨o,e,ex⟩
        · obtain ⟨_,_,_,_,o,_,_,e,ex,_⟩:=I.hok p _ hk
          exact ⟨o,e,ex⟩
      refine bq fun bG=>?_
      obtain ⟨o,e,ex⟩:=z
      refine bG (⟨⟨o,e,ex.1⟩,fun a e2=>?_⟩)
      cases e2
      exact ⟨o,e,ex.2.1⟩
    · obtain ⟨o,_,_,_,e,ex,_⟩:=I.hok p _ hk
      refine ⟨⟨o,e,ex.1⟩,fun a e2=>?_⟩
      cases e2
      exact ⟨o,e,ex.2.1⟩
  | _=>exact False.elim ty
def ztj (K:PySem.W.Frag) (T:String) (r:V→List V→Hp→VK→Prop) (to:TE):TE:=fun σ H Q=>to σ H fun x H1=>tyV K T x H1∧r x [] H1 Q
def tBM (K:PySem.W.Frag) (T:String) (r:V→List V→Hp→VK→Prop) (to:TE) (t:TA):TE:=fun σ H Q=>to σ H fun x H1=>tyV K T x H1∧t σ H1 fun xs H2=>r x xs H2 Q
variable {o e:Expr} {es:List Expr} {to:TE} {t:TA} {name:Str} {apos cpos:Pos} {T id:String} {r:V→List V→Hp→VK→Prop}
theorem zm1 (pa:PlainAttrs T) (slot:Slot T name id) (hty:typeOf (.builtin id)=pure (.type "method_descriptor")) (hm:MtR X id r) (ho:PE X o to)
    (hbase:attributeBase o name X.env (eval o X.env)=eval o X.env:=by rfl) (hline:(apos.endLine==cpos.line)=true:=by rfl):PE X (.Call (.Attribute o name apos) [] [] cpos) (ztj X.K T r to):=by
  intro pins s σ H Q I h
  refine wpAny_Call_method0_late hbase hline (thn (ho pins s σ H _ I h) fun v s1 hm=>?_)
  refine bq fun bG=>?_
  obtain ⟨x,H1,I1,r1,ty,q1⟩:=hm
  obtain ⟨h1,h2⟩:=zll I1 r1 ty
  exact bG (⟨T,id,pa,slot,hty,h1,h2,Calls.callWith_builtin rfl (PySem.evalArgs_none (hm pins s1 σ H1 x [] v [] Q I1 r1 .nil q1))⟩)
theorem zkd (pa:PlainAttrs T) (slot:Slot T name id) (hty:typeOf (.builtin id)=pure (.type "method_descriptor")) (hm:MtR X id r) (ho:PE X o to) (ha:PA X (e::es) t)
    (hbase:attributeBase o name X.env (eval o X.env)=eval o X.env:=by rfl)
    (hfew:((backTo cpos (starEach (e::es) X.env)).all (fun x=>!x.1)&&(backToKw cpos (keywordEach [] X.env)).all (fun x=>x.1.isSome)
      && decide ((e::es).length+([]:List Keyword).length+(if ([]:List Keyword).isEmpty then 0 else 1)<30))=true:=by rfl)
    (hline:(apos.endLine==cpos.line)=true:=by rfl) (hs:starEach (e::es) X.env=(false,eval e X.env)::starEach es X.env:=by rfl) (hplain:(backTo cpos (starEach es X.env)).any (·.1)=false:=by rfl) :
    PE X (.Call (.Attribute o name apos) (e::es) [] cpos) (tBM X.K T r to t):=by
  intro pins s σ H Q I h
  refine wpAny_Call_method_late hbase hfew hline rfl (thn (ho pins s σ H _ I h) fun v s1 hm=>?_)
  refine bq fun bG=>?_
  obtain ⟨x,H1,I1,r1,ty,q1⟩:=hm
  obtain ⟨h1,h2⟩:=zll I1 r1 ty
  refine bG (⟨T,id,pa,slot,hty,h1,h2,?_⟩)
  have hA:=ha cpos pins s1 σ H1 _ I1 q1
  rw [hs] at hA ⊢
  refine Calls.callWith_builtin (by show (false||(backTo cpos (starEach es X.env)).any (·.1))=false;rw [hplain] <;> rfl) (Calls.evalArgs_plain ?_)
  exact thn hA fun us s2 ⟨vs,H2,I2,r2,q2⟩=>hm pins s2 σ H2 x vs v us Q I2 r1 r2 q2
end
noncomputable def MtM (X:Cx) (id:String) (r:V→List V→Hp→VK→Prop):Prop :=
  ∀ (pins:List (Addr×Obj)) (s:Shared) (σ:St) (H:Hp) (x:V) (xs:List V) (v:Value) (us:List Value) (Q:VK),Inv X pins σ H s→RelV x v→Vals xs us→r x xs H Q →
    wpAny (model X.prog X.w) X.A (call (.builtin id) (v::us)) (EP X pins σ Q) X.xe s
theorem Vals.one {x:V} {us:List Value} (h:Vals [x] us):∃ u,us=[u]∧RelV x u:=by
  cases h with | cons r t=>cases t;exact ⟨_,rfl,r⟩
theorem Vals.two {x y:V} {us:List Value} (h:Vals [x,y] us):∃ u v,us=[u,v]∧RelV x u∧RelV y v:=by
  cases h with | cons r t=>obtain ⟨v,rfl,q⟩:=Vals.one t;exact ⟨_,v,rfl,r,q⟩
theorem Vals.zero:∀ {us:List Value},Vals [] us→us=[]
  | _,.nil=>rfl
theorem Vals.rep {xs:List V} {us:List Value} (h:Vals xs us):∀ k:Nat,Vals (List.replicate k xs).flatten (List.replicate k us).flatten
  | 0=>.nil
  | k+1=>by
    rw [List.replicate_succ,List.replicate_succ,List.flatten_cons,List.flatten_cons]
    exact Vals.append h (Vals.rep h k)
theorem zaw (its:List Value):∀ (k:Nat) (acc:List Value),
    List.foldl (fun x1 x2=>x1++x2) acc.toArray (List.replicate k its.toArray)=(acc++(List.replicate k its).flatten).toArray
  | 0,acc=>by simp
  | k+1,acc=>by
    have e:acc.toArray++its.toArray=(acc++its).toArray:=by simp
    have e2:(acc++its)++(List.replicate k its).flatten=acc++(List.replicate (k+1) its).flatten:=by
      rw [List.replicate_succ,List.flatten_cons,List.append_assoc]
    rw [← e2,← zaw its k (acc++its),← e,List.replicate_succ,List.foldl_cons]
section
variable {X:Cx} {pins:List (Addr×Obj)} {σ:St} {H:Hp} {s:Shared} {l b:Addr} {xs ys zs:List V}
theorem Inv.lset {its its':List Value} {n:Nat} {f:Array Value→Array Value} {t':Nat} (I:Inv X pins σ H s) (hH:H l=some (.lst xs))
    (e:s.heap.get? l=some { cls:=.type "list",data:=.seq its.toArray n }) (hf:f its.toArray=its'.toArray) (hv:Vals ys its') (hz:ys.length≤sizeLine) :
    Inv X pins σ (upd H l (.lst ys)) { s with heap:=s.heap.update l (Obj.mapSeq f),toks:=t' }:=by
  have q:=PySem.IsL.update e f
  rw [hf] at q
  refine I.write (x:=l) (e:=l) (by rw [hH];exact trivial) (.inl rfl) (fun b' u hb hu=>(Heap.get?_update_other s.heap (Obj.mapSeq f) (Ne.symm hb)).trans hu) ⟨_,q⟩ ?_
  exact ⟨hz,its',_,hv,q⟩
theorem Inv.lnew {its:List Value} {t':Nat} (I:Inv X pins σ H s) (hv:Vals ys its) (hz:ys.length≤sizeLine) :
    Inv X pins σ (upd H s.heap.objs.size (.lst ys)) { s with heap:=s.heap.push { cls:=.type "list",data:=.seq its.toArray },toks:=t' } :=
  I.laid (fun _ _ q=>Heap.get?_push_of_some _ q) (Nat.le_refl _) ⟨hz,its,0,hv,Heap.get?_push_size _ rfl⟩
theorem Inv.fresh (I:Inv X pins σ H s):H s.heap.objs.size=none:=I.hok.fresh (Nat.le_refl _)
theorem Inv.lstM (I:Inv X pins σ H s) (hH:H l=some (.lst xs)):xs.length≤sizeLine∧∃ (its:List Value) (n:Nat),Vals xs its∧xs.length=its.length∧s.heap.get? l=some { cls:=.type "list",data:=.seq its.toArray n }:=by
  refine bq fun bG=>?_
  obtain ⟨z,its,n,r,e⟩:=I.hok l _ hH
  exact bG (⟨z,its,n,r,r.length,e⟩)
theorem zdm {n:Nat} (h:n≤sizeLine):Builtin.List.listTooLong n=false:=by
  unfold Builtin.List.listTooLong
  exact decide_eq_false (by omega)
end
section
variable {X:Cx}
def zgp:V→List V→Hp→VK→Prop:=fun x vs H Q=>∃ l xs y,x=.ref l∧vs=[y]∧H l=some (.lst xs)∧xs.length<sizeLine∧Q .non (upd H l (.lst (xs++[y])))
theorem z77:MtM X "list.append" zgp:=by
  intro pins s σ H x vs v us Q I rx rv h
  obtain ⟨l,xs,y,rfl,rfl,hH,hz,q⟩:=h
  cases rx
  obtain ⟨u,rfl,ru⟩:=rv.one
  obtain ⟨z,its,n,r,hl,e⟩:=I.lstM hH
  refine call_meets F.slot_list_append ⟨_,e,rfl⟩ F.entry_list_append (F.args_list_append_2 _ _) (PySem.list_append l its.toArray n u (by rw [List.size_toArray];omega)) ⟨e,?_⟩
  refine ⟨.non,_,I.lset (its':=its++[u]) hH e (by simp) (r.append (.cons ru .nil)) ?_,rfl,q⟩
  rw [List.length_append,List.length_singleton]
  omega
def zne:V→List V→Hp→VK→Prop:=fun x vs H Q=>∃ l b xs zs,x=.ref l∧vs=[.ref b]∧H l=some (.lst xs)∧H b=some (.lst zs)∧xs.length+zs.length≤sizeLine∧Q .non (upd H l (.lst (xs++zs)))
theorem mt_extend:MtM X "list.extend" zne:=by
  intro pins s σ H x vs v us Q I rx rv h
  obtain ⟨l,b,xs,zs,rfl,rfl,hH,hB,hz,q⟩:=h
  cases rx
  obtain ⟨u,rfl,ru⟩:=rv.one
  cases ru
  obtain ⟨z,its,n,r,hl,e⟩:=I.lstM hH
  obtain ⟨z2,its2,n2,r2,hl2,e2⟩:=I.lstM hB
  have hsz:its.toArray.size+its2.toArray.size≤sizeLine:=by rw [List.size_toArray,List.size_toArray];omega
  have hlong:¬ (!its.toArray.isEmpty&&Builtin.List.listTooLong (its.toArray.size+its2.toArray.size))=true:=by
    rw [zdm hsz,Bool.and_false]
    exact Bool.false_ne_true
  refine call_meets F.slot_list_extend ⟨_,e,rfl⟩ F.entry_list_extend (F.args_list_extend_2 _ _)
    (AutoSeq1.list_extend_list_list_0 l its.toArray n b its2.toArray n2 hlong (by rw [List.size_toArray];omega) (by omega)) ⟨e,e2,?_⟩
  refine ⟨.non,_,I.lset (its':=its++its2) hH e (by simp) (r.append r2) ?_,rfl,q⟩
  rw [List.length_append]
  omega
noncomputable def zur:R2:=fun x y H Q=>∃ l b xs zs,x=.ref l∧y=.ref b∧H l=some (.lst xs)∧H b=some (.lst zs)∧xs.length+zs.length≤sizeLine∧∀ p,H p=none→Q (.ref p) (upd H p (.lst (xs++zs)))
theorem op_cat:OpR X (binaryOp .Add) zur:=by
  intro pins s σ H x y v u Q I rx ry h
  obtain ⟨l,b,xs,zs,rfl,rfl,hH,hB,hz,q⟩:=h
  cases rx
  cases ry
  obtain ⟨z,its,n,r,hl,e⟩:=I.lstM hH
  obtain ⟨z2,its2,n2,r2,hl2,e2⟩:=I.lstM hB
  refine PySem.P.add_list e e2 ?_ (by rw [List.size_toArray,List.size_toArray];omega)
  have ea:its.toArray++its2.toArray=(its++its2).toArray:=by simp
  rw [ea]
  exact ⟨.ref _,_,I.lnew (t':=s.toks) (r.append r2) (by rw [List.length_append];omega),rfl,q _ I.fresh⟩
noncomputable def zun:R2:=fun x y H Q=>∃ l k xs,x=.ref l∧y=.int k∧H l=some (.lst xs)∧-(2 ^ 63)≤k∧k<2 ^ 63∧xs.length*k.toNat≤sizeLine ∧
  ∀ p,H p=none→Q (.ref p) (upd H p (.lst (List.replicate k.toNat xs).flatten))
theorem zo5 {α:Type} (xs:List α) (k:Nat):(List.replicate k xs).flatten.length=k*xs.length:=by
  induction k with
  | zero=>simp
  | succ k ih=>rw [List.replicate_succ,List.flatten_cons,List.length_append,ih,Nat.succ_mul,Nat.add_comm]
theorem zr6:OpR X (binaryOp .Mult) zun:=by
  intro pins s σ H x y v u Q I rx ry h
  obtain ⟨l,k,xs,rfl,rfl,hH,h1,h2,hz,q⟩:=h
  cases rx
  obtain ⟨t,rfl⟩:=ry
  obtain ⟨z,its,n,r,hl,e⟩:=I.lstM hH
  have hlen:its.toArray.size*k.toNat≤sizeLine:=by rw [List.size_toArray,← hl];exact hz
  have hcap:¬ its.toArray.size*k.toNat > (2 ^ 63 - 1) / 8:=by
    have:(sizeLine:Nat)≤(2 ^ 63 - 1) / 8:=by decide
    omega
  have hfit:¬ (!Builtin.List.listFitsIndex k)=true:=by
    rw [fitsIndex_both h1 h2]
    exact Bool.false_ne_true
  have hlong:¬ Builtin.List.listTooLong (its.toArray.size*k.toNat)=true:=by
    rw [zdm hlen]
    exact Bool.false_ne_true
  have hnew:List.foldl (fun x1 x2=>x1++x2) #[] (List.replicate (if its.toArray.isEmpty=true then 0 else k.toNat) its.toArray)=(List.replicate k.toNat its).flatten.toArray:=by
    have f0:∀ m:Nat,List.foldl (fun x1 x2=>x1++x2) #[] (List.replicate m its.toArray)=(List.replicate m its).flatten.toArray:=fun m=>by
      have:=zaw its m []
      rw [List.nil_append] at this
      exact this
    rw [f0]
    cases its with
    | nil=>simp
    | cons a r'=>rw [if_neg (by simp)]
  refine wpAny_binaryOp_repeat_ref (T := "list") (U := "int") (by decide) ⟨_,e,rfl⟩ (fun s'=>typeIs_int s' k t) noFill_list_mul F.fills_int_mul F.slot_int_rmul repeat_list F.slot_int_index.lookup
    (call_meets F.slot_int_rmul (typeIs_int s k t) F.entry_int_rmul (F.args_int_rmul_2 _ _) (int___rmul___int_list k t l its.toArray n)
      ⟨e,rfl,⟨_,e,rfl⟩,call_meets F.slot_list_mul ⟨_,e,rfl⟩ F.entry_list_mul (F.args_list_mul_2 _ _) (AutoListH.list___mul___list_int_3 l its.toArray n k t hfit hcap hlong) ⟨e,?_⟩⟩)
  rw [hnew]
  exact ⟨.ref _,_,I.lnew (t':=s.toks) (r.rep k.toNat) (by rw [zo5,Nat.mul_comm];exact hz),rfl,q _ I.fresh⟩
end
section
variable {prog:Program} {w:World} {A:Around} {E:Value→Shared→Prop} {s:Shared}
end
section
variable {X:Cx}
end
section
variable {κ:Type} [DecidableEq κ]
noncomputable def zbo (kvs:List (κ×V)) (k:κ):Option V:=(kvs.find? fun kv=>decide (kv.1=k)).map (·.2)
noncomputable def zdh (kvs:List (κ×V)) (k:κ) (v:V):List (κ×V) :=
  if (kvs.any fun kv=>decide (kv.1=k))=true then kvs.map (fun kv=>if kv.1=k then (kv.1,v) else kv) else kvs++[(k,v)]
theorem z6f {p:κ×V} {r:List (κ×V)} {k:κ} (e:p.1=k):zbo (p::r) k=some p.2:=by simp [zbo,List.find?_cons,e]
theorem z6g {p:κ×V} {r:List (κ×V)} {k:κ} (e:¬ p.1=k):zbo (p::r) k=zbo r k:=by simp [zbo,List.find?_cons,e]
theorem z7b (kvs:List (κ×V)) (k:κ) (v:V):(zdh kvs k v).length≤kvs.length+1:=by
  unfold zdh
  split
  · rw [List.length_map];omega
  · rw [List.length_append,List.length_cons,List.length_nil];omega
theorem KV.val {kvs:List (κ×V)} {vs:List (κ×Value)} (r:KV kvs vs) (k:κ):RelO (zbo kvs k) (valueAt vs k):=by
  unfold KV at r
  induction r with
  | nil=>exact True.intro
  | @cons p q ps qs h t ih =>
    obtain ⟨h1,h2⟩:=h
    by_cases e:p.1=k
    · have e':q.1=k:=h1.symm.trans e
      have b:valueAt (q::qs) k=some q.2:=by simp [valueAt,List.find?_cons,e']
      rw [z6f e,b];exact h2
    · have e':¬ q.1=k:=fun z=>e (h1.trans z)
      have b:valueAt (q::qs) k=valueAt qs k:=by simp [valueAt,List.find?_cons,e']
      rw [z6g e,b];exact ih
theorem KV.any {kvs:List (κ×V)} {vs:List (κ×Value)} (r:KV kvs vs) (k:κ):(kvs.any fun kv=>decide (kv.1=k))=vs.any fun kv=>decide (kv.1=k):=by
  unfold KV at r
  induction r with
  | nil=>rfl
  | cons h t ih=>rw [List.any_cons,List.any_cons,ih,h.1]
theorem KV.repl {kvs:List (κ×V)} {vs:List (κ×Value)} (r:KV kvs vs) (k:κ) {y:V} {u:Value} (ry:RelV y u) :
    KV (kvs.map fun kv=>if kv.1=k then (kv.1,y) else kv) (vs.map fun kv=>if kv.1=k then (kv.1,u) else kv):=by
  unfold KV at r ⊢
  induction r with
  | nil=>exact .nil
  | @cons p q ps qs h t ih =>
    rw [List.map_cons,List.map_cons]
    refine .cons ?_ ih
    obtain ⟨h1,h2⟩:=h
    by_cases e:p.1=k
    · rw [if_pos e,if_pos (h1.symm.trans e)];exact ⟨h1,ry⟩
    · rw [if_neg e,if_neg (fun z=>e (h1.trans z))];exact ⟨h1,h2⟩
theorem KV.put {kvs:List (κ×V)} {vs:List (κ×Value)} (r:KV kvs vs) (k:κ) {y:V} {u:Value} (ry:RelV y u):KV (zdh kvs k y) (stored vs k u):=by
  unfold zdh stored
  rw [r.any k]
  by_cases e:(vs.any fun kv=>decide (kv.1=k))=true
  · rw [if_pos e,if_pos e];exact r.repl k ry
  · rw [if_neg e,if_neg e];exact Paired.snoc r ⟨rfl,ry⟩
theorem KV.length {kvs:List (κ×V)} {vs:List (κ×Value)} (r:KV kvs vs):kvs.length=vs.length:=Paired.length r
end
theorem zkm {P:Program} {w:World} {k:Key} {u:Value} (r:RelV (kV k) u):(z17 P w).is k u=true:=by
  cases k with
  | inl i=>obtain ⟨t,e⟩:=(show ∃ t,u=Value.int i t from r);subst e;exact zch P w i t
  | inr x=>obtain ⟨t,e⟩:=(show ∃ t,u=Value.str x t from r);subst e;exact zcg P w x t
theorem zat {P:Program} {w:World}:∀ {ks:List Key} {us:List Value},Vals (ks.map kV) us→ItemsAre (z17 P w) ks us
  | [],_,r=>by rw [List.map_nil] at r;cases r;exact .nil
  | k::ks,_,r=>by
    rw [List.map_cons] at r
    cases r with
    | cons h t=>exact .cons (zkm h) (zat t)
noncomputable abbrev KT (H:Hp):List (List Key×V)→List (List Key×Addr×Value)→Prop:=Paired fun p q=>p.1=q.1∧H q.2.1=some (.tup (p.1.map kV))∧RelV p.2 q.2.2
theorem KT.val {H:Hp} {kvs:List (List Key×V)} {xs:List (List Key×Addr×Value)} (r:KT H kvs xs) (k:List Key):RelO (zbo kvs k) ((atKey xs k).map (·.2)):=by
  induction r with
  | nil=>exact True.intro
  | @cons p q ps qs h t ih =>
    obtain ⟨h1,_,h2⟩:=h
    by_cases e:p.1=k
    · have e':q.1=k:=h1.symm.trans e
      have b:atKey (q::qs) k=some q.2:=by simp [atKey,List.find?_cons,e']
      rw [z6f e,b];exact h2
    · have e':¬ q.1=k:=fun z=>e (h1.trans z)
      have b:atKey (q::qs) k=atKey qs k:=by simp [atKey,List.find?_cons,e']
      rw [z6g e,b];exact ih
section
variable {P:Program} {w:World} {H:Hp} {h:Heap} {a:Addr}
theorem zq6 {u:HO} (ok:HOk P w H h) (e:Rd H a u):ObjOk P w H h a u:=e.ok ok
theorem zor {kvs:List (Key×V)} (ok:HOk P w H h) (e:Rd H a (.dK kvs)):kvs.length≤sizeLine∧(a==sysModules)=false∧∃ vs,KV kvs vs∧h.DictOf (z17 P w) a vs :=
  show ObjOk P w H h a (.dK kvs) from zq6 ok e
theorem zf3 {kvs:List (Key×V)} (ok:HOk P w H h) (e:H a=some (.dK kvs)):kvs.length≤sizeLine∧(a==sysModules)=false∧∃ vs,KV kvs vs∧h.DictOf (z17 P w) a vs:=zor ok (.inl e)
theorem zm7 {ks:List Key} (ok:HOk P w H h) (e:H a=some (.tup (ks.map kV))):(tupleKind (z17 P w)).is h ks a:=by
  refine bq fun bG=>?_
  obtain ⟨_,its,r,o,h1,h2,n,h3⟩:=(show ObjOk P w H h a (.tup (ks.map kV)) from ok a _ e)
  exact bG (⟨o,its.toArray,n,h1,h2,h3,by simpa using zat r⟩)
theorem zse {kvs:List (List Key×V)} (ok:HOk P w H h) (e:Rd H a (.dT kvs)):kvs.length≤sizeLine∧(a==sysModules)=false ∧
    ∃ xs,KT H kvs xs∧h.DictOfH (tupleKind (z17 P w)) a xs:=by
  refine bq fun bG=>?_
  obtain ⟨z,y,xs,r,o,es,ep,h1,h2,h3,h4,h5⟩:=(show ObjOk P w H h a (.dT kvs) from zq6 ok e)
  refine bG (⟨z,y,xs,r,o,es,ep,h1,h2,h3,h4,fun x hx=>?_,h5⟩)
  have all:∀ {l:List (List Key×V)} {m:List (List Key×Addr×Value)},KT H l m→∀ x∈m,(tupleKind (z17 P w)).is h x.1 x.2.1:=by
    intro l m q
    induction q with
    | nil=>intro x hx;exact nomatch hx
    | @cons p q ps qs hq t ih =>
      intro x hx
      rcases List.mem_cons.mp hx with e | hx
      · subst e
        exact zm7 ok (by rw [← hq.1];exact hq.2.1)
      · exact ih x hx
  exact all r x hx
end
noncomputable def DGet (H:Hp) (a:Addr) (y:V) (r:Option V):Prop :=
  (∃ kvs k,Rd H a (.dK kvs)∧y=kV k∧r=zbo kvs k)∨∃ kvs k b,Rd H a (.dT kvs)∧y=.ref b∧H b=some (.tup (k.map kV))∧r=zbo kvs k
theorem DGet.k {H:Hp} {a:Addr} {kvs:List (Key×V)} {k:Key} (e:H a=some (.dK kvs)):DGet H a (kV k) (zbo kvs k):=.inl ⟨kvs,k,.inl e,rfl,rfl⟩
section
variable {X:Cx} {pins:List (Addr×Obj)} {σ:St} {H:Hp} {s:Shared} {a:Addr} {y v:V} {u r:Value} {o:Option V} {A:Around} {E:Value→Shared→Prop}
theorem Inv.big (I:Inv X pins σ H s):sysModules<s.heap.objs.size:=by
  have h:mainGlobals<s.heap.objs.size:=(I.mod.glob.keeps I.bk).lt
  exact Nat.lt_trans (by decide) h
theorem zi9 {Q:Value→Shared→Prop} (hu:A.units+1<cLine) (I:Inv X pins σ H s) (g:DGet H a y (some v)) (ry:RelV y u) (h:∀ w' s',Inv X pins σ H s'→RelV v w'→Q w' s') :
    wpAny (model X.prog X.w) A (getItem (.ref a) u) Q E s:=by
  rcases g with ⟨kvs,k,e,ey,l⟩ | ⟨kvs,k,b,e,ey,eb,l⟩
  · subst ey
    refine bq fun bG=>?_
    obtain ⟨z,hd,vs,rel,dd⟩:=zor I.hok e
    obtain ⟨w',hw,rw'⟩:=RelO.some_of (v:=v) (o:=valueAt vs k) (by rw [l];exact rel.val k)
    exact bG (wpAny_getItem_of (zkm ry) dd.mapOf hw (h w' _ (I.tok _) rw'))
  · subst ey
    cases (show u=Value.ref b from ry)
    refine bq fun bG=>?_
    obtain ⟨z,hd,xs,rel,dd⟩:=zse I.hok e
    obtain ⟨w',hw,rw'⟩:=RelO.some_of (v:=v) (o:=(atKey xs k).map (·.2)) (by rw [l];exact rel.val k)
    obtain ⟨p,hp,hp2⟩:=Option.map_eq_some_iff.mp hw
    refine bG (wpAny_getItem_heap (tupleKind_room_in1 hu) (zm7 I.hok eb) dd hp ?_)
    rw [hp2]
    exact h w' _ (I.tok _) rw'
theorem zi8 {h':Heap} {t':Nat} {ob:HO} (I:Inv X pins σ H s) (mu:Mut (H a)) (hs:Heap.SameBut a s.heap h') (he:∃ q,h'.get? a=some q) (new:ObjOk X.prog X.w (upd H a ob) h' a ob) :
    Inv X pins σ (upd H a ob) { s with heap:=h',toks:=t' } :=
  I.write (x:=a) (e:=a) mu (.inl rfl) (fun b q hb z=>(hs.2 b hb).trans z) he new
theorem zmd {P:Program} {w:World} {H':Hp} {h':Heap} {kvs:List (Key×V)} {vs:List (Key×Value)} (z:kvs.length≤sizeLine) (hd:(a==sysModules)=false) (rel:KV kvs vs) (dd:h'.DictOf (z17 P w) a vs) :
    ObjOk P w H' h' a (.dK kvs):=⟨z,hd,vs,rel,dd⟩
end
section
variable {X:Cx} {pins:List (Addr×Obj)} {σ:St} {H:Hp} {s:Shared} {a:Addr} {kvs:List (Key×V)} {k:Key} {u:Value} {A:Around} {E:Value→Shared→Prop}
end
def zuj (i:Expr):Prop:=∀ ov iv,subscripted i false ov iv=operate [ov,iv] (getItem ov iv)
theorem zn4 {prog:Program} {w:World} {A:Around} {E:Value→Shared→Prop} {s:Shared} {env:Env} {value slice:Expr} {pos:Pos} {T id:String} {Q:Value→Shared→Prop}
    (hl:typeLookup (.type T) "__getitem__" = pure (some (.builtin id))) (hs:zuj slice)
    (h:wpAny (model prog w) A (eval value env) (fun o s₁=>wpAny (model prog w) A (eval slice env) (fun i s₂=>s₂.TypeIs o T∧wpAny (model prog w) A (getItem o i) Q E s₂) E s₁) E s) :
    wpAny (model prog w) A (eval (.Subscript value slice pos) env) Q E s:=by
  refine Subscript_ (wpAny_mono h (fun o s₁ h₁=>wpAny_mono h₁ (fun i s₂ h₂=>?_) fun _ _ x=>x) fun _ _ x=>x)
  obtain ⟨hT,h₂⟩:=h₂
  unfold subscriptTail
  refine wpAny_bind ?_
  rw [getitemInPython_of_ne hT.not_modules]
  refine wpAny_bind (wpAny_specialOf hT hl ?_)
  have fin:wpAny (model prog w) A (subscripted slice false o i) (fun r s₃=>wpAny (model prog w) A (letTemporaryGo value o r >>= fun _=>pure r) Q E s₃) E s₂:=by
    rw [hs o i]
    exact wpAny_operating (wpAny_mono h₂ (fun r s₃ h₃=>wpAny_bind (wpAny_letTemporaryGo (wpAny_pure h₃))) fun _ _ x=>x)
  first
    | exact wpAny_pure (wpAny_bind fin)
    | exact wpAny_bind (wpAny_pure (wpAny_bind fin))
    | exact wpAny_bind fin
theorem zcz {X:Cx} {pins:List (Addr×Obj)} {σ:St} {H:Hp} {s:Shared} {a:Addr} {y:V} {o:Option V} (I:Inv X pins σ H s) (g:DGet H a y o):s.TypeIs (.ref a) "dict" := by
  rcases g with ⟨kvs,k,e,_,_⟩ | ⟨kvs,k,b,e,_,_,_⟩
  · obtain ⟨_,_,vs,_,dd⟩:=zor I.hok e
    exact dd.typeIs
  · obtain ⟨_,_,xs,_,dd⟩:=zse I.hok e
    exact dd.typeIs
def zti (td ty:TE):TE:=fun σ H Q=>td σ H fun x H1=>ty σ H1 fun y H2=>∃ a v,x=.ref a∧DGet H2 a y (some v)∧Q v H2
section
variable {X:Cx} {o i e value:Expr} {pos pos' tpos:Pos} {td ty tv:TE}
theorem zns (hu:X.A.units+1<cLine) (ho:PE X o td) (hi:PE X i ty) (hs:zuj i):PE X (.Subscript o i pos) (zti td ty):=by
  intro pins s σ H Q I h
  refine zn4 PySem.F.slot_dict_getitem.lookup hs (thn (ho pins s σ H _ I h) fun u s1 ⟨x,H1,I1,rx,q1⟩=>thn (hi pins s1 σ H1 _ I1 q1) fun iv s2 hm=>?_)
  obtain ⟨y,H2,I2,ry,a,v,ex,g,q2⟩:=hm
  subst ex
  obtain rfl:u=Value.ref a:=rx
  exact ⟨zcz I2 g,zi9 hu I2 g ry fun w' s3 I3 rw'=>⟨v,H2,I3,rw',q2⟩⟩
end
theorem zl2 {P:Program} {w:World} {H:Hp} (h:Heap) (hb:sysModules<h.objs.size):ObjOk P w H (h.push { cls:=.type "dict",data:=.dict #[] }) h.objs.size (.dK []) :=
  ⟨Nat.zero_le _,beq_eq_false_iff_ne.mpr (Ne.symm (Nat.ne_of_lt hb)),[],.nil,Heap.DictOf.new h⟩
def zpu:TE:=fun _ H Q=>∀ p,H p=none→Q (.ref p) (upd H p (.dK []))
section
variable {X:Cx} {pos:Pos}
theorem zk9:PE X (.Dict [] [] pos) zpu:=fun pins s σ H Q I h =>
  wpAny_Dict_empty ⟨.ref s.heap.objs.size,_,I.laid (a:=s.heap.objs.size) (o:=.dK []) (t':=s.toks) (fun _ _ q=>Heap.get?_push_of_some _ q) (Nat.le_refl _) (zl2 s.heap I.big),rfl,h _ (I.hok.fresh (Nat.le_refl _))⟩
end
section
variable {X:Cx} {pins:List (Addr×Obj)} {σ:St} {H:Hp} {s:Shared} {a:Addr} {y d:V} {u r:Value} {o:Option V} {A:Around} {E:Value→Shared→Prop}
end
section
variable {X:Cx} {o e f:Expr} {apos cpos:Pos} {td ty tx:TE}
end
section
variable {X:Cx} {pins:List (Addr×Obj)} {σ:St} {H:Hp} {s:Shared} {a:Addr} {kvs:List (Key×V)} {A:Around} {E:Value→Shared→Prop}
end
section
variable {X:Cx} {pins:List (Addr×Obj)} {σ:St} {H:Hp} {s:Shared} {a:Addr} {y:V} {u:Value} {A:Around} {E:Value→Shared→Prop}
end
end L2
namespace Att
open PySem PySem.W PySem.Calls PyProof.Rows
theorem z7d {P:Params} {h:Heap}:∀ (ns:List Int) (vs:List Value),WellAll P h vs (ns.map WData.int)→IntsAre vs ns:=by
  intro ns
  induction ns with
  | nil =>
    intro vs w
    rw [List.map_nil] at w
    cases w
    exact .nil
  | cons n ns ih =>
    intro vs w
    rw [List.map_cons] at w
    cases w with
    | cons a b =>
      cases a
      exact .cons _ _ (ih _ b)
theorem zg4 {l:OpenLaw} {n:Nat} (hn:l.most=some n) {P:Params} {h:Heap} {args:List WData} {vals:List Value}
    (hpre:l.row.toRowW.claim.pre args=true) (hwl:WellAll P h vals args) :
    ∃ a vs ns,vals=[Value.ref a]∧args=[WData.list (ns.map WData.int)]∧h.get? a=some { cls:=.type "list",data:=.seq vs.toArray }∧IntsAre vs ns∧ns.length≤n:=by
  have hsh:WShape.hasAll [] args [.list .int]=true:=(pre_splitW hpre).1
  have hc:l.pre.holds [] { args:=args }=true:=(pre_splitW hpre).2
  obtain ⟨d,r,rfl,h1,h2⟩:=hasAllW_cons hsh
  obtain rfl:=hasAllW_nil h2
  obtain ⟨xs,rfl,h3⟩:=hasW_list h1
  obtain ⟨ns,rfl⟩:=items_int h3
  have hlen:ns.length≤n:=by
    unfold OpenLaw.pre at hc
    have h4:(WTm.not (.lt (.lit (.int (n:Int))) (.len (.arg 0)))).holds [] { args:=[.list (ns.map .int)] }=true:=by
      have h4:=(holds_andW hc).1
      rw [hn] at h4
      exact h4
    have h5:=condW_of h4 (w_not (w_lt w_lit (w_len_list (w_arg rfl))))
    rw [List.length_map] at h5
    refine Nat.le_of_not_lt fun q=>?_
    have q':(n:Int)<((ns.length:Nat):Int):=by omega
    first
      | (rw [decide_eq_true q'] at h5;exact absurd h5 (by decide))
      | (simp at h5;omega)
  cases hwl with
  | cons w1 w2 =>
    cases w2
    cases w1 with
    | list ho hall=>exact ⟨_,_,ns,rfl,rfl,ho,z7d ns _ hall,hlen⟩
theorem zgu (l:OpenLaw) (args:List WData):l.row.toRowW.claim.post args (.bool true) args=true :=
  postW_of (r:=l.row.toRowW) (X:=(true==true))
    (show WShape.has [] (.bool true) .bool=true by first | rfl | decide | simp [WShape.has,WShape.arms,WShape.armsAll])
    (show (WTm.eq .res (.lit (.bool true))).value [] { args:=args,res:=some (.bool true),after:=args }=some (.bool (true==true)) from w_eq_bool (w_res rfl) w_lit) rfl
theorem attach_call {l:OpenLaw} {n:Nat} {q:Program} {loose:List Str} {XP:(Str→Option Value)→Heap→Prop} {YP:World→Heap→Prop} {d:DefRec}
    (hn:l.most=some n) (hdf:d.params.defaults=[])
    (call:∀ (w:World) (s₀ s₁:Shared) (mg mb:Str→Option Value) (fa:Addr) (o:Obj) (pm cd doc:Value) (a:Addr) (vs:List Value) (ns:List Int),
      Ground q loose [] XP w s₀ mg mb s₁.heap→YP w s₁.heap →
      s₁.heap.get? fa=some o→o.data=.func (docDef d.name d.params d.body d.scope pm cd doc)→s₁.heap.CodeRec cd d.name→mg d.name=some (.ref fa) →
      s₁.heap.get? a=some { cls:=.type "list",data:=.seq vs.toArray }→IntsAre vs ns→ns.length≤n→s₁.gens=#[] →
      codeAny (model l.prog w) callerA (.call (.ref fa) ⟨[.ref a],[]⟩) (fun r s'=>r=.ok (.ret (.bool true))∧OldK s₁.heap s'.heap∧s'.os=s₁.os∧AllBare s'.gens) s₁) :
    WalkO q loose XP YP l.row.toRowW d [] (fun f vs=>PySem.call f vs):=by
  intro w s₀ s₁ mg mb G Y fa o pm cd doc dV kV ho hd hcd hD hmg hg args vals as hpre hlay hrd hwl hlo
  obtain rfl:dV=.none:=Dflts.none hD hdf
  obtain rfl:kV=.none:=Dflts.noKw hD
  refine bq fun bG=>?_
  obtain ⟨a,vs,ns,rfl,rfl,hobj,hints,hlen⟩:=zg4 hn hpre hwl
  refine bG (enter_call (codeAny_mono (call w s₀ s₁ mg mb fa o pm cd doc a vs ns G Y ho (fd_plain hd) hcd hmg hobj hints hlen hg) fun r s' hq=>?_))
  refine bq fun bG=>?_
  obtain ⟨rfl,h2,h3,h4⟩:=hq
  exact bG (⟨.inl ⟨.bool true,.bool true,[],rfl,fun _=>rfl,.bool true,zgu l _,fun _=>⟨List.Pairwise.nil,fun _ hm=>(nomatch hm)⟩⟩,h2,h3,h4⟩)
section
variable {prog:Program} {w:World} {A:Around} {E:Value→Shared→Prop} {s:Shared} {K:Frag}
end
end Att
namespace L2
open PySem PySem.Spec PyProof.Rows
theorem z6t:∀ {vs:List Value} {ns:List Int},IntsAre vs ns→Vals (ns.map V.int) vs
  | _,_,.nil=>.nil
  | _,_,.cons n t h=>.cons ⟨t,rfl⟩ (z6t h)
def zt5 (H:Hp):Prop:=∀ b,H b=none∨∃ o xs,H b=some (.frz o (.lst xs))
theorem zkk {P:Program} {w:World} {K:PySem.W.Frag} {mg mb:Str→Option Value} {CX:CXT} {k:Nat} {fa a:Addr} {fd:FuncData} {x:Str} {sp:Sp} {s₁:Shared} {vs:List Value} {ns:List Int}
    (KX:K.In s₁.heap) (hns:s₁.heap.Ns mainGlobals mg) (hb:s₁.heap.Ns builtinsNs mb) (hbb:∀ x:Str,x ≠ "__name__" → mb x=bootBuiltins x) (hlim:s₁.heap.NoLimit) (hg:s₁.gens=#[])
    (ha:s₁.heap.get? a=some { cls:=.type "list",data:=.seq vs.toArray }) (hi:IntsAre vs ns) (hl:ns.length≤sizeLine) (hr:Room k callerA)
    (F:∀ base:Heap,K.In base→base.Ns mainGlobals mg→FnOk P w K mg base CX k fa fd [x] sp) (hbind:∀ (s:Shared) (u:Value),BindsTo s fd ⟨[u],[]⟩ [(x,u)])
    (hsp:∀ H:Hp,zt5 H→SqL K H a (ns.map V.int)→sp [.ref a] H (fun v _=>v=.bl true) fun _ _ _=>False)
    (hCX:∀ H e s',CX [] H s₁ (fun _ _ _=>False) e s'→False) :
    codeAny (model P w) callerA (.call (.ref fa) ⟨[.ref a],[]⟩) (fun r s'=>r=.ok (.ret (.bool true))∧OldK s₁.heap s'.heap∧s'.os=s₁.os∧AllBare s'.gens) s₁:=by
  have rv:=z6t hi
  have lenV:=hi.length
  have core:∀ H:Hp,zt5 H→SqL K H a (ns.map V.int)→HOk P w H s₁.heap→(∀ b,H b≠none→b=a)→(H a≠none→K.lookup a=none) →
      codeAny (model P w) callerA (.call (.ref fa) ⟨[.ref a],[]⟩) (fun r s'=>r=.ok (.ret (.bool true))∧OldK s₁.heap s'.heap∧s'.os=s₁.os∧AllBare s'.gens) s₁:=by
    intro H hO hS hok hA hK
    have base_of:∀ {b:Addr} {o:Obj},s₁.heap.get? b=some o→H b=none→(zkq s₁.heap H).get? b=some o:=fun e n=>zkp e n
    have noA:∀ {b:Addr} {o:Obj} {es:Array DictEntry} {ep:Nat},s₁.heap.get? b=some o→o.data=.dict es ep→H b=none:=fun {b o es ep} e d=>by
      cases q:H b with
      | none=>rfl
      | some u =>
        have e':b=a:=hA b (by rw [q];simp)
        subst e'
        rw [ha] at e;cases e
        have d':Data.seq vs.toArray _=Data.dict es ep:=d
        cases d'
    have nsK:∀ {b:Addr} {m:Str→Option Value},s₁.heap.Ns b m→(zkq s₁.heap H).Ns b m:=fun {b m} ⟨o,es,ep,e,d,r⟩=>⟨o,es,ep,base_of e (noA e d),d,r⟩
    have hKb:K.In (zkq s₁.heap H):=fun b o e=>base_of (KX b o e) (by
      cases q:H b with
      | none=>rfl
      | some u =>
        have e':b=a:=hA b (by rw [q];simp)
        subst e'
        rw [hK (by rw [q];simp)] at e;cases e)
    have hM:Mod K mg (zkq s₁.heap H):=⟨hKb,nsK hns,⟨mb,nsK hb,hbb⟩,let ⟨mc,h1,h2⟩:=hlim;⟨mc,nsK h1,h2⟩⟩
    have e0:Env0 P w K mg (zkq s₁.heap H) callerA [] s₁ H:=⟨rfl,hM,fun b o e=>zo2 e,Nat.le_of_eq (zht _ _),trivial,fun b hb=>absurd (show b∈([]:List Addr) from hb) (by simp),hok,.of_eq hg⟩
    refine codeAny_mono ((F _ hKb (nsK hns)).run callerA [] s₁ H ⟨[.ref a],[]⟩ [.ref a] [.ref a] _ _ hr e0 (hbind s₁ (.ref a)) (.cons rfl .nil) (hsp H hO hS)) fun r s' h=>?_
    cases r with
    | error e=>exact (hCX H e s' h).elim
    | ok fl =>
      cases fl with
      | next=>exact False.elim h
      | brk=>exact False.elim h
      | cont=>exact False.elim h
      | ret u =>
        obtain ⟨v,H',os,bare,un,hok',r',q⟩:=h
        have q':v=.bl true:=q
        subst q'
        obtain rfl:u=Value.bool true:=r'
        refine ⟨rfl,OldK.of_keep fun b o e=>?_,os,bare⟩
        cases q:H b with
        | none=>exact un.keep b o e q (by intro z;exact absurd (show b∈([]:List Addr) from z) (by simp)) (by simp)
        | some u =>
          rcases hO b with z | ⟨ob,xs,z⟩
          · rw [q] at z;cases z
          · have z2:=un.frzs b ob _ z
            obtain ⟨e1,_⟩:=hok b _ z
            obtain ⟨e2,_⟩:=hok' b _ z2
            rw [e] at e1;cases e1
            exact e2
  cases hk:K.lookup a with
  | some o =>
    have e:=KX a o hk
    rw [ha] at e
    cases e
    refine core (fun _=>none) (fun _=>.inl rfl) (.inr ⟨_,vs.toArray,_,hk,rfl,rfl,rfl,by rw [List.size_toArray,lenV];exact hl,by simpa using rv⟩) (fun b u z=>by have z':(none:Option HO)=some u:=z;cases z') (fun b z=>absurd rfl z) fun z=>absurd rfl z
  | none =>
    refine core (fun b=>if b=a then some (.frz { cls:=.type "list",data:=.seq vs.toArray } (.lst (ns.map V.int))) else none) (fun b=>?_) (.inl (.inr ⟨{ cls:=.type "list",data:=.seq vs.toArray },if_pos rfl⟩)) (fun b u z=>?_) (fun b z=>?_) fun _=>hk
    · by_cases hb:b=a
      · exact .inr ⟨_,_,if_pos hb⟩
      · exact .inl (if_neg hb)
    · by_cases hb:b=a
      · have z':=(if_pos hb).symm.trans z
        cases z'
        subst hb
        exact ⟨ha,by rw [List.length_map];exact hl,vs,_,rv,ha⟩
      · have z':=(if_neg hb).symm.trans z
        cases z'
    · by_cases hb:b=a
      · exact hb
      · exact absurd (if_neg hb) z
theorem walk_of {l:PySem.W.OpenLaw} {n k:Nat} {q:Program} {loose:List Str} {XP:(Str→Option Value)→Heap→Prop} {YP:World→Heap→Prop} {d:DefRec} {K:Params→PySem.W.Frag} {CX:World→CXT} {sp:World→Sp} {x:Str}
    (hn:l.most=some n) (hn2:n≤sizeLine) (hdf:d.params.defaults=[]) (hr:Room k callerA)
    (hY:∀ (w:World) (h:Heap),YP w h→(K w.params).In h)
    (F:∀ (w:World) (mg:Str→Option Value) (fa:Addr) (h:Heap),(K w.params).In h→h.Ns mainGlobals mg→mg d.name=some (.ref fa) →
      ∃ fd:FuncData,(∀ (s:Shared) (u:Value),BindsTo s fd ⟨[u],[]⟩ [(x,u)]) ∧
        ∀ base:Heap,(K w.params).In base→base.Ns mainGlobals mg→FnOk l.prog w (K w.params) mg base (CX w) k fa fd [x] (sp w))
    (hsp:∀ (w:World) (H:Hp) (a:Addr) (ns:List Int),ns.length≤n→zt5 H→SqL (K w.params) H a (ns.map V.int)→sp w [.ref a] H (fun v _=>v=.bl true) fun _ _ _=>False)
    (hCX:∀ (w:World) (H:Hp) (s:Shared) (e:Value) (s':Shared),CX w [] H s (fun _ _ _=>False) e s'→False) :
    PySem.W.WalkO q loose XP YP l.row.toRowW d [] (fun f vs=>PySem.call f vs):=by
  refine Att.attach_call hn hdf fun w s₀ s₁ mg mb fa o pm cd doc a vs ns G Y ho hd hcd hmg hobj hints hlen hg=>?_
  have KX:=hY w _ Y
  refine bq fun bG=>?_
  obtain ⟨fd,hb,hF⟩:=F w mg fa _ KX G.T.g hmg
  exact bG (zkk KX G.T.g G.T.b G.T.builtins G.T.nolimit hg hobj hints (Nat.le_trans hlen hn2) hr hF hb (fun H hO hS=>hsp w H a ns hlen hO hS) fun H e s'=>hCX w H s₁ e s')
noncomputable def z0r (s:Stmt):Arguments:=match s with
  | .FunctionDef _ a _ _ _ _ _ _ _ _=>a
  | _=>{ posonlyargs:=[],args:=[],vararg:=none,kwonlyargs:=[],kw_defaults:=[],kwarg:=none,defaults:=[] }
noncomputable def z0p (s:Stmt):List Stmt:=match s with
  | .FunctionDef _ _ b _ _ _ _ _ _ _=>b
  | _=>[]
noncomputable def z07 (s:Stmt):Scope:=match s with
  | .FunctionDef _ _ _ _ _ _ sc _ _ _=>sc
  | _=>{ kind:=.function,names:=[],isGenerator:=false,isCoroutine:=false }
noncomputable abbrev CX0:CXT:=fun _ _ _ _ _ _=>False
noncomputable abbrev E0:XK:=fun _ _ _=>False
theorem ztw {X:Cx}:zeb CX0 X E0:=fun _ _ _ _ _ _ _ h=>h.elim
structure Fun (K:PySem.W.Frag) (x qual:Str) (st:Stmt) (f:Addr) (fd:FuncData):Prop where
  ex:∃ (oc:Value) (od:Option Addr) (kV doc pm:Value) (an:Option Addr) (cdv ct:Value) (osl:Array (Option Value)),
    fd=PySem.W.fnOf x qual (z0r st) (z0p st) (z07 st) .none kV doc pm an cdv ct∧K.lookup f=some ⟨oc,od,.func fd,osl⟩∧PySem.W.codeIn K cdv qual=true
  kp:PySem.W.keepIn K (.ref f)=true
section
variable {P:Program} {w:World} {K:PySem.W.Frag} {mg:Str→Option Value} {base:Heap}
theorem Fun.ok {x qual:Str} {st:Stmt} {f:Addr} {fd:FuncData} {N ps:List Str} {k:Nat} {sp:Sp} (F:Fun K x qual st f fd) (S:FnScope N ps (z07 st)) (len:∀ vs H Q E,sp vs H Q E→vs.length=ps.length)
    (hbody:∀ (cdv:Value) (A:Around) (outer:List Env) (s:Shared) (H:Hp) (vs:List V) (Q:VK) (E:XK),Room k (A.deeper (envOfC qual (z07 st) s.heap.objs.size f cdv))→sp vs H Q E →
      ∃ t,PSs (z3w CX0 P w K mg base N qual (z07 st) f cdv A outer s H E).nox (z0p st) t∧t { nx:=fun _ H'=>Q .non H',rt:=Q } (z90 N vs) H):FnOk P w K mg base CX0 (k+1) f fd ps sp:=by
  refine bq fun bG=>?_
  obtain ⟨oc,od,kV,doc,pm,an,cdv,ct,osl,rfl,lk,hcd⟩:=F.ex
  refine bG (zs3 lk hcd S len fun A outer s H vs Q E hr hsp=>?_)
  refine bq fun bG=>?_
  obtain ⟨t,h,q⟩:=hbody cdv A outer s H vs Q E hr hsp
  exact bG (⟨t,h.nox,q⟩)
theorem Fun.binds {x qual:Str} {st:Stmt} {f:Addr} {fd:FuncData} {ps:List Str} (F:Fun K x qual st f fd)
    (h:∀ (kV doc pm:Value) (an:Option Addr) (cdv ct:Value) (us:List Value),us.length=ps.length→bindArgs (PySem.W.fnOf x qual (z0r st) (z0p st) (z07 st) .none kV doc pm an cdv ct) ⟨us,[]⟩=pure (ps.zip us)):Binds K fd ps []:=by
  refine bq fun bG=>?_
  obtain ⟨oc,od,kV,doc,pm,an,cdv,ct,osl,rfl,lk,hcd⟩:=F.ex
  exact bG (.all (h kV doc pm an cdv ct))
theorem z1a {x qual:Str} {st:Stmt} {f:Addr} {oc:Value} {od an:Option Addr} {osl:Array (Option Value)} {kV doc pm cdv ct:Value} (l:K.lookup f=some ⟨oc,od,.func (PySem.W.fnOf x qual (z0r st) (z0p st) (z07 st) .none kV doc pm an cdv ct),osl⟩)
    (c:PySem.W.codeIn K cdv qual=true) (k:PySem.W.keepIn K (.ref f)=true):Fun K x qual st f (PySem.W.fnOf x qual (z0r st) (z0p st) (z07 st) .none kV doc pm an cdv ct):=⟨⟨oc,od,kV,doc,pm,an,cdv,ct,osl,rfl,l,c⟩,k⟩
end
section
variable {X:Cx}
theorem pv (i:Nat) {x:Str} {pos:Pos} (hN:X.N[i]?=some x:=by rfl) (hv:Vis X.env.scope x:=by first | exact Or.inl rfl | exact Or.inr (Or.inl rfl) | exact Or.inr (Or.inr rfl)) (hd:(x==("__debug__" : Str))=false:=by decide)
    (hcd:(x==("__classdict__" : Str))=false:=by decide):PE X (.Name x pos) (zul i):=zly hN hv hd hcd
end
theorem zu5 {A B:Prop} (h:B):if false=true then A else B:=by
  rw [if_neg Bool.false_ne_true]
  exact h
theorem zu4 {A B:Prop} (h:A):if true=true then A else B:=by
  rw [if_pos rfl]
  exact h
theorem zma {c A B:Prop} [Decidable c] (h1:c→A) (h2:¬ c→B):if c then A else B:=by
  by_cases h:c
  · rw [if_pos h]
    exact h1 h
  · rw [if_neg h]
    exact h2 h
section
variable {X:Cx}
end
section
variable {κ:Type} [DecidableEq κ]
end
end L2
namespace Tim
open PySem PyProof.Rows
section
variable {prog:Program} {w:World} {A:Around} {E:Value→Shared→Prop} {s:Shared} {n:Nat} {pe:Array (Nat×Nat×Nat)} {st:SortSt}
end
section
variable {prog:Program} {w:World} {A:Around} {E:Value→Shared→Prop} {s:Shared} {st:SortSt}
end
section
variable {prog:Program} {w:World} {A:Around} {E:Value→Shared→Prop} {s:Shared} {n:Nat} {pe:Array (Nat×Nat×Nat)} {st:SortSt}
end
section
variable {prog:Program} {w:World} {A:Around} {E:Value→Shared→Prop} {s:Shared} {n:Nat} {pe:Array (Nat×Nat×Nat)} {st:SortSt}
end
section
variable {prog:Program} {w:World} {A:Around} {E:Value→Shared→Prop} {s:Shared} {n:Nat} {pe:Array (Nat×Nat×Nat)} {st:SortSt}
end
section
variable {prog:Program} {w:World} {A:Around} {E:Value→Shared→Prop} {s:Shared} {n:Nat} {pe:Array (Nat×Nat×Nat)} {st:SortSt}
end
section
variable {prog:Program} {w:World} {A:Around} {E:Value→Shared→Prop} {s:Shared}
end
end Tim
namespace L2
open PySem PySem.Spec PyProof.Rows
noncomputable def z0a (X:Cx) (N':List Str) (scope:Scope) (cl:List (Str×Addr)) (C:Addr) (s₀:Shared) (H₀:Hp) (ex:List Addr):Cx :=
  { X with N:=N',s₀:=s₀,H₀:=H₀,env:=compEnvC scope cl C X.env,outer:=X.stack,ex:=ex,fn:=fun x=>scope.names.lookup x==some NameKind.cell,pn:=[] }
theorem z5v {env:Env}:∀ (names:List (Str×NameKind)) (acc:List (Str×Addr)),(∀ y∈names,y.2=.free→∃ c,env.cells.lookup y.1=some c) →
    (∀ y c,acc.lookup y=some c→env.cells.lookup y=some c) →
    ∃ cl,(forIn names acc fun x r=>if (x.2==NameKind.free)=true then do let c ← cellOf env x.1;pure (ForInStep.yield ((x.1,c)::r)) else pure (ForInStep.yield r):Sem (List (Str×Addr)))=pure cl ∧
      (∀ y c,cl.lookup y=some c→env.cells.lookup y=some c)∧(∀ y,(y,NameKind.free)∈names→∃ c,cl.lookup y=some c)∧∀ y c,acc.lookup y=some c→∃ c',cl.lookup y=some c'
  | [],acc,_,ha=>⟨acc,by simp,ha,fun _ h=>by simp at h,fun y c h=>⟨c,h⟩⟩
  | (n,k)::r,acc,h,ha=>by
    by_cases hk:k=.free
    · subst hk
      obtain ⟨c,hc⟩:=h (n,.free) List.mem_cons_self rfl
      have e:cellOf env n=pure c:=by unfold cellOf;rw [hc]
      obtain ⟨cl,e1,h1,h2,h3⟩:=z5v r ((n,c)::acc) (fun y hy=>h y (List.mem_cons_of_mem _ hy)) (fun y d hd=>by
        rw [List.lookup_cons] at hd
        split at hd
        · rename_i hb
          have:y=n:=by simpa using hb
          subst this
          cases hd
          exact hc
        · exact ha y d hd)
      refine ⟨cl,?_,h1,fun y hy=>?_,fun y d hd=>?_⟩
      · rw [List.forIn_cons,e]
        simpa using e1
      · rcases List.mem_cons.mp hy with z | z
        · cases z
          exact h3 n c (by simp [List.lookup_cons])
        · exact h2 y z
      · by_cases hy:y=n
        · subst hy
          exact h3 y c (by simp [List.lookup_cons])
        · have hb:(y==n)=false:=by simpa using hy
          exact h3 y d (by simp only [List.lookup_cons,hb];exact hd)
    · have hb:(k==NameKind.free)=false:=by simpa using hk
      refine bq fun bG=>?_
      obtain ⟨cl,e1,h1,h2,h3⟩:=z5v r acc (fun y hy=>h y (List.mem_cons_of_mem _ hy)) ha
      refine bG (⟨cl,?_,h1,fun y hy=>?_,h3⟩)
      · rw [List.forIn_cons]
        simpa [hb] using e1
      · rcases List.mem_cons.mp hy with z | z
        · cases z
          exact absurd rfl hk
        · exact h2 y z
theorem z1s {scope:Scope} {env:Env} (h:∀ y∈scope.names,y.2=.free→∃ c,env.cells.lookup y.1=some c) :
    ∃ cl,closureFor scope env=pure cl∧(∀ y c,cl.lookup y=some c→env.cells.lookup y=some c)∧∀ y,(y,NameKind.free)∈scope.names→∃ c,cl.lookup y=some c:=by
  refine bq fun bG=>?_
  obtain ⟨cl,e,h1,h2,_⟩:=z5v (env:=env) scope.names [] h (fun _ _ z=>by simp at z)
  refine bG (⟨cl,?_,h1,h2⟩)
  unfold closureFor
  show ((forIn scope.names [] fun x r=>if (x.2==NameKind.free)=true then do let c ← cellOf env x.1;pure (ForInStep.yield ((x.1,c)::r)) else pure (ForInStep.yield r):Sem (List (Str×Addr))) >>= fun cs=>pure cs)=pure cl
  rw [e]
  rfl
section
variable {prog:Program} {w:World} {A:Around} {R:Result→Shared→Prop} {s:Shared}
theorem zbb {elt target iter:Expr} {ifs:List Expr} {scope:Scope} {pos:Pos} {it acc:Value} {env:Env} (I:Nat→Shared→Prop)
    (turn:∀ n s,I n s→wpAny (model prog w) A (pyNext it) (fun r s₁=>match r with
      | none=>R (.ok .next) s₁
      | some v=>wpAny (model prog w) A (letOwnedTupleGo target it v) (fun _ s₁'=>wpAny (model prog w) A (assign target env v) (fun _ s₂ =>
          wpAny (model prog w) A (forIn ifs true fun c r=>if r=true then do let ok ← isTrue c env (eval c env);pure (ForInStep.yield ok) else pure (ForInStep.yield r)) (fun ok s₃ =>
            if ok=true then wpAny (model prog w) A (eval elt env) (fun x s₄ =>
              wpAny (model prog w) A (call (.builtin "list.append") [acc,x]) (fun _ s₅=>∃ m,m<n∧I m s₅) (fun _ _=>False) s₄) (fun _ _=>False) s₃
            else ∃ m,m<n∧I m s₃) (fun _ _=>False) s₂) (fun _ _=>False) s₁') (fun _ _=>False) s₁) (fun _ _=>False) s)
    (n:Nat) (h:I n s):codeAny (model prog w) A (.compLoop (.ListComp elt [⟨target,iter,ifs,0⟩] scope pos) 0 it acc env) R s:=by
  refine codeAny_loop rfl I (fun n s hI=>?_) n h
  show wpAny _ A ((compTurn (.ListComp elt [⟨target,iter,ifs,0⟩] scope pos) 0 it acc env).onRaise (fun x=>do noteFrame x env;theTreesLotGoes x)) _ _ s
  refine wpAny_noted ?_
  rw [compTurn_list]
  refine wpAny_mono (E:=fun _ _=>False) ?_ (fun _ _ x=>x) fun _ _ x=>x.elim
  refine wpAny_bind (wpAny_standAt (wpAny_bind (wpAny_mono (turn n s hI) (fun r s₁ h₁=>?_) fun _ _ h'=>h')))
  cases r with
  | none=>exact wpAny_pure h₁
  | some v =>
    refine wpAny_bind (wpAny_mono h₁ (fun _ s₁' h₁'=>?_) fun _ _ h'=>h')
    refine wpAny_bind (wpAny_mono h₁' (fun _ s₂ h₂=>wpAny_bind (wpAny_mono h₂ (fun ok s₃ h₃=>?_) fun _ _ h'=>h')) fun _ _ h'=>h')
    cases ok with
    | false=>exact wpAny_pure ⟨rfl,h₃⟩
    | true =>
      exact wpAny_bind (wpAny_bind (wpAny_mono h₃ (fun x s₄ h₄=>wpAny_bind (wpAny_mono h₄ (fun _ s₅ h₅=>wpAny_pure (wpAny_pure ⟨rfl,h₅⟩)) fun _ _ h'=>h')) fun _ _ h'=>h'))
end
theorem z4o {env:Env} {x:Str}:∀ {names:List (Str×NameKind)},names.lookup x=some .free →
    (names.map fun (n,k)=>if (k==NameKind.free&&env.scope.kind==.function&&env.kindOf n==some .cell) then (n,NameKind.cell) else (n,k)).lookup x=some .free ∨
    (names.map fun (n,k)=>if (k==NameKind.free&&env.scope.kind==.function&&env.kindOf n==some .cell) then (n,NameKind.cell) else (n,k)).lookup x=some .cell
  | [],h=>by simp at h
  | (n,k)::r,h=>by
    have ih:=@z4o env x r
    show List.lookup x ((if (k==NameKind.free&&env.scope.kind==.function&&env.kindOf n==some .cell)=true then (n,NameKind.cell) else (n,k))::_)=_∨List.lookup x ((if (k==NameKind.free&&env.scope.kind==.function&&env.kindOf n==some .cell)=true then (n,NameKind.cell) else (n,k))::_)=_
    cases hx:x==n with
    | true =>
      simp only [List.lookup_cons,hx] at h
      cases h
      by_cases hc:(NameKind.free==NameKind.free&&env.scope.kind==.function&&env.kindOf n==some .cell)=true
      · rw [if_pos hc];exact .inr (by simp [List.lookup_cons,hx])
      · rw [if_neg hc];exact .inl (by simp [List.lookup_cons,hx])
    | false =>
      simp only [List.lookup_cons,hx] at h
      by_cases hc:(k==NameKind.free&&env.scope.kind==.function&&env.kindOf n==some .cell)=true
      · rw [if_pos hc];simp only [List.lookup_cons,hx];exact ih h
      · rw [if_neg hc];simp only [List.lookup_cons,hx];exact ih h
theorem z5y {env:Env} {x:Str}:∀ {names:List (Str×NameKind)},
    ((names.map fun (n,k)=>if (k==NameKind.free&&env.scope.kind==.function&&env.kindOf n==some .cell) then (n,NameKind.cell) else (n,k)).lookup x=some .cell ∨
     (names.map fun (n,k)=>if (k==NameKind.free&&env.scope.kind==.function&&env.kindOf n==some .cell) then (n,NameKind.cell) else (n,k)).lookup x=some .free)→names.lookup x=some .free∨names.lookup x=some .cell
  | [],h=>by simp at h
  | (n,k)::r,h=>by
    have ih:=@z5y env x r
    have h:List.lookup x ((if (k==NameKind.free&&env.scope.kind==.function&&env.kindOf n==some .cell)=true then (n,NameKind.cell) else (n,k))::(r.map fun (n,k)=>if (k==NameKind.free&&env.scope.kind==.function&&env.kindOf n==some .cell) then (n,NameKind.cell) else (n,k)))=some .cell ∨
      List.lookup x ((if (k==NameKind.free&&env.scope.kind==.function&&env.kindOf n==some .cell)=true then (n,NameKind.cell) else (n,k))::(r.map fun (n,k)=>if (k==NameKind.free&&env.scope.kind==.function&&env.kindOf n==some .cell) then (n,NameKind.cell) else (n,k)))=some .free:=h
    cases hx:x==n with
    | true =>
      by_cases hc:(k==NameKind.free&&env.scope.kind==.function&&env.kindOf n==some .cell)=true
      · have:k=.free:=by
          have z:=(Bool.and_eq_true_iff.mp (Bool.and_eq_true_iff.mp hc).1).1
          simpa using z
        subst this
        exact .inl (by simp [List.lookup_cons,hx])
      · rw [if_neg hc] at h
        simp only [List.lookup_cons,hx] at h ⊢
        exact h.symm
    | false =>
      have:∀ p:NameKind,List.lookup x ((if (k==NameKind.free&&env.scope.kind==.function&&env.kindOf n==some .cell)=true then (n,NameKind.cell) else (n,k))::(r.map fun (n,k)=>if (k==NameKind.free&&env.scope.kind==.function&&env.kindOf n==some .cell) then (n,NameKind.cell) else (n,k)))=some p↔(r.map fun (n,k)=>if (k==NameKind.free&&env.scope.kind==.function&&env.kindOf n==some .cell) then (n,NameKind.cell) else (n,k)).lookup x=some p:=fun p=>by
        by_cases hc:(k==NameKind.free&&env.scope.kind==.function&&env.kindOf n==some .cell)=true
        · rw [if_pos hc];simp only [List.lookup_cons,hx]
        · rw [if_neg hc];simp only [List.lookup_cons,hx]
      rw [this .cell,this .free] at h
      have:=ih h
      simp only [List.lookup_cons,hx]
      exact this
theorem z14:∀ (names:List (Str×NameKind)) (n:Nat) (acc:List (Str×Addr)),cellsFrom n names acc=cellsFrom n names []++acc
  | [],_,_=>rfl
  | (name,kind)::r,n,acc=>by
    unfold cellsFrom
    split
    · rw [z14 r (n+1) ((name,n)::acc),z14 r (n+1) [(name,n)],List.append_assoc]
      rfl
    · exact z14 r n acc
theorem z7t {x:Str} {c:Addr}:∀ (names:List (Str×NameKind)) (n:Nat) (acc:List (Str×Addr)),(x,c)∈cellsFrom n names acc→(x,NameKind.cell)∈names∨(x,c)∈acc
  | [],_,_,h=>.inr h
  | (name,kind)::r,n,acc,h=>by
    unfold cellsFrom at h
    split at h
    · rename_i hk
      have hk':kind=.cell:=by simpa using hk
      rcases z7t r (n+1) _ h with z | z
      · exact .inl (List.mem_cons_of_mem _ z)
      · rcases List.mem_cons.mp z with z | z
        · cases z;rw [hk'];exact .inl List.mem_cons_self
        · exact .inr z
    · rcases z7t r n acc h with z | z
      · exact .inl (List.mem_cons_of_mem _ z)
      · exact .inr z
structure CompScope (X:Cx) (N' own:List Str) (cap:List (Str×Nat)) (scope:Scope):Prop where
  kind:scope.kind=.function
  own1:∀ y∈scope.names,y.2=.cell→scope.names.lookup y.1=some .cell
  free1:∀ y∈scope.names,y.2=.free→scope.names.lookup y.1=some .free
  names:∀ y∈scope.names,y.2=.local→scope.names.lookup y.1=some .local
  free:∀ y∈scope.names,y.2=.free→X.env.kindOf y.1=some .cell∨X.env.kindOf y.1=some .free
  eq:N'=own++cap.map (·.1)
  cap:∀ p∈cap,X.N[p.2]?=some p.1∧scope.names.lookup p.1=some .free∧(X.env.kindOf p.1=some .cell∨X.env.kindOf p.1=some .free)
noncomputable def z3c (own:List Str) (cap:List (Str×Nat)) (σ:St):St:=own.map (fun _=>none)++cap.map fun p=>(σ[p.2]?).join
section
variable {X:Cx} {pins:List (Addr×Obj)} {σ:St} {H:Hp} {s:Shared} {N' own:List Str} {cap:List (Str×Nat)} {scope:Scope} {cl:List (Str×Addr)} {fp:List Addr}
structure CellsAre (X:Cx) (scope:Scope) (C:Addr) (cl cs:List (Str×Addr)):Prop where
  old:∀ y c,cs.lookup y=some c→(cl.lookup y=some c∧scope.names.lookup y≠some .cell)∨(C<c∧scope.names.lookup y=some .cell)
  free:∀ y c,cl.lookup y=some c→scope.names.lookup y≠some .cell→cs.lookup y=some c
  has:∀ y,scope.names.lookup y=some .cell→∃ c,cs.lookup y=some c
  inj:∀ x y c,C<c→cs.lookup x=some c→cs.lookup y=some c→x=y
theorem z1r {α:Type} {x:Str}:∀ {l r:List (Str×α)},(l++r).lookup x=(l.lookup x).or (r.lookup x)
  | [],r=>by simp
  | (k,v)::l,r=>by
    have ih:=@z1r α x l r
    rw [List.cons_append,List.lookup_cons,List.lookup_cons]
    cases x==k with
    | true=>rfl
    | false=>exact ih
theorem z7u {h:Heap} {C:Addr} (hC:h.objs.size=C+1) (S:CompScope X N' own cap scope) (hcl:∀ y c,cl.lookup y=some c→¬ C<c):CellsAre X scope C cl (cellsFrom (C+1) scope.names cl):=by
  have ok:=cellsFrom_ok scope.names h (C+1) [] ⟨fun _ _ hm=>(nomatch hm),List.Pairwise.nil⟩ (by rw [hC];exact Nat.le_refl _)
  rw [hC] at ok
  have own:∀ y c,(cellsFrom (C+1) scope.names []).lookup y=some c→C<c∧scope.names.lookup y=some .cell:=fun y c e=>by
    have m:=PySem.mem_of_lookup e
    refine ⟨(ok.empty y c m).2,?_⟩
    rcases z7t _ _ _ m with z | z
    · exact S.own1 _ z rfl
    · simp at z
  have no:∀ y,scope.names.lookup y≠some .cell→(cellsFrom (C+1) scope.names []).lookup y=none:=fun y hy=>by
    cases e:(cellsFrom (C+1) scope.names []).lookup y with
    | none=>rfl
    | some c=>exact absurd (own y c e).2 hy
  have has:∀ y,scope.names.lookup y=some .cell→∃ c,(cellsFrom (C+1) scope.names []).lookup y=some c:=fun y hy=>Option.isSome_iff_exists.mp (PySem.W.cellsFrom_some scope.names (C+1) [] (.inl hy))
  refine ⟨fun y c e=>?_,fun y c e hy=>?_,fun y hy=>?_,fun x y c hc e1 e2=>?_⟩
  · rw [z14,z1r] at e
    cases q:(cellsFrom (C+1) scope.names []).lookup y with
    | none =>
      rw [q] at e
      refine .inl ⟨e,fun z=>?_⟩
      obtain ⟨c',e'⟩:=has y z
      rw [q] at e';cases e'
    | some c' =>
      rw [q] at e
      have:c'=c:=Option.some.inj e
      subst this
      exact .inr (own y c' q)
  · rw [z14,z1r,no y hy]
    exact e
  · obtain ⟨c,e⟩:=has y hy
    exact ⟨c,by rw [z14,z1r,e];rfl⟩
  · have ztq:∀ z,(cellsFrom (C+1) scope.names cl).lookup z=some c→(z,c)∈cellsFrom (C+1) scope.names []:=fun z e=>by
      rw [z14,z1r] at e
      cases q:(cellsFrom (C+1) scope.names []).lookup z with
      | none=>rw [q] at e;exact absurd hc (hcl z c e)
      | some c' =>
        rw [q] at e
        have:c'=c:=Option.some.inj e
        subst this
        exact PySem.mem_of_lookup q
    exact PySem.name_of_addr ok.apart (ztq x e1) (ztq y e2)
theorem zov (I:Inv X pins σ H s) (S:CompScope X N' own cap scope) {cs:List (Str×Addr)} (A:CellsAre X scope s.heap.objs.size cl cs) (c1:∀ y c,cl.lookup y=some c→X.env.cells.lookup y=some c) (c2:∀ y,(y,NameKind.free)∈scope.names→∃ c,cl.lookup y=some c)
    (hf:∀ b∈fp,z5x X pins H b) (hlt:∀ b∈fp,b<s.heap.objs.size):(z0a X N' scope cs s.heap.objs.size s H fp).Ok where
  mod:=I.ok.mod
  kind:=S.kind
  glob:=I.ok.glob
  blt:=I.ok.blt
  above:=Nat.le_refl _
  inj:=fun x y c h1 h2=>by
    rcases A.old x c h1 with ⟨a1,_⟩ | ⟨a1,_⟩
    · rcases A.old y c h2 with ⟨b1,_⟩ | ⟨b1,_⟩
      · exact I.ok.inj x y c (c1 x c a1) (c1 y c b1)
      · obtain ⟨v,o,ho,_⟩:=I.cell x c (c1 x c a1)
        exact absurd (Nat.lt_trans b1 (Heap.lt_size ho)) (Nat.lt_irrefl _)
    · exact A.inj x y c a1 h1 h2
  has:=fun x h=>by
    rcases z5y h with z | z
    · obtain ⟨c,e⟩:=c2 x (PySem.mem_of_lookup z)
      exact ⟨c,A.free x c e (by rw [z];simp)⟩
    · exact A.has x z
  cab:=fun x c h e=>by
    have h':scope.names.lookup x=some .cell:=by
      have:(scope.names.lookup x==some NameKind.cell)=true:=h
      simpa using this
    rcases A.old x c e with ⟨_,z⟩ | ⟨z,_⟩
    · exact absurd h' z
    · exact Nat.le_of_lt z
  hd:=I.ok.hd
  frames:=I.ok.frames
  stk:=.inl rfl
  exf:=fun b hb=>⟨Nat.ne_of_lt (hlt b hb),fun x c h=>by
    rcases A.old x c h with ⟨z,_⟩ | ⟨z,_⟩
    · exact (hf b hb).2.2.2.2.1 x c (c1 x c z)
    · exact fun e=>absurd (Nat.lt_trans (e ▸ z) (hlt b hb)) (Nat.lt_irrefl _)⟩
  bs:=I.bs
  bsz:=Nat.le_trans I.ok.bsz I.sz
  noex:=fun b o e hb=>by
    rcases (hf b hb).2.2.2.1 with z | z
    · exact I.ok.noex b o e z
    · exact absurd (Nat.lt_of_lt_of_le (Heap.lt_size e) (Nat.le_trans I.ok.bsz z)) (Nat.lt_irrefl _)
  exfs:=fun b hb z=>by
    rcases List.mem_cons.mp (I.stkSub b z) with q | q
    · exact (hf b hb).2.1 q
    · exact (hf b hb).2.2.1 q
  funs:=I.stack
  frf:=I.stkFree
theorem z9x {h':Heap} {t':Nat} {cs:List (Str×Addr)} (I:Inv X pins σ H s) (S:CompScope X N' own cap scope) (A:CellsAre X scope s.heap.objs.size cl cs) (hA:∀ y c,cs.lookup y=some c→s.heap.objs.size<c→h'.IsCell c none)
    (c1:∀ y c,cl.lookup y=some c→X.env.cells.lookup y=some c) (c2:∀ y,(y,NameKind.free)∈scope.names→∃ c,cl.lookup y=some c)
    (hf:∀ b∈fp,z5x X pins H b) (hlt:∀ b∈fp,b<s.heap.objs.size) (hk:∀ b o,s.heap.get? b=some o→h'.get? b=some o) {m:Str→Option Value} (hn:h'.Ns s.heap.objs.size m) :
    Inv (z0a X N' scope cs s.heap.objs.size s H fp) [] (z3c own cap σ) H { s with heap:=h',toks:=t' }:=by
  refine ⟨zov I S A c1 c2 hf hlt,rfl,I.bare,Un.kept hk,⟨m,hn,fun i x v h1 h2 h3=>?_⟩,fun x c e=>?_,I.hok.fresh (Nat.le_refl _),fun x c e=>?_,fun p hp=>absurd hp (by show p∉([]++[]:List (Addr×Obj));simp),?_,?_⟩
  · have hi:own.length≤i:=by
      by_cases hi:own.length≤i
      · exact hi
      · unfold z3c at h2
        rw [List.getElem?_append_left (by rw [List.length_map];omega),List.getElem?_map] at h2
        cases e:own[i]? with
        | none=>rw [e] at h2;cases h2
        | some a=>rw [e] at h2;cases h2
    have h1':(own++cap.map (·.1))[i]?=some x:=by rw [← S.eq];exact h1
    rw [List.getElem?_append_right hi,List.getElem?_map] at h1'
    unfold z3c at h2
    rw [List.getElem?_append_right (by rw [List.length_map];exact hi),List.length_map,List.getElem?_map] at h2
    cases e:cap[i - own.length]? with
    | none=>rw [e] at h2;cases h2
    | some p =>
      rw [e] at h1' h2
      have ex:p.1=x:=Option.some.inj h1'
      have ev:(σ[p.2]?).join=some v:=Option.some.inj h2
      have ev':σ[p.2]?=some (some v):=by
        cases q:σ[p.2]? with
        | none=>rw [q] at ev;cases ev
        | some z=>rw [q] at ev;exact congrArg some ev
      refine bq fun bG=>?_
      obtain ⟨k1,k2,k3⟩:=S.cap p (List.mem_of_getElem? e)
      subst ex
      obtain ⟨m0,hn0,hl⟩:=I.loc
      obtain ⟨u,ru,lk⟩:=hl p.2 p.1 v k1 ev' (by rcases k3 with z | z;exact .inr (.inl z);exact .inr (.inr z))
      refine bG (⟨u,ru,?_⟩)
      rcases lk with ⟨z,_⟩ | ⟨_,c,hc,hcell⟩
      · rcases k3 with q | q <;> (rw [z] at q;cases q)
      · refine .inr ⟨?_,c,?_,?_⟩
        · rcases z4o (env:=X.env) k2 with q | q
          · exact .inr q
          · exact .inl q
        · obtain ⟨c',e'⟩:=c2 p.1 (PySem.mem_of_lookup k2)
          have:=c1 _ _ e'
          rw [hc] at this
          cases this
          exact A.free _ _ e' (by rw [k2];simp)
        · obtain ⟨o,ho,hd⟩:=hcell
          exact ⟨o,hk _ _ ho,hd⟩
  · rcases A.old x c e with ⟨z,_⟩ | ⟨z,_⟩
    · obtain ⟨v,o,ho,hd⟩:=I.cell x c (c1 x c z)
      exact ⟨v,o,hk _ _ ho,hd⟩
    · exact ⟨none,hA x c e z⟩
  · rcases A.old x c e with ⟨z,_⟩ | ⟨z,_⟩
    · exact I.freeC x c (c1 x c z)
    · exact I.hok.fresh (Nat.le_of_lt z)
  · exact I.hok.kept hk
  · show (z3c own cap σ).length=N'.length
    rw [S.eq]
    unfold z3c
    simp
end
noncomputable def PIf (X:Cx) (ifs:List Expr) (t:TT):Prop :=
  ∀ (pins:List (Addr×Obj)) (s:Shared) (σ:St) (H:Hp) (Q:Bool→Hp→Prop),Inv X pins σ H s→t σ H Q →
    wpAny (model X.prog X.w) X.A (forIn ifs true fun c r=>if r=true then do let ok ← isTrue c X.env (eval c X.env);pure (ForInStep.yield ok) else pure (ForInStep.yield r)) (TP X pins σ Q) X.xe s
def zv2:TT:=fun _ H Q=>Q true H
theorem znn {X:Cx}:PIf X [] zv2:=fun _ _ _ H _ I h=>wpAny_tests_nil ⟨H,I,h⟩
theorem znm {X:Cx} {c:Expr} {t:TT} (h:PT X c t):PIf X [c] t:=fun pins s σ H Q I hw=>wpAny_tests_one (h pins s σ H Q I hw)
theorem z3n {M:Model} {A:Around} {E:Value→Shared→Prop} {s:Shared} {scope:Scope} {globals:Addr} {cl:List (Str×Addr)} {qual:Str} {env:Env} {Q:Env→Shared→Prop}
    (hQ:∀ h',h'.Ns s.heap.objs.size (fun _=>none)→(∀ b o,s.heap.get? b=some o→h'.get? b=some o)→(∀ n c,(n,c)∈cellsFrom (s.heap.objs.size+1) scope.names []→h'.IsCell c none) →
      Q (newEnv scope s.heap.objs.size globals (cellsFrom (s.heap.objs.size+1) scope.names cl) qual none .none (some env) builtinsNs) { s with heap:=h' }) :
    wpAny M A (newFunctionEnv scope globals cl [] qual none .none (some env)) Q E s:=by
  simp only [newFunctionEnv,Option.isSome_some,if_true]
  refine wpAny_bind (wpAny_alloc ?_)
  refine wpAny_bind (wpAny_layCells _ (fun name kind cells=>by cases hkc:kind==NameKind.cell <;> simp [hkc]) _ _ _ _ ?_)
  have ok:=cellsFrom_ok scope.names (s.heap.push { cls:=.type "dict",data:=.dict #[] }) (s.heap.objs.size+1) [] ⟨fun _ _ hm=>(nomatch hm),List.Pairwise.nil⟩ (by rw [Heap.size_push];exact Nat.le_refl _)
  rw [Heap.size_push] at ok
  rw [show ({ s with heap:=s.heap.push { cls:=.type "dict",data:=.dict #[] } }:Shared).heap.objs.size=s.heap.objs.size+1 from Heap.size_push ..]
  rw [List.forIn_nil]
  refine wpAny_bind (wpAny_pure (wpAny_pure ?_))
  exact hQ _ ((Heap.Ns.new s.heap (.type "dict")).keeps (pushCells_keeps _ _)) (fun b o e=>pushCells_keeps _ _ b o (Heap.get?_push_of_some _ e)) fun n c hm=>(ok.empty n c hm).1
noncomputable def z3i (J:It) (g:TG) (tc:TT) (te:TE) (D:Addr) (σ0:St) (H0:Hp) (Z:Hp→Prop):Prop :=
  ∃ W:Nat→Nat→St→Hp→Prop,(∃ m,W 0 m σ0 (upd H0 D (.lst [])))∧∀ i m σ H,W i m σ H →
    (J.stop i H∧Z H)∨(J.go i H∧∃ N:St→Hp→Prop,(∀ σ' H',N σ' H'→∃ m',m'<m∧W (i+1) m' σ' H')∧∀ x H',J.yld i H x H'→g x σ H' fun σ2 H2=>tc σ2 H2 fun b H3 =>
      if b=true then te σ2 H3 fun v H4=>∃ ys,H4 D=some (.lst ys)∧ys.length<sizeLine∧N σ2 (upd H4 D (.lst (ys++[v]))) else N σ2 H3)
section
variable {X:Cx} {pins:List (Addr×Obj)} {σ:St} {N' own:List Str} {cap:List (Str×Nat)} {scope:Scope} {tg iter elt:Expr} {ifs:List Expr} {pos:Pos} {g:TG} {tc:TT} {te:TE}
theorem zib {Y:Cx} {s:Shared} {σ0:St} {H2:Hp} {it D:Addr} {fp:List Addr} {tn:Nat→Heap→Prop} {J:It} {Z:Hp→Prop} {R:Result→Shared→Prop}
    (hx:∀ e s,Y.xe e s→False) (hc:Y.calm=true) (hg:PG Y tg g) (ht:PIf Y ifs tc) (he:PE Y elt te)
    (T:Turn Y.prog Y.w Y.K tg J fp it tn) (J0:Inv Y [] σ0 (upd H2 D (.lst [])) s) (st3:tn 0 s.heap) (f3:∀ b∈fp,upd H2 D (.lst []) b=none)
    (stat:∀ {H':Hp},(∀ b∈fp,H' b=none)→∀ b∈fp,z5x Y [] H' b) (h:z3i J g tc te D σ0 H2 Z)
    (hR:∀ σ4 H4 s5,Inv Y [] σ4 H4 s5→Z H4→R (.ok .next) s5) :
    codeAny (model Y.prog Y.w) Y.A (.compLoop (.ListComp elt [⟨tg,iter,ifs,0⟩] scope pos) 0 (.ref it) (.ref D) Y.env) R s:=by
  obtain ⟨W,⟨m0,w0⟩,turn⟩:=h
  have noX:∀ {α:Type} {t:Sem α} {Q:α→Shared→Prop} {s:Shared},wpAny (model Y.prog Y.w) Y.A t Q Y.xe s→wpAny (model Y.prog Y.w) Y.A t Q (fun _ _=>False) s:=fun q=>wpAny_mono q (fun _ _ z=>z) fun e s z=>hx e s z
  obtain ⟨P,hP⟩:∃ P:Nat→Shared→Prop,∀ n s',P n s'↔∃ i σ' H',Inv Y [] σ' H' s'∧tn i s'.heap∧(∀ b∈fp,H' b=none)∧W i n σ' H':=⟨_,fun _ _=>Iff.rfl⟩
  refine zbb P ?_ m0 ((hP _ _).2 ⟨0,_,_,J0,st3,f3,w0⟩)
  rintro n s4 h4
  obtain ⟨i,σ4,H4,I4,st4,fr4,w4⟩:=(hP _ _).1 h4
  rcases turn i n σ4 H4 w4 with ⟨stop,qz⟩ | ⟨go,N,hN,step⟩
  · refine wpAny_mono (T.done Y rfl rfl rfl hc i [] s4 σ4 H4 (fun _ _=>False) I4 (stat fr4) st4 stop) (fun r s5 ⟨hr,I5⟩=>?_) fun _ _ z=>z
    subst hr
    exact hR σ4 H4 s5 I5 qz
  · refine wpAny_mono (T.item Y rfl rfl rfl hc i [] s4 σ4 H4 (fun _ _=>False) I4 (stat fr4) st4 go) (fun r s5 ⟨u,hr,h5⟩=>?_) fun _ _ z=>z
    subst hr
    refine wpAny_mono h5 (fun _ s6 hm=>?_) fun _ _ z=>z
    obtain ⟨x,H6,I6,r6,y6,st6,fr6⟩:=hm
    have I6':=I6.pinned (stat fr6) (T.obj _ _ st6)
    have again:∀ {σ7:St} {H7:Hp} {s7:Shared},Inv Y ([]++z5z fp s6.heap) σ7 H7 s7→N σ7 H7→∃ m,m<n∧P m s7:=fun {σ7 H7 s7} I7 n7=>by
      refine bq fun bG=>?_
      obtain ⟨m',hm,w7⟩:=hN σ7 H7 n7
      refine bG (⟨m',hm,(hP _ _).2 ⟨i+1,σ7,H7,I7.unpinned,T.keep _ _ _ st6 fun b hb o e=>(I7.pin (b,o) (List.mem_append_right _ (List.mem_append_right _ (z1c hb e)))).1,fun b hb=>?_,w7⟩⟩)
      refine bq fun bG=>?_
      obtain ⟨o,e,d⟩:=T.obj _ _ st6 b hb
      exact bG ((I7.pin (b,o) (List.mem_append_right _ (List.mem_append_right _ (z1c hb e)))).2.1)
    refine noX (thn (hg _ s6 σ4 H6 x u _ I6' r6 (step x H6 y6)) fun _ s7 hm=>?_)
    refine bq fun bG=>?_
    obtain ⟨σ7,H7,I7,q7⟩:=hm
    refine bG (noX (thn (ht _ s7 σ7 H7 _ I7 q7) fun b s8 hm=>?_))
    obtain ⟨H8,I8,q8⟩:=hm
    cases b with
    | false =>
      show ∃ m,_
      exact again I8 q8
    | true =>
      show wpAny _ _ _ _ _ _
      refine noX (thn (he _ s8 σ7 H8 _ I8 q8) fun y s9 hm=>?_)
      refine bq fun bG=>?_
      obtain ⟨v,H9,I9,r9,ys,hy,hz,q9⟩:=hm
      refine bG (noX (thn (z77 (X:=Y) _ s9 σ7 H9 (.ref D) [v] (.ref D) [y] (fun _ H'=>N σ7 H') I9 rfl (.cons r9 .nil) ⟨_,ys,v,rfl,rfl,hy,hz,q9⟩) fun _ s10 hm=>?_))
      refine bq fun bG=>?_
      obtain ⟨_,H10,I10,_,q10⟩:=hm
      exact bG (again I10 q10)
theorem z7s {s2:Shared} {H2:Hp} {it:Addr} {fp:List Addr} {tn:Nat→Heap→Prop} {J:It} {cl:List (Str×Addr)} {Z:Addr→Hp→Prop} {RR:Value→Addr→Result→Shared→Prop} {E:Value→Shared→Prop}
    (hx:∀ e s,X.xe e s→False) (hc:X.calm=true) (S:CompScope X N' own cap scope)
    (hg:∀ cl C s₀ H₀ ex,PG (z0a X N' scope cl C s₀ H₀ ex) tg g) (ht:∀ cl C s₀ H₀ ex,PIf (z0a X N' scope cl C s₀ H₀ ex) ifs tc) (he:∀ cl C s₀ H₀ ex,PE (z0a X N' scope cl C s₀ H₀ ex) elt te)
    (I2:Inv X pins σ H2 s2) (T:Turn X.prog X.w X.K tg J fp it tn) (st2:tn 0 s2.heap) (f2:∀ b∈fp,z5x X pins H2 b)
    (c1:∀ y c,cl.lookup y=some c→X.env.cells.lookup y=some c) (c2:∀ y,(y,NameKind.free)∈scope.names→∃ c,cl.lookup y=some c)
    (h:∀ D,H2 D=none→z3i J g tc te D (z3c own cap σ) H2 (Z D))
    (hRR:∀ D C s' m' H',Inv X pins σ H' s'→s'.heap.Ns C m'→z5x X pins H' C→Z D H'→RR (.ref D) C (.ok .next) s') :
    wpAny (model X.prog X.w) X.A (newList []) (fun acc s₃=>wpAny (model X.prog X.w) X.A (newFunctionEnv scope X.env.globals cl [] X.env.qual none .none (some X.env)) (fun cenv s₄ =>
      codeAny (model X.prog X.w) X.A (.compStart (.ListComp elt [⟨tg,iter,ifs,0⟩] scope pos) 0 (.ref it) acc { cenv with scope:=relabel scope X.env }) (RR acc cenv.locals) s₄) E s₃) E s2:=by
  have hlt:∀ b∈fp,b<s2.heap.objs.size:=fun b hb=>by
    refine bq fun bG=>?_
    obtain ⟨o,e,_⟩:=T.obj _ _ st2 b hb
    exact bG (Heap.lt_size e)
  have hD:H2 s2.heap.objs.size=none:=I2.hok.fresh (Nat.le_refl _)
  refine wpAny_newObj_type (z3n (fun h₁ hns₁ hk₁ hce₁=>?_))
  dsimp only at hns₁ hk₁ hce₁ ⊢
  have I3:Inv X pins σ (upd H2 s2.heap.objs.size (.lst [])) { s2 with heap:=s2.heap.push { cls:=.type "list",dict:=none,data:=.seq ([]:List Value).toArray },toks:=s2.toks } :=
    I2.laid (fun b o e=>Heap.get?_push_of_some _ e) (Nat.le_refl _) ⟨Nat.zero_le _,[],0,.nil,Heap.get?_push_size _ rfl⟩
  generalize hs3:({ s2 with heap:=s2.heap.push { cls:=.type "list",dict:=none,data:=.seq ([]:List Value).toArray },toks:=s2.toks }:Shared)=s3 at I3
  have e3:s2.heap.push { cls:=.type "list",dict:=none,data:=.seq ([]:List Value).toArray }=s3.heap:=by rw [← hs3]
  have hsz:s3.heap.objs.size=s2.heap.objs.size+1:=by rw [← e3,Heap.size_push]
  rw [e3] at hns₁ hk₁ hce₁ ⊢
  have hk:=hk₁
  have hcl:∀ y c,cl.lookup y=some c→¬ s3.heap.objs.size<c:=fun y c e z=>by
    refine bq fun bG=>?_
    obtain ⟨v,o,ho,_⟩:=I3.cell y c (c1 y c e)
    exact bG (Nat.lt_irrefl _ (Nat.lt_trans z (Heap.lt_size ho)))
  have CA:CellsAre X scope s3.heap.objs.size cl (cellsFrom (s3.heap.objs.size+1) scope.names cl):=z7u (h:=s3.heap.push { cls:=.type "dict",data:=.dict #[] }) (by rw [Heap.size_push]) S hcl
  have hcell:∀ y c,(cellsFrom (s3.heap.objs.size+1) scope.names cl).lookup y=some c→s3.heap.objs.size<c→h₁.IsCell c none:=fun y c e z=>by
    rw [z14,z1r] at e
    cases q:(cellsFrom (s3.heap.objs.size+1) scope.names []).lookup y with
    | none=>rw [q] at e;exact absurd z (hcl y c e)
    | some c' =>
      rw [q] at e
      have:c'=c:=Option.some.inj e
      subst this
      exact hce₁ y c' (PySem.mem_of_lookup q)
  generalize hcs:cellsFrom (s3.heap.objs.size+1) scope.names cl=cs at CA hcell ⊢
  have f3:∀ b∈fp,z5x X pins (upd H2 s2.heap.objs.size (.lst [])) b:=fun b hb=>⟨by rw [z0h (Nat.ne_of_lt (hlt b hb))];exact (f2 b hb).1,(f2 b hb).2⟩
  have hlt3:∀ b∈fp,b<s3.heap.objs.size:=fun b hb=>by rw [hsz];exact Nat.lt_succ_of_lt (hlt b hb)
  have st3:tn 0 h₁:=T.keep _ _ _ st2 fun b hb o e=>hk b o (by rw [← e3];exact Heap.get?_push_of_some _ e)
  have J0:Inv (z0a X N' scope cs s3.heap.objs.size s3 (upd H2 s2.heap.objs.size (.lst [])) fp) [] (z3c own cap σ) (upd H2 s2.heap.objs.size (.lst [])) { s3 with heap:=h₁,toks:=s2.toks } :=
    z9x I3 S CA hcell c1 c2 f3 hlt3 hk hns₁
  have stat:∀ {pl:List (Addr×Obj)} {H':Hp},pl=[]→(∀ b∈fp,H' b=none)→∀ b∈fp,z5x (z0a X N' scope cs s3.heap.objs.size s3 (upd H2 s2.heap.objs.size (.lst [])) fp) pl H' b:=fun {pl H'} hp hn b hb=>by
    subst hp
    refine ⟨hn b hb,Nat.ne_of_lt (hlt3 b hb),J0.ok.exfs b hb,.inl hb,fun x c e=>J0.ok.exf b hb |>.2 x c e,fun p hp=>absurd hp (by show p∉([]++[]:List (Addr×Obj));simp)⟩
  have loop:codeAny (model X.prog X.w) X.A (.compLoop (.ListComp elt [⟨tg,iter,ifs,0⟩] scope pos) 0 (.ref it) (.ref s2.heap.objs.size) (compEnvC scope cs s3.heap.objs.size X.env)) (RR (.ref s2.heap.objs.size) s3.heap.objs.size)
      { s3 with heap:=h₁,toks:=s2.toks }:=zib (Y:=z0a X N' scope cs s3.heap.objs.size s3 (upd H2 s2.heap.objs.size (.lst [])) fp) hx hc (hg _ _ _ _ _) (ht _ _ _ _ _) (he _ _ _ _ _) T J0 st3 (fun b hb=>(f3 b hb).1) (stat rfl) (h _ hD) fun σ4 H4 s5 I5 qz=>by
    have I6:Inv X pins σ H4 s5:=I3.call' (ch:=fp) I5.os I5.base I5.hok I5.bare fun b hb=>⟨(f3 b hb).2.2.2.1,(f3 b hb).2.1,(f3 b hb).2.2.2.2.1,(f3 b hb).2.2.2.2.2⟩
    refine bq fun bG=>?_
    obtain ⟨m',hn',_⟩:=I5.loc
    exact bG (hRR _ _ s5 m' H4 I6 hn' (I3.fpOk (Nat.le_refl _) I5.free) qz)
  have lp:codeAny (model X.prog X.w) X.A (.compStart (.ListComp elt [⟨tg,iter,ifs,0⟩] scope pos) 0 (.ref it) (.ref s2.heap.objs.size) (compEnvC scope cs s3.heap.objs.size X.env)) (RR (.ref s2.heap.objs.size) s3.heap.objs.size)
      { s3 with heap:=h₁,toks:=s2.toks }:=codeAny_compStart_list loop (T.self _ 0 _ _ _ st3 loop)
  subst hs3
  exact lp
end
def zpv (own:List Str) (cap:List (Str×Nat)) (wi:TI) (g:TG) (tc:TT) (te:TE):TE:=fun σ H Q=>wi σ H fun J H1=>∀ D,H1 D=none→z3i J g tc te D (z3c own cap σ) H1 (Q (.ref D))
def zjh (i:Nat) (own:List Str) (cap:List (Str×Nat)) (wi:TI) (g:TG) (tc:TT) (te:TE):TS:=fun D σ H=>wi σ H fun J H1=>∀ p,H1 p=none→z3i J g tc te p (z3c own cap σ) H1 (fun H2=>D.nx (σ.set i (some (.ref p))) H2)
section
variable {X:Cx} {N' own:List Str} {cap:List (Str×Nat)} {scope:Scope} {tg iter elt:Expr} {ifs:List Expr} {pos:Pos} {wi:TI} {g:TG} {tc:TT} {te:TE}
theorem Inv.letgo {pins:List (Addr×Obj)} {σ:St} {H:Hp} {s:Shared} {h':Heap} {C:Addr} (I:Inv X pins σ H s) (f:z5x X pins H C) (hs:Heap.SameBut C s.heap h'):Inv X pins σ H { s with heap:=h' } :=
  I.turned (t':=s.toks) (it:=C) (fun b o hb e=>(hs.2 b hb).trans e) f.1 f.2.1 f.2.2.2.1 f.2.2.2.2.1 f.2.2.2.2.2
theorem znt (S:CompScope X N' own cap scope) (hi:PI X tg iter wi)
    (hg:∀ cl C s₀ H₀ ex,PG (z0a X N' scope cl C s₀ H₀ ex) tg g) (ht:∀ cl C s₀ H₀ ex,PIf (z0a X N' scope cl C s₀ H₀ ex) ifs tc) (he:∀ cl C s₀ H₀ ex,PE (z0a X N' scope cl C s₀ H₀ ex) elt te)
    (hx:∀ e s,X.xe e s→False:=by exact fun _ _ z=>z) (hc:X.calm=true:=by rfl) (hs:∀ x,foldedSetIterable iter X.env x=pure x:=by intro _;rfl) :
    PE X (.ListComp elt [⟨tg,iter,ifs,0⟩] scope pos) (zpv own cap wi g tc te):=by
  intro pins s σ H Q I h
  rw [eval_ListComp]
  refine bq fun bG=>?_
  obtain ⟨cl,hcl,c1,c2⟩:=z1s (scope:=scope) (env:=X.env) fun y hy hk=>I.ok.has y.1 (S.free y hy hk)
  refine bG (wpAny_comprehension_free (use:=none) rfl hs hcl S.kind S.names (thn (hi pins s σ H _ I h) fun v s1 h1=>thn h1 fun itv s2 h2=>?_))
  refine bq fun bG=>?_
  obtain ⟨it,fp,tn,J,H2,e,I2,T,st2,f2,q⟩:=h2
  subst e
  refine bG (z7s (RR:=fun acc C=>compPost (model X.prog X.w) X.A X.xe none (EP X pins σ Q) acc C) (Z:=fun D=>Q (.ref D)) hx hc S hg ht he I2 T st2 f2 c1 c2 q ?_)
  intro D C s' m' H' I' hn' f' z
  exact ⟨m',hn',fun h'' hs''=>⟨.ref D,H',I'.letgo f' hs'',rfl,z⟩⟩
theorem zer {i:Nat} {y:Str} {py spos:Pos} (hN:X.N.Nodup) (hi':X.N[i]?=some y) (hy:X.env.scope.names.lookup y=some .local) (S:CompScope X N' own cap scope) (hi:PI X tg iter wi)
    (hg:∀ cl C s₀ H₀ ex,PG (z0a X N' scope cl C s₀ H₀ ex) tg g) (ht:∀ cl C s₀ H₀ ex,PIf (z0a X N' scope cl C s₀ H₀ ex) ifs tc) (he:∀ cl C s₀ H₀ ex,PE (z0a X N' scope cl C s₀ H₀ ex) elt te)
    (hsw:swapsWith (.ListComp elt [⟨tg,iter,ifs,0⟩] scope pos) (some (.Name y py)) spos.line X.env=pure true:=by rfl)
    (hx:∀ e s,X.xe e s→False:=by exact fun _ _ z=>z) (hc:X.calm=true:=by rfl) (hs:∀ x,foldedSetIterable iter X.env x=pure x:=by intro _;rfl) :
    PS X (.Assign [.Name y py] (.ListComp elt [⟨tg,iter,ifs,0⟩] scope pos) spos) (zjh i own cap wi g tc te):=by
  intro pins s σ H D I h
  obtain ⟨cl,hcl,c1,c2⟩:=z1s (scope:=scope) (env:=X.env) fun y hy hk=>I.ok.has y.1 (S.free y hy hk)
  rw [exec_Assign_Name_used _ _ _ _ hsw]
  refine wpAny_bind (wpAny_standAt (wpAny_bind ?_))
  show wpAny _ _ (do let _ ← comprehension (.ListComp elt [⟨tg,iter,ifs,0⟩] scope pos) scope X.env _ (newList []) false (eval iter X.env) (some (assign (.Name y py) X.env))) _ _ s
  refine wpAny_bind (wpAny_mono (wpAny_comprehension_free (use:=some (assign (.Name y py) X.env)) (Q:=fun _ s'=>SP X pins D .next s') rfl hs hcl S.kind S.names
    (thn (hi pins s σ H _ I h) fun v s1 h1=>thn h1 fun itv s2 h2=>?_)) (fun _ s' hq=>wpAny_pure (wpAny_pure hq)) fun _ _ e=>e)
  refine bq fun bG=>?_
  obtain ⟨it,fp,tn,J,H2,e,I2,T,st2,f2,q⟩:=h2
  subst e
  refine bG (z7s (RR:=fun acc C=>compPost (model X.prog X.w) X.A X.xe (some (assign (.Name y py) X.env)) (fun _ s'=>SP X pins D .next s') acc C) (Z:=fun p H2=>D.nx (σ.set i (some (.ref p))) H2) hx hc S hg ht he I2 T st2 f2 c1 c2 q ?_)
  intro p C s' m' H' I' hn' f' z
  show wpAny _ _ (assign (.Name y py) X.env (.ref p)) _ _ _
  refine wpAny_assign_Name (z6y I' hN hi' (.inl hy) (v:=.ref p) rfl (fun s'' I'' hm=>?_) (.inr hy))
  obtain ⟨a,hsb,ha⟩:=hm
  have hCa:C≠a:=by
    rcases ha with z | z
    · rw [z];exact f'.2.1
    · exact fun e=>f'.2.2.2.2.1 y a z e.symm
  refine ⟨m',hn'.sameBut hsb hCa,fun h3 hs3=>?_⟩
  exact ⟨_,H',I''.letgo f' hs3,z⟩
end
section
variable {K:PySem.W.Frag} {g:TG} {tc:TT} {te:TE} {D:Addr} {σ0:St} {H0:Hp} {Z:Hp→Prop}
end
section
variable {X:Cx} {pins:List (Addr×Obj)} {σ:St} {H:Hp} {s:Shared} {h':Heap} {ch:List Addr}
theorem Inv.turns {t':Nat} (I:Inv X pins σ H s) (hf:∀ b∈ch,z5x X pins H b) (k:∀ b o,b∉ch→s.heap.get? b=some o→h'.get? b=some o):Inv X pins σ H { s with heap:=h',toks:=t' }:=by
  have nit:∀ b u,H b=some u→b∉ch:=fun b u e z=>by rw [(hf b z).1] at e;cases e
  refine I.step (g':=s.gens) (d':=s.drawn) (ch:=ch) (fun b hb=>?_) (fun b o _ _ hc e _=>k b o hc e) (fun b o _ _ hc e _=>⟨o.slots,k b o hc e⟩) (fun _ _ _ _ n=>n)
    (fun b o hc e=>⟨o,k b o hc e⟩) (fun _ _ e=>e) (fun _ _ _ e=>e) (fun b ps e=>⟨#[],by rw [e];simp⟩) (fun m hm=>?_) (fun b u e=>?_) I.bare
  · obtain ⟨f0,f1,f2,f3,f4,f5⟩:=hf b hb
    exact ⟨f3,f1,f4,f5⟩
  · obtain ⟨o,es,ep,ho,r⟩:=hm
    exact ⟨o,es,ep,k _ o (fun z=>(hf _ z).2.1 rfl) ho,r⟩
  · refine (I.hok b u e).stay (fun c v hc q=>k c v ?_ q) (fun _ q=>q) fun _ _ q=>q
    rcases hc with z | z
    · rw [z];exact nit b u e
    · exact nit c _ z
theorem Inv.turnLay {t':Nat} {T:Addr} {o:HO} (I:Inv X pins σ H s) (hf:∀ b∈ch,z5x X pins H b) (k:∀ b o,b∉ch→s.heap.get? b=some o→h'.get? b=some o) (hT:s.heap.objs.size≤T)
    (new:ObjOk X.prog X.w (upd H T o) h' T o):Inv X pins σ (upd H T o) { s with heap:=h',toks:=t' }:=by
  have nit:∀ b u,H b=some u→b∉ch:=fun b u e z=>by rw [(hf b z).1] at e;cases e
  have hn:H T=none:=I.hok.fresh hT
  have ne:∀ b o,s.heap.get? b=some o→b≠T:=fun b o e=>Nat.ne_of_lt (Nat.lt_of_lt_of_le (Heap.lt_size e) hT)
  refine I.step (g':=s.gens) (d':=s.drawn) (ch:=ch) (fun b hb=>?_) (fun b o _ _ hc e _=>k b o hc e) (fun b o _ _ hc e _=>⟨o.slots,k b o hc e⟩) (fun b o _ e n=>by rw [z0h (ne b o e)];exact n)
    (fun b o hc e=>⟨o,k b o hc e⟩) (fun b xs e=>by rw [z0h (z0o e hn)];exact e) (fun b o u e=>by rw [z0h (z0o e hn)];exact e) (fun b ps e=>⟨#[],by rw [z0h (z0o e hn),e];simp⟩) (fun m hm=>?_) (fun b u e=>?_) I.bare
  · obtain ⟨f0,f1,f2,f3,f4,f5⟩:=hf b hb
    exact ⟨f3,f1,f4,f5⟩
  · obtain ⟨o,es,ep,ho,r⟩:=hm
    exact ⟨o,es,ep,k _ o (fun z=>(hf _ z).2.1 rfl) ho,r⟩
  · by_cases hb:b=T
    · subst hb;rw [z0k] at e;cases e;exact new
    · rw [z0h hb] at e
      refine (I.hok b u e).stay (fun c v hc q=>k c v ?_ q) (fun c q=>by rw [z0h (z0o q hn)];exact q) fun c xs q=>by rw [z0h (z0o q hn)];exact q
      rcases hc with z | z
      · rw [z];exact nit b u e
      · exact nit c _ z
end
noncomputable def Ite (K:PySem.W.Frag) (a:Addr):It :=
  ⟨fun i H=>∃ xs x,SqL K H a xs∧xs[i]?=some x,fun i H x H'=>∃ p v,x=.ref p∧H p=none∧H'=upd H p (.tup [.int (i:Nat),v])∧∀ xs,SqL K H a xs→xs[i]?=some v,fun i H=>∃ xs,SqL K H a xs∧xs.length≤i⟩
theorem zln:2≤sizeLine:=by rw [sizeLine_eq];decide
theorem zfu {P:Program} {w:World} {K:PySem.W.Frag} {elts:List Expr} {k:Nat} {pos:Pos} (a e it:Addr) (hne:e≠it) :
    Turn P w K (.Tuple elts k pos) (Ite K a) [e,it] e (fun i h=>(∃ old,IsEnum h e it i old)∧h.IsListIter it a i) where
  mem:=by simp
  obj:=fun i h st b hb=>by
    obtain ⟨⟨old,he⟩,o,e2,c,d⟩:=st
    rcases List.mem_cons.mp hb with rfl | hb
    · exact ⟨_,he,fun v z=>by cases z⟩
    · rw [List.mem_singleton.mp hb]
      exact ⟨o,e2,fun v z=>by rw [d] at z;cases z⟩
  keep:=fun i h h' st kk=>⟨let ⟨old,he⟩:=st.1;⟨old,kk e (by simp) _ he⟩,st.2.at fun o q=>kk it (by simp) o q⟩
  item:=by
    intro X hP hw hK hc i pins s σ H E I hf st hg
    subst hP hw hK
    refine bq fun bG=>?_
    obtain ⟨xs,x,hq,hx⟩:=hg
    obtain ⟨its,rv,p,hz⟩:=I.list hq
    obtain ⟨u,hu,ru⟩:=rv.get hx
    obtain ⟨⟨old,he⟩,hit⟩:=st
    refine bG (wpAny_pyNext_enum_item he hit p.isList (x:=u) (by simpa using hu) hne fun h1 ho hit1 hT hsz hk=>?_)
    refine ⟨_,rfl,wpAny_letOwnedTupleGo_enum ho fun h2 he2 hs2=>?_⟩
    have hlt:e<s.heap.objs.size:=Heap.lt_size he
    replace hs2:Heap.SameBut e h1 h2:=hs2
    have hT2:h2.get? s.heap.objs.size=some { cls:=.type "tuple",data:=.seq #[.int i s.toks,u] }:=(hs2.2 _ (Nat.ne_of_gt hlt)).trans hT
    have hn:H s.heap.objs.size=none:=I.hok.fresh (Nat.le_refl _)
    have I2:Inv X pins σ (upd H s.heap.objs.size (.tup [.int (i:Nat),x])) { s with heap:=h2,toks:=s.toks+1 } :=
      I.turnLay (ch:=[e,it]) hf (fun b o hb q=>(hs2.2 b (fun z=>hb (by simp [z]))).trans (hk b o (fun z=>hb (by simp [z])) (fun z=>hb (by simp [z])) q)) (Nat.le_refl _)
        ⟨zln,[.int i s.toks,u],.cons ⟨_,rfl⟩ (.cons ru .nil),⟨_,hT2,rfl,_,rfl⟩⟩
    have hit2:h2.IsListIter it a (i+1):=hit1.at fun o q=>(hs2.2 it (Ne.symm hne)).trans q
    have f1:∀ b∈[e,it],(upd H s.heap.objs.size (.tup [.int (i:Nat),x])) b=none:=fun b hb=>by
      have hlb:b<s.heap.objs.size:=by
        rcases List.mem_cons.mp hb with rfl | hb
        · exact hlt
        · rw [List.mem_singleton.mp hb]
          refine bq fun bG=>?_
          obtain ⟨o,q,_⟩:=hit
          exact bG (Heap.lt_size q)
      rw [z0h (Nat.ne_of_lt hlb)]
      exact (hf b hb).1
    exact ⟨.ref s.heap.objs.size,_,I2,rfl,⟨_,x,rfl,hn,rfl,fun ys hy=>by rw [I.list_inj hy hq];exact hx⟩,⟨⟨u,by simpa using he2⟩,hit2⟩,f1⟩
  done:=by
    intro X hP hw hK hc i pins s σ H E I hf st hg
    subst hP hw hK
    obtain ⟨xs,hq,hx⟩:=hg
    obtain ⟨its,rv,p,hz⟩:=I.list hq
    obtain ⟨⟨old,he⟩,hit⟩:=st
    have hl:=rv.length
    exact wpAny_pyNext_enum_end (I.ok.hd hc) he hit p.isList (by simp;omega) fun h' eb=>⟨rfl,I.turns (t':=s.toks) (ch:=[e,it]) hf fun b o hb q=>eb b o (fun z=>hb (by simp [z])) q⟩
  self:=fun _ _ _ _ _ st h=>by
    refine bq fun bG=>?_
    obtain ⟨⟨old,he⟩,_⟩:=st
    exact bG (wpAny_pyIter_enum he h)
def zs1 (K:PySem.W.Frag) (ta:TA):TI:=fun σ H R=>ta σ H fun vs H1=>∃ a,vs=[.ref a]∧(∃ xs,SqL K H1 a xs)∧R (Ite K a) H1
section
variable {X:Cx}
theorem zno {elts:List Expr} {k:Nat} {tpos:Pos} {a:Expr} {ta:TA} {p pos:Pos} (hg:Gl X "enumerate") (hm:X.mg "enumerate" = none) (ha:PA X [a] ta) (hs:starEach [a] X.env=[(false,eval a X.env)]:=by rfl) :
    PI X (.Tuple elts k tpos) (.Call (.Name "enumerate" p) [a] [] pos) (zs1 X.K ta):=by
  intro pins s σ H R I h
  refine Call_ (z62 I hg hm boot_enumerate (PyProof.Rows.callWith_type1 (thn (ha pos pins s σ H _ I h) fun us s1 hm=>?_) hs rfl))
  refine bq fun bG=>?_
  obtain ⟨vs,H1,I1,r1,q1⟩:=hm
  refine bG (bq fun bG=>?_)
  obtain ⟨l,e,⟨xs,hq⟩,q⟩:=q1
  subst e
  obtain ⟨u,rfl,ru⟩:=z67 r1
  cases ru
  obtain ⟨its,rv,pl,hz⟩:=I1.list hq
  refine bG (call_enumerate_list pl.isList fun h' he hit hsz hk=>wpAny_pyIter_enum he ?_)
  have I2:Inv X pins σ H1 { s1 with heap:=h' }:=I1.kept (t':=s1.toks) hk
  refine ⟨_,[s1.heap.objs.size+1,s1.heap.objs.size],_,_,H1,rfl,I2,zfu l _ _ (Nat.succ_ne_self _),⟨⟨.none,he⟩,hit⟩,fun b hb=>?_,q⟩
  have hb':s1.heap.objs.size≤b:=by
    rcases List.mem_cons.mp hb with rfl | hb
    · exact Nat.le_succ _
    · rw [List.mem_singleton.mp hb]
      exact Nat.le_refl _
  exact I1.fpOk hb' (I1.hok.fresh hb')
end
section
variable {X:Cx}
end
noncomputable def z6v:List String:=["int", "bool", "str", "NoneType", "list", "tuple", "dict"]
noncomputable def clNames:List String:=["int", "bool", "str", "list", "tuple", "dict"]
noncomputable def zg0 (t c:String):Bool:=t==c||(t == "bool" && c == "int")
theorem zhf {K:PySem.W.Frag} {t c:String} (ht:t∈z6v) (hc:c∈clNames):PySem.W.kitOne K (.type t) (.type c)=some (zg0 t c):=by
  simp only [z6v,clNames,List.mem_cons,List.not_mem_nil,or_false] at ht hc
  rcases ht with rfl | rfl | rfl | rfl | rfl | rfl | rfl <;> rcases hc with rfl | rfl | rfl | rfl | rfl | rfl <;> first | rfl | decide | (with_unfolding_all rfl)
theorem zhg {K:PySem.W.Frag} {t:String} (ht:t∈z6v):∀ {cs:List String},(∀ c∈cs,c∈clNames)→PySem.W.kitAny K (.type t) (cs.map Value.type)=some (cs.any (zg0 t))
  | [],_=>rfl
  | c::r,h=>by
    show (match PySem.W.kitOne K (.type t) (.type c) with | some true=>some true | some false=>PySem.W.kitAny K (.type t) (r.map Value.type) | none=>none)=_
    rw [zhf ht (h c List.mem_cons_self),List.any_cons]
    cases e:zg0 t c with
    | true=>rfl
    | false =>
      rw [Bool.false_or]
      exact zhg ht fun d hd=>h d (List.mem_cons_of_mem _ hd)
inductive TyN (K:PySem.W.Frag) (H:Hp):V→String→Prop where
  | non:TyN K H .non "NoneType"
  | bl (x:Bool):TyN K H (.bl x) "bool"
  | int (i:Int):TyN K H (.int i) "int"
  | str (x:Str):TyN K H (.str x) "str"
  | lst {a:Addr} {xs:List V} (e:SqL K H a xs):TyN K H (.ref a) "list"
  | tup {a:Addr} {xs:List V} (e:SqT K H a xs):TyN K H (.ref a) "tuple"
  | dK {a:Addr} {kvs:List (Key×V)} (e:H a=some (.dK kvs)):TyN K H (.ref a) "dict"
theorem TyN.mem {K:PySem.W.Frag} {H:Hp} {x:V} {t:String} (h:TyN K H x t):t∈z6v:=by cases h <;> simp [z6v]
section
variable {X:Cx}
theorem zfo:∀ {cs:List String} {us:List Value},Vals (cs.map V.ty) us→us=cs.map Value.type
  | [],_,h=>by cases h;rfl
  | c::r,_,h=>by
    cases h with
    | cons a t =>
      cases (show _=Value.type c from a)
      rw [zfo t];rfl
theorem zl5:z3u X (.builtin "isinstance") (fun xs H Q=>∃ (x:V) (t:String) (c:String),xs=[x,.ty c]∧TyN X.K H x t∧clNames.contains c=true∧Q (.bl (zg0 t c)) H):=by
  intro pins s σ H xs us Q I r h
  obtain ⟨x,t,c,rfl,ty,hc,q⟩:=h
  obtain ⟨u,w',rfl,rx,rc⟩:=zeh r
  cases (show w'=Value.type c from rc)
  have e:=zhf (K:=X.K) ty.mem (by simpa using hc:c∈clNames)
  have fin:∀ tk,EP X pins σ Q (.bool (zg0 t c)) { s with toks:=tk }:=fun tk=>⟨.bl _,H,I.tok _,rfl,q⟩
  cases ty with
  | non=>cases (show u=Value.none from rx);exact PySem.W.kia_one PySem.W.kitx_none I.kIn True.intro e (fun z=>nomatch z) fin
  | bl y=>cases (show u=Value.bool y from rx);exact PySem.W.kia_one PySem.W.kitx_bool I.kIn True.intro e (fun z=>nomatch z) fin
  | int i=>obtain ⟨t,q⟩:=(show ∃ t,u=Value.int i t from rx);cases q;exact PySem.W.kia_one PySem.W.kitx_int I.kIn True.intro e (fun z=>nomatch z) fin
  | str y=>obtain ⟨t,q⟩:=(show ∃ t,u=Value.str y t from rx);cases q;exact PySem.W.kia_one PySem.W.kitx_str I.kIn True.intro e (fun z=>nomatch z) fin
  | @lst a xs ea =>
    cases (show u=Value.ref a from rx)
    obtain ⟨its,_,⟨o,n,h1,h2,_⟩,_⟩:=I.list ea
    exact PySem.W.kia_one PySem.W.kitx_list I.kIn ⟨o,h1,h2⟩ e (fun z=>nomatch z) fin
  | @tup a xs ea =>
    cases (show u=Value.ref a from rx)
    obtain ⟨its,_,⟨o,h1,h2,_⟩,_⟩:=I.tuple ea
    exact PySem.W.kia_one PySem.W.kitx_tuple I.kIn ⟨o,h1,h2⟩ e (fun z=>nomatch z) fin
  | @dK a kvs ea =>
    cases (show u=Value.ref a from rx)
    refine bq fun bG=>?_
    obtain ⟨_,_,vs,_,p⟩:=(show ObjOk X.prog X.w H s.heap a (.dK kvs) from I.hok a _ ea)
    obtain ⟨o,es,ep,h1,h2,_⟩:=p
    exact bG (PySem.W.kia_one PySem.W.kitx_dict I.kIn ⟨o,h1,h2.1⟩ e (fun z=>nomatch z) fin)
theorem zig:z3u X (.builtin "isinstance") (fun xs H Q=>∃ (x:V) (t:String) (p:Addr) (cs:List String),xs=[x,.ref p]∧SqT X.K H p (cs.map V.ty)∧TyN X.K H x t∧cs.all clNames.contains=true∧Q (.bl (cs.any (zg0 t))) H):=by
  intro pins s σ H xs us Q I r h
  obtain ⟨x,t,p,cs,rfl,hp,ty,hc,q⟩:=h
  obtain ⟨u,w',rfl,rx,rc⟩:=zeh r
  cases (show w'=Value.ref p from rc)
  obtain ⟨its,rv,⟨⟨oc,od,odt,osl⟩,e1,e2,n,e3⟩,_⟩:=I.tuple hp
  cases zfo rv
  have e2':oc=.type "tuple" := e2
  have e3':odt=.seq (cs.map Value.type).toArray n:=e3
  subst e2' e3'
  have e:=zhg (K:=X.K) ty.mem (cs:=cs) fun c hcm=>by simpa using (List.all_eq_true.mp hc c hcm)
  have fin:∀ tk,EP X pins σ Q (.bool (cs.any (zg0 t))) { s with toks:=tk }:=fun tk=>⟨.bl _,H,I.tok _,rfl,q⟩
  cases ty with
  | non=>cases (show u=Value.none from rx);exact PySem.W.kia_tup PySem.W.kitx_none I.kIn True.intro e1 e (fun z=>nomatch z) fin
  | bl y=>cases (show u=Value.bool y from rx);exact PySem.W.kia_tup PySem.W.kitx_bool I.kIn True.intro e1 e (fun z=>nomatch z) fin
  | int i=>obtain ⟨t,q⟩:=(show ∃ t,u=Value.int i t from rx);cases q;exact PySem.W.kia_tup PySem.W.kitx_int I.kIn True.intro e1 e (fun z=>nomatch z) fin
  | str y=>obtain ⟨t,q⟩:=(show ∃ t,u=Value.str y t from rx);cases q;exact PySem.W.kia_tup PySem.W.kitx_str I.kIn True.intro e1 e (fun z=>nomatch z) fin
  | @lst a xs ea =>
    cases (show u=Value.ref a from rx)
    obtain ⟨its,_,⟨o,n,h1,h2,_⟩,_⟩:=I.list ea
    exact PySem.W.kia_tup PySem.W.kitx_list I.kIn ⟨o,h1,h2⟩ e1 e (fun z=>nomatch z) fin
  | @tup a xs ea =>
    cases (show u=Value.ref a from rx)
    obtain ⟨its,_,⟨o,h1,h2,_⟩,_⟩:=I.tuple ea
    exact PySem.W.kia_tup PySem.W.kitx_tuple I.kIn ⟨o,h1,h2⟩ e1 e (fun z=>nomatch z) fin
  | @dK a kvs ea =>
    cases (show u=Value.ref a from rx)
    refine bq fun bG=>?_
    obtain ⟨_,_,vs,_,p⟩:=(show ObjOk X.prog X.w H s.heap a (.dK kvs) from I.hok a _ ea)
    obtain ⟨o,es,ep,h1,h2,_⟩:=p
    exact bG (PySem.W.kia_tup PySem.W.kitx_dict I.kIn ⟨o,h1,h2.1⟩ e1 e (fun z=>nomatch z) fin)
end
section
variable {X:Cx}
end
mutual
inductive Dp (K:PySem.W.Frag) (H:Hp):V→PyData→Prop where
  | non:Dp K H .non .none
  | bl (b:Bool):Dp K H (.bl b) (.bool b)
  | int (i:Int):Dp K H (.int i) (.int i)
  | str (x:Str):Dp K H (.str x) (.str x)
  | lst {a:Addr} {xs:List V} {ds:List PyData}:SqL K H a xs→Dps K H xs ds→Dp K H (.ref a) (.list ds)
  | tup {a:Addr} {xs:List V} {ds:List PyData}:SqT K H a xs→Dps K H xs ds→Dp K H (.ref a) (.tuple ds)
inductive Dps (K:PySem.W.Frag) (H:Hp):List V→List PyData→Prop where
  | nil:Dps K H [] []
  | cons {x:V} {d:PyData} {xs:List V} {ds:List PyData}:Dp K H x d→Dps K H xs ds→Dps K H (x::xs) (d::ds)
end
section
variable {X:Cx} {pins:List (Addr×Obj)} {σ:St} {H:Hp} {s:Shared}
mutual
theorem Dp.reads (I:Inv X pins σ H s):∀ {v:V} {d:PyData} {u:Value},Dp X.K H v d→RelV v u→∃ as,Reads s.heap u d as
  | _,_,_,.non,r=>by cases (show _=Value.none from r);exact ⟨_,.none⟩
  | _,_,_,.bl b,r=>by cases (show _=Value.bool b from r);exact ⟨_,.bool b⟩
  | _,_,_,.int i,r=>by obtain ⟨t,rfl⟩:=r;exact ⟨_,.int i t⟩
  | _,_,_,.str x,r=>by obtain ⟨t,rfl⟩:=r;exact ⟨_,.str x t⟩
  | _,_,_,.lst (a:=a) h hs,r=>by
    cases (show _=Value.ref a from r)
    obtain ⟨its,rv,⟨o,n,h1,h2,_,h4⟩,_⟩:=I.list h
    obtain ⟨as,hr⟩:=Dps.reads I hs rv
    exact ⟨_,.list h1 h2 h4 (by simpa using hr)⟩
  | _,_,_,.tup (a:=a) h hs,r=>by
    cases (show _=Value.ref a from r)
    refine bq fun bG=>?_
    obtain ⟨its,rv,⟨o,h1,h2,n,h4⟩,_⟩:=I.tuple h
    obtain ⟨as,hr⟩:=Dps.reads I hs rv
    exact bG (⟨_,.tuple h1 h2 h4 (by simpa using hr)⟩)
theorem Dps.reads (I:Inv X pins σ H s):∀ {vs:List V} {ds:List PyData} {us:List Value},Dps X.K H vs ds→Vals vs us→∃ as,ReadsAll s.heap us ds as
  | _,_,_,.nil,r=>by cases r;exact ⟨_,.nil⟩
  | _,_,_,.cons h hs,r=>by
    cases r with
    | cons r1 r2 =>
      refine bq fun bG=>?_
      obtain ⟨as,h1⟩:=Dp.reads I h r1
      obtain ⟨bs,h2⟩:=Dps.reads I hs r2
      exact bG (⟨_,.cons h1 h2⟩)
end
theorem zm3 (hu:X.A.units+64<cLine):OpR X (compareOp .Eq) (fun x y H Q=>∃ d e,Dp X.K H x d∧Dp X.K H y e∧(d.canLay0&&e.canLay0&&decide (d.depth≤64))=true∧Q (.bl (PyData.eqv d e)) H):=by
  intro pins s σ H x y v u Q I rx ry h
  refine bq fun bG=>?_
  obtain ⟨d,e,hd,he,hc,q⟩:=h
  simp only [Bool.and_eq_true,decide_eq_true_eq] at hc
  obtain ⟨as,r1⟩:=hd.reads I rx
  obtain ⟨bs,r2⟩:=he.reads I ry
  exact bG (SeqAt.compareEq_reads r1 r2 hc.1.1 hc.1.2 (by omega) ⟨.bl _,H,I,rfl,q⟩)
theorem zm2 (hu:X.A.units+64<cLine):OpR X (compareOp .NotEq) (fun x y H Q=>∃ d e,Dp X.K H x d∧Dp X.K H y e∧(d.canLay0&&e.canLay0&&decide (d.depth≤64))=true∧Q (.bl (!PyData.eqv d e)) H):=by
  intro pins s σ H x y v u Q I rx ry h
  refine bq fun bG=>?_
  obtain ⟨d,e,hd,he,hc,q⟩:=h
  simp only [Bool.and_eq_true,decide_eq_true_eq] at hc
  obtain ⟨as,r1⟩:=hd.reads I rx
  obtain ⟨bs,r2⟩:=he.reads I ry
  exact bG (SeqAt.compareNe_reads r1 r2 hc.1.1 hc.1.2 (by omega) ⟨.bl _,H,I,rfl,q⟩)
end
section
variable {X:Cx}
def zgm:V→List V→Hp→VK→Prop:=fun x vs H Q=>∃ (a:Addr) (kvs:List (Key×V)) (k:Key) (d:V),x=.ref a∧vs=[kV k,d]∧H a=some (.dK kvs)∧kvs.length<sizeLine ∧
  (∀ v,zbo kvs k=some v→Q v H)∧(zbo kvs k=none→Q d (upd H a (.dK (zdh kvs k d))))
theorem z9e:MtM X "dict.setdefault" zgm:=by
  intro pins s σ H x vs v us Q I rx rv h
  obtain ⟨a,kvs,k,d,rfl,rfl,e,hl,h1,h2⟩:=h
  cases rx
  obtain ⟨u,w',rfl,ru,rd⟩:=rv.two
  obtain ⟨z,hd,ws,rel,dd⟩:=zf3 I.hok e
  refine call_meetsIn PySem.F.slot_dict_setdefault dd.typeIs PySem.F.entry_dict_setdefault (PySem.F.args_dict_setdefault_3 _ _ _) (kt_meets_setdefault (z17 X.prog X.w) a (zkm ru) hd w') ⟨ws,dd,by rw [← rel.length];exact z,fun y hy=>?_,fun hn h' dd' hs=>?_⟩
  · have q:=rel.val k
    rw [hy] at q
    cases ev:zbo kvs k with
    | none=>rw [ev] at q;exact q.elim
    | some v0 =>
      rw [ev] at q
      exact ⟨v0,H,I.tok _,q,h1 v0 ev⟩
  · have q:=rel.val k
    rw [hn] at q
    cases ev:zbo kvs k with
    | some v0=>rw [ev] at q;exact q.elim
    | none =>
      have hz:(zdh kvs k d).length≤sizeLine:=by have:=z7b kvs k d;omega
      have he:∃ q,h'.get? a=some q:=let ⟨q,_,_,hq,_⟩:=dd';⟨q,hq⟩
      exact ⟨d,_,zi8 (t':=s.toks+1) I (by rw [e];exact True.intro) hs he (zmd hz hd (rel.put k rd) dd'),rd,h2 ev⟩
theorem zo6 {kvs:List (Key×V)} {ws:List (Key×Value)} (rel:KV kvs ws):Vals (kvs.map (·.2)) (ws.map (·.2)):=by
  induction rel with
  | nil=>exact .nil
  | cons r _ ih=>exact .cons r.2 ih
noncomputable def vvO (v d:Addr):HO:=.ext fun h=>h.IsValuesView v d
def zgl:V→List V→Hp→VK→Prop:=fun x vs H Q=>∃ (a:Addr) (kvs:List (Key×V)),x=.ref a∧vs=[]∧H a=some (.dK kvs)∧∀ v,H v=none→Q (.ref v) (upd H v (vvO v a))
theorem zh3:MtM X "dict.values" zgl:=by
  intro pins s σ H x vs v us Q I rx rv h
  obtain ⟨a,kvs,rfl,rfl,e,q⟩:=h
  cases rx
  have:=rv.zero
  subst this
  refine bq fun bG=>?_
  obtain ⟨z,hd,ws,rel,dd⟩:=zf3 I.hok e
  refine bG (call_meetsIn PySem.F.slot_dict_values dd.typeIs PySem.F.entry_dict_values (PySem.F.args_dict_values_1 _) (meets_dict_values (z17 X.prog X.w) a hd) ⟨⟨ws,dd⟩,?_⟩)
  have hv:(s.heap.push { cls:=.type "dict_values",data:=.fields #[.ref a] }).IsValuesView s.heap.objs.size a:=⟨_,Heap.get?_push_size _ rfl,rfl,rfl⟩
  refine ⟨.ref s.heap.objs.size,_,I.laid (t':=s.toks) (o:=vvO s.heap.objs.size a) (fun b o q=>Heap.get?_push_of_some _ q) (Nat.le_refl _) ?_,rfl,q _ (I.hok.fresh (Nat.le_refl _))⟩
  exact ⟨hv,⟨_,Heap.get?_push_size _ rfl⟩,fun h1 h2 p k=>let ⟨o,ho,r⟩:=p;⟨o,k o ho,r⟩⟩
theorem z6c:z3u X (.type "list") (fun xs H Q=>∃ (v a:Addr) (kvs:List (Key×V)),xs=[.ref v]∧H v=some (vvO v a)∧H a=some (.dK kvs)∧X.calm=true∧∀ l,H l=none→Q (.ref l) (upd H l (.lst (kvs.map (·.2))))):=by
  intro pins s σ H xs us Q I r h
  obtain ⟨v,a,kvs,rfl,hv,e,hc,q⟩:=h
  obtain ⟨u,rfl,ru⟩:=z67 r
  cases ru
  obtain ⟨z,hd,ws,rel,dd⟩:=zf3 I.hok e
  obtain ⟨hvv,_,_⟩:s.heap.IsValuesView v a∧_∧_:=I.hok v _ hv
  obtain ⟨ep,hat⟩:=dd.dictAt
  refine PySem.W.kdl_call (PySem.W.kdl_values (knd:=z17 X.prog X.w) (kvs:=ws) (ep:=ep)) (I.ok.hd hc) ⟨hvv,hat⟩ (by rw [← rel.length];exact z) fun h' tk acc' c' hk hD hacc=>?_
  have ev:acc'.toList=ws.map (·.2):=PySem.W.kdl_vals_eq acc'.toList (by rw [Array.length_toList];exact hacc.1) fun j v ej=>hacc.2 j v (by rw [← Array.getElem?_toList];exact ej)
  have rv:Vals (kvs.map (·.2)) (ws.map (·.2)):=zo6 rel
  refine ⟨.ref s.heap.objs.size,_,I.laid (t':=tk) (o:=.lst (kvs.map (·.2))) hk (Nat.le_refl _) ?_,rfl,q _ (I.hok.fresh (Nat.le_refl _))⟩
  refine ⟨by rw [List.length_map];exact z,ws.map (·.2),c',rv,?_⟩
  rw [← ev]
  exact hD
end
noncomputable def Df (P:Program) (w:World) (K:PySem.W.Frag) (mg:Str→Option Value) (base:Heap) (k:Nat) (x:Str) (ps:List Str) (sp:Sp):Prop :=
  ∃ f fd,FnOk P w K mg base CX0 k f fd ps sp∧Binds K fd ps []∧PySem.W.keepIn K (.ref f)=true∧mg x=some (.ref f)
section
variable {P:Program} {w:World} {K:PySem.W.Frag} {mg:Str→Option Value} {base:Heap} {j k:Nat} {x:Str} {ps:List Str} {sp sp':Sp}
end
section
variable {X:Cx} {k:Nat} {x:Str} {ps:List Str} {sp:Sp} {e:Expr} {es:List Expr} {t:TA} {p pos:Pos}
theorem zr3 (D:Df X.prog X.w X.K X.mg X.base k x ps sp) (hr:Room k X.A) (ha:PA X (e::es) t) (hg:Gl X x:=by rfl) (hdb:(x==("__debug__" : Str))=false:=by decide)
    (he:starEach (e::es) X.env=(false,eval e X.env)::starEach es X.env:=by rfl) (hpl:(backTo pos (starEach es X.env)).any (·.1)=false:=by rfl) :
    PE X (.Call (.Name x p) (e::es) [] pos) (fun σ H Q=>t σ H fun vs H1=>sp vs H1 Q E0):=by
  obtain ⟨f,fd,F,hb,hk,hm⟩:=D
  intro pins s σ H Q I h
  exact znv F hr hg hm hk hb .nil ztw ha hdb he hpl pins s σ H Q I (by unfold zpw;simpa using h)
end
section
variable {X:Cx}
end
def But (p:Addr) (H H':Hp):Prop:=∀ b o,b≠p→H b=some o→H' b=some o
section
variable {p:Addr} {H H' H'':Hp}
end
theorem z39 {n:Nat} (h:n≤1000000):n≤sizeLine:=by rw [sizeLine_eq];omega
theorem z79 {n:Nat} (h:n≤1000000):n<sizeLine:=by rw [sizeLine_eq];omega
noncomputable def zme (N:List Str) (names:List (Str×NameKind)) (own:List Str) (cap:List (Str×Nat)) (scope:Scope):Bool :=
  (scope.kind==.function)&&scope.names.all (fun y=>(y.2 != .cell||scope.names.lookup y.1==some .cell)&&(y.2 != .local||scope.names.lookup y.1==some .local)&&(y.2 != .free||scope.names.lookup y.1==some .free)&&(y.2 != .free||(names.lookup y.1==some .cell||names.lookup y.1==some .free)))
  && cap.all fun p=>N[p.2]?==some p.1&&scope.names.lookup p.1==some .free&&(names.lookup p.1==some .cell||names.lookup p.1==some .free)
theorem z2i {X:Cx} {own:List Str} {cap:List (Str×Nat)} {scope:Scope} (h:zme X.N X.env.scope.names own cap scope=true):CompScope X (own++cap.map (·.1)) own cap scope:=by
  unfold zme at h
  simp only [Bool.and_eq_true,List.all_eq_true,Bool.or_eq_true,bne_iff_ne,beq_iff_eq] at h
  refine bq fun bG=>?_
  obtain ⟨⟨h1,h2⟩,h3⟩:=h
  exact bG (⟨h1,fun y hy hl=>(h2 y hy).1.1.1.resolve_left fun z=>z hl,fun y hy hl=>(h2 y hy).1.2.resolve_left fun z=>z hl,fun y hy hl=>(h2 y hy).1.1.2.resolve_left fun z=>z hl,fun y hy hl=>(h2 y hy).2.resolve_left fun z=>z hl,rfl,fun p hp=>⟨(h3 p hp).1.1,(h3 p hp).1.2,(h3 p hp).2⟩⟩)
section
variable {X:Cx} {a b e o:Expr} {es:List Expr} {ta tb te to:TE} {t:TA} {p pos:Pos}
theorem zvo (K:PySem.W.Frag) (ml:X.mg "len" = none) (ha:PE X a ta) (hg:Gl X "len" := by rfl) (hs:starEach [a] X.env=[(false,eval a X.env)]:=by rfl) (hK:X.K=K:=by rfl) :
    PE X (.Call (.Name "len" p) [a] [] pos) (fun σ H Q=>ta σ H fun x H1=>∃ p ys,[x]=[V.ref p]∧(SqL K H1 p ys∨SqT K H1 p ys)∧Q (.int ys.length) H1):=by
  subst hK
  exact z1u zbf hg ml PySem.boot_len (z0n ha z16 hs) (he:=hs)
theorem zsc (K:PySem.W.Frag) (ml:X.mg "list" = none) (ha:PE X a ta) (hg:Gl X "list" := by rfl) (hs:starEach [a] X.env=[(false,eval a X.env)]:=by rfl) (hK:X.K=K:=by rfl) :
    PE X (.Call (.Name "list" p) [a] [] pos) (fun σ H Q=>ta σ H fun x H1=>∃ p ys,[x]=[V.ref p]∧(SqL K H1 p ys∨SqT K H1 p ys)∧∀ l,H1 l=none→Q (.ref l) (upd H1 l (.lst ys))):=by
  subst hK
  exact z44 zbe hg ml rfl (z0n ha z16 hs) (he:=hs)
theorem zvm (ml:X.mg "min" = none) (ha:PE X a ta) (hb:PE X b tb) (hc:X.calm=true:=by rfl) (hg:Gl X "min" := by rfl) (hs:starEach [a,b] X.env=[(false,eval a X.env),(false,eval b X.env)]:=by rfl) (hs2:starEach [b] X.env=[(false,eval b X.env)]:=by rfl) :
    PE X (.Call (.Name "min" p) [a,b] [] pos) (fun σ H Q=>ta σ H fun x H1=>tb σ H1 fun y H2=>∃ i j,[x,y]=[.int i,.int j]∧Q (.int (if j<i then j else i)) H2):=by
  exact z1u (zie hc) hg ml rfl (z0n ha (z0n hb z16 hs2) (by rw [hs,hs2])) (he:=by rw [hs,hs2]) (hpl:=by rw [hs2];rfl)
theorem zvn (ml:X.mg "max" = none) (ha:PE X a ta) (hb:PE X b tb) (hc:X.calm=true:=by rfl) (hg:Gl X "max" := by rfl) (hs:starEach [a,b] X.env=[(false,eval a X.env),(false,eval b X.env)]:=by rfl) (hs2:starEach [b] X.env=[(false,eval b X.env)]:=by rfl) :
    PE X (.Call (.Name "max" p) [a,b] [] pos) (fun σ H Q=>ta σ H fun x H1=>tb σ H1 fun y H2=>∃ i j,[x,y]=[.int i,.int j]∧Q (.int (if j > i then j else i)) H2):=by
  exact z1u (zif hc) hg ml rfl (z0n ha (z0n hb z16 hs2) (by rw [hs,hs2])) (he:=by rw [hs,hs2]) (hpl:=by rw [hs2];rfl)
theorem iL (K:PySem.W.Frag) {tg:Expr} (ha:PE X a ta) (hK:X.K=K:=by rfl):PI X tg a (zrz K ta):=by subst hK;exact zgx ha
theorem iR (mr:X.mg "range" = none) {tg:Expr} (ha:PE X a ta) (hg:Gl X "range" := by rfl) (hs:starEach [a] X.env=[(false,eval a X.env)]:=by rfl):PI X tg (.Call (.Name "range" p) [a] [] pos) (zry (z5m ta zfw)):=zgw hg mr (z0n ha z16 hs) hs
theorem zvr (K:PySem.W.Frag) {apos:Pos} (ho:PE X o to) (ha:PE X a ta) (hs:starEach [a] X.env=[(false,eval a X.env)]:=by rfl)
    (hbase:attributeBase o "append" X.env (eval o X.env)=eval o X.env:=by rfl) (hline:(apos.endLine==pos.line)=true:=by rfl) (hK:X.K=K:=by rfl)
    (hfew:((backTo pos (starEach [a] X.env)).all (fun x=>!x.1)&&(backToKw pos (keywordEach [] X.env)).all (fun x=>x.1.isSome)
      && decide ([a].length+([]:List Keyword).length+(if ([]:List Keyword).isEmpty then 0 else 1)<30))=true:=by rfl) :
    PE X (.Call (.Attribute o "append" apos) [a] [] pos) (tBM K "list" zgp to (z5m ta zfw)):=by
  subst hK
  exact zkd PySem.F.plainAttrs_list PySem.F.slot_list_append PySem.F.type_list_append z77 ho (z0n ha z16 hs) hbase hfew hline hs
end
def Pot (H:Hp) (p:Addr):Prop:=∃ a b c:Int,H p=some (.lst [.int a,.int b,.int c])
structure Drawn (p:Addr) (H H':Hp):Prop where
  but:But p H H'
  pot:Pot H' p
section
variable {p q:Addr} {H H' H'':Hp}
end
theorem zsh {xs:List V} {r:Int} (h0:0≤r) (h1:r<(xs.length:Int)):atI xs r=some (xs[r.toNat]'(by omega)):=by
  have hk:r.toNat<xs.length:=by omega
  have:=zp2 (xs:=xs) (j:=r.toNat) (v:=xs[r.toNat]) (by simp [hk])
  have er:((r.toNat:Nat):Int)=r:=by omega
  rw [er] at this
  exact this
section
variable {X:Cx} {a:Expr} {ta:TE} {p pos:Pos}
theorem zvp (K:PySem.W.Frag) (ml:X.mg "isinstance" = none) {b:Expr} {tb:TE} (ha:PE X a ta) (hb:PE X b tb) (hg:Gl X "isinstance" := by rfl) (hs:starEach [a,b] X.env=[(false,eval a X.env),(false,eval b X.env)]:=by rfl) (hs2:starEach [b] X.env=[(false,eval b X.env)]:=by rfl) (hK:X.K=K:=by rfl) :
    PE X (.Call (.Name "isinstance" p) [a,b] [] pos) (fun σ H Q=>ta σ H fun x H1=>tb σ H1 fun y H2=>∃ (x':V) (t:String) (c:String),[x,y]=[x',.ty c]∧TyN K H2 x' t∧clNames.contains c=true∧Q (.bl (zg0 t c)) H2):=by
  subst hK
  exact z1u zl5 hg ml rfl (z0n ha (z0n hb z16 hs2) (by rw [hs,hs2])) (he:=by rw [hs,hs2]) (hpl:=by rw [hs2];rfl)
theorem zue (K:PySem.W.Frag) (ml:X.mg "isinstance" = none) {b:Expr} {tb:TE} (ha:PE X a ta) (hb:PE X b tb) (hg:Gl X "isinstance" := by rfl) (hs:starEach [a,b] X.env=[(false,eval a X.env),(false,eval b X.env)]:=by rfl) (hs2:starEach [b] X.env=[(false,eval b X.env)]:=by rfl) (hK:X.K=K:=by rfl) :
    PE X (.Call (.Name "isinstance" p) [a,b] [] pos) (fun σ H Q=>ta σ H fun x H1=>tb σ H1 fun y H2=>∃ (x':V) (t:String) (p:Addr) (cs:List String),[x,y]=[x',.ref p]∧SqT K H2 p (cs.map V.ty)∧TyN K H2 x' t∧cs.all clNames.contains=true∧Q (.bl (cs.any (zg0 t))) H2):=by
  subst hK
  exact z1u zig hg ml rfl (z0n ha (z0n hb z16 hs2) (by rw [hs,hs2])) (he:=by rw [hs,hs2]) (hpl:=by rw [hs2];rfl)
theorem gT (K:PySem.W.Frag) {es:List Expr} {k:Nat} {t:TGs} {n:Nat} (h:PGs X es t) (hc:X.calm=true:=by rfl) (hn:(assignEach es X.env).length=n:=by rfl) (hst:(assignEach es X.env).findIdx? (·.1)=none:=by rfl) (hK:X.K=K:=by rfl) :
    PG X (.Tuple es k pos) (zut K n t):=by subst hK;exact zqw hc h hn hst
theorem iEn (K:PySem.W.Frag) (ml:X.mg "enumerate" = none) {elts:List Expr} {k:Nat} {tpos:Pos} (ha:PE X a ta) (hg:Gl X "enumerate" := by rfl) (hs:starEach [a] X.env=[(false,eval a X.env)]:=by rfl) (hK:X.K=K:=by rfl) :
    PI X (.Tuple elts k tpos) (.Call (.Name "enumerate" p) [a] [] pos) (zs1 K (z5m ta zfw)):=by
  subst hK;exact zno hg ml (z0n ha z16 hs) hs
end
section
variable {K:PySem.W.Frag} {g:TG} {te:TE} {D:Addr} {σ0:St} {H0:Hp} {Z:Hp→Prop}
end
theorem ztq {xs:List V} {Pd:V→Prop} {r:Int} (h:∀ x∈xs,Pd x) (h0:0≤r) (h1:r<(xs.length:Int)):∃ v,atI xs r=some v∧Pd v :=
  ⟨_,zsh h0 h1,h _ (List.getElem_mem _)⟩
section
variable {X:Cx} {a b o:Expr} {ta tb to:TE} {p pos:Pos}
theorem zoo (K:PySem.W.Frag) {apos:Pos} (ho:PE X o to) (ha:PE X a ta) (hb:PE X b tb) (hs:starEach [a,b] X.env=[(false,eval a X.env),(false,eval b X.env)]:=by rfl) (hs2:starEach [b] X.env=[(false,eval b X.env)]:=by rfl)
    (hbase:attributeBase o "setdefault" X.env (eval o X.env)=eval o X.env:=by rfl) (hline:(apos.endLine==pos.line)=true:=by rfl) (hK:X.K=K:=by rfl)
    (hfew:((backTo pos (starEach [a,b] X.env)).all (fun x=>!x.1)&&(backToKw pos (keywordEach [] X.env)).all (fun x=>x.1.isSome)
      && decide ([a,b].length+([]:List Keyword).length+(if ([]:List Keyword).isEmpty then 0 else 1)<30))=true:=by rfl) :
    PE X (.Call (.Attribute o "setdefault" apos) [a,b] [] pos) (tBM K "dict" zgm to (z5m ta (z5m tb zfw))):=by
  subst hK
  exact zkd PySem.F.plainAttrs_dict PySem.F.slot_dict_setdefault PySem.F.type_dict_setdefault z9e ho (z0n ha (z0n hb z16 hs2) (by rw [hs,hs2])) hbase hfew hline (by rw [hs,hs2]) (by rw [hs2];rfl)
theorem zkz (K:PySem.W.Frag) {apos:Pos} (ho:PE X o to) (hbase:attributeBase o "values" X.env (eval o X.env)=eval o X.env:=by rfl) (hline:(apos.endLine==pos.line)=true:=by rfl) (hK:X.K=K:=by rfl) :
    PE X (.Call (.Attribute o "values" apos) [] [] pos) (ztj K "dict" zgl to):=by
  subst hK
  exact zm1 PySem.F.plainAttrs_dict PySem.F.slot_dict_values PySem.F.type_dict_values zh3 ho hbase hline
end
noncomputable abbrev Cel:=Int×List Int×Addr
noncomputable def gs (cs:List Cel):List (Int×List Int):=cs.map fun c=>(c.1,c.2.1)
section
variable {K:PySem.W.Frag} {H H':Hp}
theorem Dps.len:∀ {vs:List V} {ds:List PyData},Dps K H vs ds→vs.length=ds.length
  | _,_,.nil=>rfl
  | _,_,.cons _ hs=>congrArg (·+1) (Dps.len hs)
theorem Dps.get:∀ {vs:List V} {ds:List PyData} {i:Nat} {v:V},Dps K H vs ds→vs[i]?=some v→∃ d,ds[i]?=some d∧Dp K H v d
  | _,_,_,_,.nil,h=>by simp at h
  | _,_,0,_,.cons (d:=d) h hs,e=>by
    have:_=_:=Option.some.inj e
    subst this
    exact ⟨d,rfl,h⟩
  | _,_,i+1,_,.cons h hs,e=>Dps.get (i:=i) hs e
end
section
variable {X:Cx} {a b:Expr} {ta tb:TE} {p pos:Pos}
end
def IsMax (M:Int) (l:List Int):Prop:=M∈l∧∀ a∈l,a≤M
theorem IsMax.step {M x:Int} {l:List Int} (h:IsMax M l):IsMax (if x > M then x else M) (l++[x]):=by
  refine bq fun bG=>?_
  obtain ⟨h1,h2⟩:=h
  refine bG (⟨?_,fun a ha=>?_⟩)
  · split
    · simp
    · exact List.mem_append_left _ h1
  · rcases List.mem_append.mp ha with z | z
    · have:=h2 a z
      split <;> omega
    · have:a=x:=by simpa using z
      subst this
      split <;> omega
def zuy (ns:List Int) (j:Nat):Option Value→Prop
  | none=>j=0
  | some v=>∃ M t,v=.int M t∧IsMax M (ns.take j)
noncomputable def zij:Option Value→Array Value
  | none=>#[]
  | some v=>#[v,v]
theorem zdw:∀ {vs:List Value} {ns:List Int} {j:Nat} {v:Value},IntsAre vs ns→vs[j]?=some v→∃ t,v=.int (ns.getD j 0) t
  | _,_,_,_,.nil,h=>by simp at h
  | _,_,0,_,.cons n t _,h=>⟨t,(Option.some.inj h).symm⟩
  | _,_,j+1,_,.cons n t r,h=>by
    refine bq fun bG=>?_
    obtain ⟨t',e⟩:=zdw (j:=j) r h
    exact bG (⟨t',by simpa using e⟩)
theorem zck (a d:Value):argsOk "max" ⟨[a],[("default",d)]⟩:=by unfold argsOk;kernel_rfl
section
variable {prog:Program} {w:World} {A:Around} {R:Result→Shared→Prop} {I l:Addr} {items:Array Value} {ns:List Int} {d:Value}
theorem zh8 (hh:A.in1.handled=none) (hne:l≠I) (hi:IntsAre items.toList ns) (S:Addr) (hSI:S≠I) (hSl:S≠l) :
    ∀ (k j:Nat) (s:Shared) (b:Option Value) (c:Nat),items.size - j=k→j≤items.size→s.heap.IsListIter I l j→s.heap.IsList l items→zuy ns j b →
      s.heap.get? S=some { cls:=.type "list",dict:=none,data:=.seq (zij b) c,slots:=#[] } →
      (∀ v h' tk,((ns=[]∧v=d)∨∃ M t,v=.int M t∧IsMax M ns)→(∀ x o,x≠I→x≠S→s.heap.get? x=some o→h'.get? x=some o)→R (.ok (.ret v)) { s with heap:=h',toks:=tk }) →
      codeAny (model prog w) A (.builtin "max.loop" ⟨[.ref I,.none,.ref S],[("default",d)]⟩) R s:=by
  have hnm:(toString "max" ++ toString ".loop" : String) = "max.loop" := by decide
  have hlen:ns.length=items.size:=by have:=hi.length;rw [Array.length_toList] at this;omega
  have W:=Walks.list (prog:=prog) (w:=w) hh I l hne items
  intro k
  induction k with
  | zero =>
    intro j s b c hk hj st1 st2 hb hS hR
    have ej:j=items.size:=by omega
    subst ej
    refine codeAny_builtin (F.entry_max_loop) (by
      rw [Around.under_plainId F.plain_max_loop]
      show wpAny _ A.in1 (seqItems? (.ref S) >>= fun _=>_) _ _ s
      refine wpAny_bind (wpAny_seqItems hS rfl (?_:wpAny _ A.in1 (tryCatch (pyNext (.ref I)) (fun _=>_) >>= fun _=>_) _ _ s))
      refine wpAny_bind (wpAny_tryCatch (W.done s _ _ ⟨st1,st2⟩ fun h' tk keep=>?_))
      have kS:=keep S _ (by simpa using hSI) hS
      cases b with
      | none =>
        have hb0:items.size=0:=hb
        have hn:ns=[]:=List.length_eq_zero_iff.mp (by omega)
        show wpAny _ A.in1 (rule _ >>= fun _=>ret d) _ _ _
        exact wpAny_bind (wpAny_rule (wpAny_pure (hR d h' tk (.inl ⟨hn,rfl⟩) fun x o n1 _ e=>keep x o (by simpa using n1) e)))
      | some v =>
        obtain ⟨M,t,rfl,hM⟩:=hb
        have htk:ns.take items.size=ns:=List.take_of_length_le (by omega)
        rw [htk] at hM
        show wpAny _ A.in1 (updateSeq S (fun _=>#[]) >>= fun _=>_) _ _ _
        refine wpAny_bind (wpAny_updateSeq (hz:=by show 2≤sizeLine;decide) kS rfl (wpAny_bind (wpAny_letGo (wpAny_pure (hR _ _ tk (.inr ⟨M,t,rfl,hM⟩) fun x o n1 n2 e=>?_)))))
        exact (Heap.get?_update_other _ _ (Ne.symm n2)).trans (keep x o (by simpa using n1) e))
  | succ k ih =>
    intro j s b c hk hj st1 st2 hb hS hR
    have hlt:j<items.size:=by omega
    refine codeAny_builtin (F.entry_max_loop) (by
      rw [Around.under_plainId F.plain_max_loop]
      show wpAny _ A.in1 (seqItems? (.ref S) >>= fun _=>_) _ _ s
      refine wpAny_bind (wpAny_seqItems hS rfl (?_:wpAny _ A.in1 (tryCatch (pyNext (.ref I)) (fun _=>_) >>= fun _=>_) _ _ s))
      refine wpAny_bind (wpAny_tryCatch (W.item j s _ _ hlt ⟨st1,st2⟩ fun v h' tk hv st' keep=>?_))
      have kS:=keep S _ (by simpa using hSI) hS
      have hx:∃ t,v=.int (ns.getD j 0) t:=by
        exact zdw hi (by rw [Array.getElem?_toList];exact hv)
      obtain ⟨t,rfl⟩:=hx
      have htk:ns.take (j+1)=ns.take j++[ns.getD j 0]:=by
        rw [List.take_add_one,List.getD_eq_getElem?_getD,List.getElem?_eq_getElem (by omega)]
        rfl
      have goOn:∀ (b':Option Value) (h2:Heap) (c':Nat),zuy ns (j+1) b'→h2.get? S=some { cls:=.type "list",dict:=none,data:=.seq (zij b') c',slots:=#[] } →
          (∀ x o,x≠S→h'.get? x=some o→h2.get? x=some o)→codeAny (model prog w) A (.builtin "max.loop" ⟨[.ref I,.none,.ref S],[("default",d)]⟩) R { s with heap:=h2,toks:=tk }:=fun b' h2 c' hb' hS' k2=>by
        refine ih (j+1) _ b' c' (by omega) hlt (st'.1.at fun o e=>k2 I o (Ne.symm hSI) e) (st'.2.at fun o e=>k2 l o (Ne.symm hSl) e) hb' hS' fun v' h3 tk3 hv' k3=>hR v' h3 tk3 hv' fun x o n1 n2 e=>?_
        exact k3 x o n1 n2 (k2 x o n2 (keep x o (by simpa using n1) e))
      cases b with
      | none =>
        have hb0:j=0:=hb
        subst hb0
        show wpAny _ A.in1 (updateSeq S (fun _=>#[Value.int (ns.getD 0 0) t,Value.int (ns.getD 0 0) t]) >>= fun _=>_) _ _ _
        refine wpAny_bind (wpAny_updateSeq kS rfl ?_)
        rw [hnm]
        refine wpAny_pure ⟨plainId_quiet F.plain_max_loop _,goOn (some (.int (ns.getD 0 0) t)) _ _ ⟨_,t,rfl,?_⟩ (Heap.get?_update_self _ kS rfl) fun x o n e=>(Heap.get?_update_other _ _ (Ne.symm n)).trans e⟩
        rw [htk]
        exact ⟨by simp,fun a ha=>by
          have:a=ns.getD 0 0:=by simpa using ha
          omega⟩
      | some vb =>
        obtain ⟨M,tb,rfl,hM⟩:=hb
        show wpAny _ A.in1 (tryCatch (holding [Value.int (ns.getD j 0) t,Value.int (ns.getD j 0) t] (richCompare .Gt (.int (ns.getD j 0) t) (.int M tb) >>= fun _=>_)) (fun _=>_) >>= fun _=>_) _ _ _
        refine wpAny_bind (wpAny_tryCatch (wpAny_holding (wpAny_bind ?_)))
        refine richCompare_gives (op:=.Gt) (typeIs_int _ _ t) (typeIs_int _ _ tb) F.slot_int_gt F.entry_int_gt (F.args_int_gt_2 _ _) (gives_int_gt _ _ t tb) (fun x=>nomatch x) ?_
        refine wpAny_bind (wpAny_holding (wpAny_truthy_bool (wpAny_bind (wpAny_letGo (wpAny_pure ?_)))))
        have hst:=hM.step (x:=ns.getD j 0)
        rw [← htk] at hst
        by_cases hgt:ns.getD j 0 > M
        · rw [if_pos hgt] at hst
          rw [if_pos (decide_eq_true hgt)]
          refine wpAny_bind (wpAny_updateSeq (hz:=by show 2≤sizeLine;decide) kS rfl (wpAny_bind (wpAny_letGo ?_)))
          rw [hnm]
          exact wpAny_pure ⟨plainId_quiet F.plain_max_loop _,goOn (some (.int (ns.getD j 0) t)) _ _ ⟨_,t,rfl,hst⟩ (Heap.get?_update_self _ kS rfl) fun x o n e=>(Heap.get?_update_other _ _ (Ne.symm n)).trans e⟩
        · rw [if_neg hgt] at hst
          rw [if_neg (by simpa using hgt)]
          refine wpAny_bind (wpAny_letGo ?_)
          rw [hnm]
          exact wpAny_pure ⟨plainId_quiet F.plain_max_loop _,goOn (some (.int M tb)) _ _ ⟨_,tb,rfl,hst⟩ kS fun x o _ e=>e⟩)
theorem zcj {E:Value→Shared→Prop} {s:Shared} {Q:Value→Shared→Prop} {vs:List Value} (hh:A.handled=none) (hl:s.heap.IsList l vs.toArray) (hi:IntsAre vs ns)
    (h:∀ v h' tk,((ns=[]∧v=d)∨∃ M t,v=.int M t∧IsMax M ns)→(∀ b o,s.heap.get? b=some o→h'.get? b=some o)→Q v { s with heap:=h',toks:=tk }) :
    wpAny (model prog w) A (call (.builtin "max") [.ref l] [("default",d)]) Q E s:=by
  have hnm:(toString "max" ++ toString ".loop" : String) = "max.loop" := by decide
  obtain ⟨ol,el,_⟩:=id hl
  have llt:l<s.heap.objs.size:=Heap.lt_size el
  have body:wpAny (model prog w) A.in1 (Builtin.«max» ⟨[.ref l],[("default",d)]⟩) (fun fin s'=>match fin with
      | .done f=>(match (Except.ok f:Result) with | .ok (.ret v)=>Q v s' | .ok _=>False | .error e=>E e s')
      | .again c'=>c'.quiet=true∧codeAny (model prog w) A c' (fun r s'=>match r with | .ok (.ret v)=>Q v s' | .ok _=>False | .error e=>E e s') s') E s:=by
    show wpAny _ A.in1 (Builtin.Builtins.bindParams "max" ["key", "default"] 0 ⟨[],[("default",d)]⟩ >>= fun _=>_) _ _ s
    refine wpAny_bind (wpAny_of_eq (show Builtin.Builtins.bindParams "max" ["key", "default"] 0 ⟨[],[("default",d)]⟩=pure [none,some d] from by with_unfolding_all rfl) (wpAny_bind (wpAny_pure ?_)))
    refine wpAny_bind (wpAny_pyIter_list hl ?_)
    refine wpAny_bind (wpAny_newObj_type ?_)
    rw [hnm]
    refine wpAny_pure ⟨plainId_quiet F.plain_max_loop _,?_⟩
    have e1:(s.heap.push { cls:=.type "list_iterator",data:=.fields #[.ref l,.int 0 0] }).objs.size=s.heap.objs.size+1:=Heap.size_push ..
    refine zh8 (I:=s.heap.objs.size) (l:=l) (items:=vs.toArray) (ns:=ns) (d:=d) hh (Nat.ne_of_lt llt) (by simpa using hi) _ (by rw [e1];exact Nat.ne_of_gt (Nat.lt_succ_self _)) (by rw [e1];exact Nat.ne_of_gt (Nat.lt_succ_of_lt llt)) _ 0 _ none 0 rfl (Nat.zero_le _)
      ⟨_,Heap.get?_push_of_some _ (Heap.get?_push_size _ rfl),rfl,rfl⟩ ((hl.push _).push _) rfl (Heap.get?_push_size _ rfl) fun v h' tk hv kp=>?_
    refine h v h' tk hv fun b o e=>kp b o (Nat.ne_of_lt (Heap.lt_size e)) (by rw [e1];exact Nat.ne_of_lt (Nat.lt_succ_of_lt (Heap.lt_size e))) (Heap.get?_push_of_some _ (Heap.get?_push_of_some _ e))
  refine wpAny_call (codeAny_call_builtin F.plain_max F.entry_max ?_)
  simp only [checkBuiltinCall,F.kind_max]
  have ha:=zck (.ref l) d
  cases hsig:Manifest.signature? "max" with
  | none=>exact wpAny_pure body
  | some sig =>
    simp only [argsOk,hsig] at ha
    have h2:Bind.checkArgs "max" sig ⟨[.ref l],[("default",d)]⟩=pure ():=ha
    show wpAny _ A.in1 (Bind.checkArgs "max" sig ⟨[.ref l],[("default",d)]⟩) _ _ s
    rw [h2]
    exact wpAny_pure body
end
section
variable {X:Cx} {a b:Expr} {ta tb:TE} {p pos kp:Pos}
theorem zop (K:PySem.W.Frag) (mm:X.mg "max" = none) (ha:PE X a ta) (hb:PE X b tb) (hc:X.calm=true:=by rfl) (hg:Gl X "max" := by rfl) (hs:starEach [a] X.env=[(false,eval a X.env)]:=by rfl) (hK:X.K=K:=by rfl)
    (hall:(backToKw pos (keywordEach [⟨some "default",b,kp⟩] X.env)).all (·.1.isSome)=true:=by rfl) (hks:(backToKw pos (keywordEach [⟨some "default",b,kp⟩] X.env)).filterMap (·.1)=([Str.ofString "default"]:List Str):=by rfl)
    (hno:(backToKw pos (keywordEach [⟨some "default",b,kp⟩] X.env)).any (·.1.isNone)=false:=by rfl) :
    PE X (.Call (.Name "max" p) [a] [⟨some "default",b,kp⟩] pos) (fun σ H Q=>ta σ H fun x H1=>tb σ H1 fun y H2=>∃ (q:Addr) (ns:List Int) (j:Int),x=.ref q∧y=.int j∧SqL K H2 q (ns.map V.int)∧(ns=[]→Q (.int j) H2)∧∀ M,IsMax M ns→Q (.int M) H2):=by
  subst hK
  intro pins s σ H Q I h
  have hb1:backTo pos (starEach [a] X.env)=[(false,eval a X.env)]:=by rw [hs];rfl
  refine wpAny_Call_Name_kw (z62 I hg mm (u:=.builtin "max") rfl (callWith_builtin_kwB (by rw [hb1];rfl) hno ?_))
  rw [hb1]
  refine evalArgs_kwB hall (Calls.spliced_cons (thn (ha pins s σ H _ I h) fun u s1 ⟨x,H1,I1,r1,q1⟩=>Calls.spliced_nil ?_))
  refine kws_cons (thn (hb pins s1 σ H1 _ I1 q1) fun u2 s2 ⟨y,H2,I2,r2,q2⟩=>kws_nil ?_)
  obtain ⟨q,ns,j,rfl,rfl,hq,hz,hm⟩:=q2
  cases r1
  obtain ⟨t,rfl⟩:=r2
  obtain ⟨its,rv,pl,_⟩:=I2.list hq
  rw [hks]
  refine zcj (d:=.int j t) (I2.ok.hd hc) pl.isList (z4b rv) fun v h' tk hv kp'=>?_
  rcases hv with ⟨e,rfl⟩ | ⟨M,t',rfl,hM⟩
  · exact ⟨.int j,H2,I2.kept kp',⟨_,rfl⟩,hz e⟩
  · exact ⟨.int M,H2,I2.kept kp',⟨_,rfl⟩,hm M hM⟩
end
section
variable {X:Cx} {a b e o:Expr} {ta tb te to:TE} {p pos:Pos}
theorem zih:z3u X (.type "int") (fun xs H Q=>∃ k,xs=[V.bl k]∧Q (.int (if k then 1 else 0)) H):=fun pins s σ H xs us Q I r h=>zii pins s σ H xs us Q I r (.inr h)
theorem zvq (ml:X.mg "int" = none) (ha:PE X a ta) (hg:Gl X "int" := by rfl) (hs:starEach [a] X.env=[(false,eval a X.env)]:=by rfl) :
    PE X (.Call (.Name "int" p) [a] [] pos) (fun σ H Q=>ta σ H fun x H1=>∃ k,[x]=[V.bl k]∧Q (.int (if k then 1 else 0)) H1) :=
  z44 zih hg ml rfl (z0n ha z16 hs) (he:=hs)
end
noncomputable abbrev Ask:=Nat×Nat×Bool
noncomputable def z70 (ks:List Int) (i j:Nat):Bool:=decide (ks.getD i 0=ks.getD j 0)
noncomputable def rw1 (ks:List Int):Nat→List Ask×Nat×Int
  | 0=>([],0,if ks=[] then 0 else 1)
  | n+1=>if (rw1 ks n).2.2 > 0 then ((rw1 ks n).1++[((rw1 ks n).2.1,n+1,z70 ks (rw1 ks n).2.1 (n+1))],(rw1 ks n).2.1,(rw1 ks n).2.2+2*(if z70 ks (rw1 ks n).2.1 (n+1) then 1 else 0) - 1) else ((rw1 ks n).1,n+1,1)
noncomputable def z8j (ks:List Int):Nat:=(rw1 ks (ks.length - 1)).2.1
noncomputable def znf (ks:List Int):List Ask:=(rw1 ks (ks.length - 1)).1
noncomputable def znd (ks:List Int):List Nat:=(if ks=[] then [] else [z8j ks])++((znf ks).filter fun a=>decide (a.1=z8j ks)&&a.2.2).map fun a=>a.2.1
noncomputable def znc (ks:List Int):List Nat:=((znf ks).filter fun a=>decide (a.1=z8j ks)&&!a.2.2).map fun a=>a.2.1
noncomputable def ztn (ks:List Int) (s:List Ask×List Nat×List Nat):Bool:=decide (ks.length<2*s.2.1.length)||decide (ks.length≤2*s.2.2.length)
noncomputable def rw2 (ks:List Int):Nat→List Ask×List Nat×List Nat
  | 0=>(znf ks,znd ks,znc ks)
  | n+1=>if ztn ks (rw2 ks n) then rw2 ks n else if n∈(rw2 ks n).2.1∨n∈(rw2 ks n).2.2 then rw2 ks n
    else if z70 ks (z8j ks) n then ((rw2 ks n).1++[(z8j ks,n,true)],(rw2 ks n).2.1++[n],(rw2 ks n).2.2)
    else ((rw2 ks n).1++[(z8j ks,n,false)],(rw2 ks n).2.1,(rw2 ks n).2.2++[n])
section
variable {X:Cx} {pos:Pos}
end
noncomputable def zp0 (ks:List Int) (t:Nat):List Nat→Nat→List Ask→List Ask×Option Nat
  | [],zix,a=>(a,if 0<zix then some t else none)
  | [x],zix,a=>if z70 ks x t then ((if x=t then a else a++[(t,x,z70 ks x t)]),some t)
    else if zix=0 then ((if x=t then a else a++[(t,x,z70 ks x t)]),none)
    else ((if x=t then a else a++[(t,x,z70 ks x t)]),if 0<zix - 1 then some t else none)
  | x::y::r,zix,a=>if z70 ks x t then zp0 ks t r zix (if x=t then a else a++[(t,x,z70 ks x t)])
    else if zix=0 then ((if x=t then a else a++[(t,x,z70 ks x t)]),none)
    else zp0 ks t (y::r) (zix - 1) (if x=t then a else a++[(t,x,z70 ks x t)])
section
variable {n:Nat} {p q:Addr} {H H' H'':Hp}
end
section
variable {X:Cx}
theorem zkf:OpR X (binaryOp .FloorDiv) (rI (fun _ j=>0<j∧j<2 ^ 200) fun i j=>.int (i / j)):=opI fun i j _ _ _ _ _ hc q=>by
  obtain ⟨h1,h2⟩:=hc
  refine floordiv_int (by omega) (by rw [Int.fdiv_eq_ediv_of_nonneg i (by omega)];exact q) (.inl (PyProof.noPylong_of_log2 ?_))
  have h3:j.natAbs≠0:=by omega
  have h4:j.natAbs<2 ^ 200:=by
    have:((j.natAbs:Nat):Int)=j:=by omega
    have h5:((j.natAbs:Nat):Int)<((2 ^ 200:Nat):Int):=by rw [this];exact_mod_cast h2
    omega
  have:=(Nat.log2_lt h3).mpr h4
  omega
theorem zub (K:PySem.W.Frag) {a:Expr} {ta:TE} {p pos:Pos} (mm:X.mg "max" = none) (ha:PE X a ta) (hc:X.calm=true:=by rfl) (hg:Gl X "max" := by rfl) (hs:starEach [a] X.env=[(false,eval a X.env)]:=by rfl) (hK:X.K=K:=by rfl) :
    PE X (.Call (.Name "max" p) [a] [] pos) (fun σ H Q=>ta σ H fun x H1=>∃ (q:Addr) (ns:List Int),[x]=[.ref q]∧SqL K H1 q (ns.map V.int)∧ns≠[]∧∀ M,IsMax M ns→Q (.int M) H1):=by
  subst hK
  have rule:z3u X (.builtin "max") (fun xs H Q=>∃ (q:Addr) (ns:List Int),xs=[.ref q]∧SqL X.K H q (ns.map V.int)∧ns≠[]∧∀ M,IsMax M ns→Q (.int M) H):=by
    intro pins s σ H xs us Q I r h
    obtain ⟨q,ns,rfl,hq,hne,k⟩:=h
    obtain ⟨u,rfl,ru⟩:=z67 r
    cases ru
    obtain ⟨its,rv,pl,hz⟩:=I.list hq
    have hi:=z4b rv
    obtain ⟨xs,e⟩:=hi.allInts.items;have hl:=pl.isList;rw [e] at hl
    have hns:xs.toList.map (·.1)=ns:=by rw [← hi.numsOf,← nums_intItems,← e]
    have hsz:0<xs.size:=by
      rcases Nat.eq_zero_or_pos xs.size with z | z
      · exact absurd (by rw [← hns,List.map_eq_nil_iff];exact List.length_eq_zero_iff.mp (by simpa using z)) hne
      · exact z
    have hlen:(xs.toList.map (·.1)).length=xs.size:=by rw [List.length_map,Array.length_toList]
    refine max_intList (I.ok.hd hc) hl hsz fun v h' tk hv hk=>?_
    refine bq fun bG=>?_
    obtain ⟨t,rfl⟩:=intItems_at hv;have best:=argBest_gt (numAt xs) (xs.size - 1)
    refine bG (⟨.int _,H,I.kept hk,⟨_,rfl⟩,k _ ⟨?_,fun a ha=>?_⟩⟩)
    · rw [← hns,numAt_eq];have:=best.1;exact getD_mem (by rw [hlen];omega)
    · rw [← hns] at ha;obtain ⟨j,hj,e2⟩:=mem_getD ha;rw [hlen] at hj
      rw [← e2,← numAt_eq];exact best.2 j (by omega)
  exact z1u rule hg mm rfl (z0n ha z16 hs) (he:=hs)
end
section
variable {X:Cx}
end
theorem zfp:∀ {bs:List Bool} {us:List Value},Vals (bs.map V.bl) us→us=bs.map Value.bool
  | [],_,h=>by cases h;rfl
  | b::r,_,h=>by
    cases h with
    | cons h1 h2 =>
      cases (show _=Value.bool b from h1)
      rw [zfp h2];rfl
section
variable {X:Cx} {a b o:Expr} {ta tb to:TE} {p pos:Pos}
theorem zvs (K:PySem.W.Frag) (mm:X.mg "all" = none) (ha:PE X a ta) (hc:X.calm=true:=by rfl) (hg:Gl X "all" := by rfl) (hs:starEach [a] X.env=[(false,eval a X.env)]:=by rfl) (hK:X.K=K:=by rfl) :
    PE X (.Call (.Name "all" p) [a] [] pos) (fun σ H Q=>ta σ H fun x H1=>∃ (q:Addr) (bs:List Bool),[x]=[.ref q]∧SqL K H1 q (bs.map V.bl)∧Q (.bl (bs.all id)) H1):=by
  subst hK
  have rule:z3u X (.builtin "all") (fun xs H Q=>∃ (q:Addr) (bs:List Bool),xs=[.ref q]∧SqL X.K H q (bs.map V.bl)∧Q (.bl (bs.all id)) H):=by
    intro pins s σ H xs us Q I r h
    refine bq fun bG=>?_
    obtain ⟨q,bs,rfl,hq,k⟩:=h
    obtain ⟨u,rfl,ru⟩:=z67 r
    cases ru
    obtain ⟨its,rv,pl,hz⟩:=I.list hq
    have ei:its=bs.map Value.bool:=zfp rv
    subst ei
    obtain ⟨ol,el,_⟩:=id pl.isList
    have qlt:q<s.heap.objs.size:=Heap.lt_size el
    refine bG (call_all_walk (wpAny_pyIter_list pl.isList ⟨_,_,_,_,_,_,fun i=>bs.getD i false,rfl,Walks.list (A:=X.A.in1) (I.ok.hd hc) _ q (Nat.ne_of_lt qlt) (bs.map Value.bool).toArray,⟨⟨_,Heap.get?_push_size _ rfl,rfl,rfl⟩,pl.isList.push _⟩,?_,fun h' tk keep=>?_⟩))
    · intro i v s' Q' E' hv hQ
      have hv':(bs.map Value.bool)[i]?=some v:=by simpa using hv
      rw [List.getElem?_map] at hv'
      cases eb:bs[i]? with
      | none=>rw [eb] at hv';cases hv'
      | some b =>
        rw [eb] at hv'
        have:v=.bool b:=(Option.some.inj hv').symm
        subst this
        have e2:bs.getD i false=b:=by rw [List.getD_eq_getElem?_getD,eb];rfl
        simp only [e2] at hQ
        exact wpAny_truthy_bool hQ
    · have ea:(List.range (bs.map Value.bool).toArray.size).all (fun i=>bs.getD i false)=bs.all id:=by
        rw [Bool.eq_iff_iff,List.all_eq_true,List.all_eq_true]
        constructor
        · intro hh b hb
          obtain ⟨i,hi⟩:=List.getElem?_of_mem hb
          have:=hh i (by simp;exact (List.getElem?_eq_some_iff.mp hi).1)
          rw [List.getD_eq_getElem?_getD,hi] at this
          exact this
        · intro hh i hi
          have hi':i<bs.length:=by simpa using hi
          rw [List.getD_eq_getElem?_getD,List.getElem?_eq_getElem hi']
          exact hh _ (List.getElem_mem hi')
      rw [ea]
      have kp:∀ b o,s.heap.get? b=some o→h'.get? b=some o:=fun b o e=>keep b o (fun hm=>absurd (List.mem_singleton.mp hm) (Nat.ne_of_lt (Heap.lt_size e))) (Heap.get?_push_of_some _ e)
      exact ⟨.bl _,H,I.kept kp,rfl,k⟩
  exact z1u rule hg mm rfl (z0n ha z16 hs) (he:=hs)
noncomputable def isInt (k:Int):Value→Bool
  | .int a _=>a==k
  | _=>false
end
noncomputable def zvd (o:List Int) (k:Int):Nat:=if k∈o then o.idxOf k+1 else o.length
noncomputable def zrg (o:List Int) (fs:List Nat) (n:Nat) (k:Int) (m:Nat):List Ask:=(List.range m).map fun at_=>(fs.getD at_ 0,n,decide (o.getD at_ 0=k))
noncomputable def ob (ks:List Int):Nat→List Int×List Nat×List Ask
  | 0=>([],[],[])
  | n+1=>(if ks.getD n 0∈(ob ks n).1 then (ob ks n).1 else (ob ks n).1++[ks.getD n 0],
      if ks.getD n 0∈(ob ks n).1 then (ob ks n).2.1 else (ob ks n).2.1++[n],
      (ob ks n).2.2++zrg (ob ks n).1 (ob ks n).2.1 n (ks.getD n 0) (zvd (ob ks n).1 (ks.getD n 0)))
section
variable {prog:Program} {w:World} {A:Around} {R:Result→Shared→Prop} {s:Shared}
theorem z9v {kx vx target iter:Expr} {ifs:List Expr} {scope:Scope} {pos:Pos} {it:Value} {D:Addr} {env:Env} (I:Nat→Shared→Prop)
    (turn:∀ n s,I n s→wpAny (model prog w) A (pyNext it) (fun r s₁=>match r with
      | none=>R (.ok .next) s₁
      | some v=>wpAny (model prog w) A (letOwnedTupleGo target it v) (fun _ s₁'=>wpAny (model prog w) A (assign target env v) (fun _ s₂ =>
          wpAny (model prog w) A (forIn ifs true fun c r=>if r=true then do let ok ← isTrue c env (eval c env);pure (ForInStep.yield ok) else pure (ForInStep.yield r)) (fun ok s₃ =>
            if ok=true then wpAny (model prog w) A (eval kx env) (fun kv s₄=>wpAny (model prog w) A (eval vx env) (fun vv s₅ =>
              wpAny (model prog w) A (dictSet D kv vv) (fun _ s₆=>∃ m,m<n∧I m s₆) (fun _ _=>False) s₅) (fun _ _=>False) s₄) (fun _ _=>False) s₃
            else ∃ m,m<n∧I m s₃) (fun _ _=>False) s₂) (fun _ _=>False) s₁') (fun _ _=>False) s₁) (fun _ _=>False) s)
    (n:Nat) (h:I n s):codeAny (model prog w) A (.compLoop (.DictComp kx vx [⟨target,iter,ifs,0⟩] scope pos) 0 it (.ref D) env) R s:=by
  refine codeAny_loop rfl I (fun n s hI=>?_) n h
  show wpAny _ A ((compTurn (.DictComp kx vx [⟨target,iter,ifs,0⟩] scope pos) 0 it (.ref D) env).onRaise (fun x=>do noteFrame x env;theTreesLotGoes x)) _ _ s
  refine wpAny_noted ?_
  rw [compTurn_dict]
  refine wpAny_mono (E:=fun _ _=>False) ?_ (fun _ _ x=>x) fun _ _ x=>x.elim
  refine wpAny_bind (wpAny_standAt (wpAny_bind (wpAny_mono (turn n s hI) (fun r s₁ h₁=>?_) fun _ _ h'=>h')))
  cases r with
  | none=>exact wpAny_pure h₁
  | some v =>
    refine wpAny_bind (wpAny_mono h₁ (fun _ s₁' h₁'=>?_) fun _ _ h'=>h')
    refine wpAny_bind (wpAny_mono h₁' (fun _ s₂ h₂=>wpAny_bind (wpAny_mono h₂ (fun ok s₃ h₃=>?_) fun _ _ h'=>h')) fun _ _ h'=>h')
    cases ok with
    | false=>exact wpAny_pure ⟨rfl,h₃⟩
    | true =>
      exact wpAny_bind (wpAny_bind (wpAny_mono h₃ (fun kv s₄ h₄=>wpAny_bind (wpAny_holding (wpAny_mono h₄ (fun vv s₅ h₅=>wpAny_bind (wpAny_standAt (wpAny_holding (wpAny_mono h₅ (fun _ s₆ h₆=>wpAny_pure ⟨rfl,h₆⟩) fun _ _ h'=>h')))) fun _ _ h'=>h'))) fun _ _ h'=>h'))
end
noncomputable def z4d (J:It) (g:TG) (tc:TT) (tk tv:TE) (D:Addr) (σ0:St) (H0:Hp) (Z:Hp→Prop):Prop :=
  ∃ W:Nat→Nat→St→Hp→Prop,(∃ m,W 0 m σ0 (upd H0 D (.dK [])))∧∀ i m σ H,W i m σ H →
    (J.stop i H∧Z H)∨(J.go i H∧∃ N:St→Hp→Prop,(∀ σ' H',N σ' H'→∃ m',m'<m∧W (i+1) m' σ' H')∧∀ x H',J.yld i H x H'→g x σ H' fun σ2 H2=>tc σ2 H2 fun b H3 =>
      if b=true then tk σ2 H3 fun y H4=>tv σ2 H4 fun v H5=>∃ kvs k,H5 D=some (.dK kvs)∧kvs.length<sizeLine∧y=kV k∧N σ2 (upd H5 D (.dK (zdh kvs k v))) else N σ2 H3)
section
variable {X:Cx} {pins:List (Addr×Obj)} {σ:St} {N' own:List Str} {cap:List (Str×Nat)} {scope:Scope} {tg iter kx vx:Expr} {ifs:List Expr} {pos:Pos} {g:TG} {tc:TT} {tk tv:TE} {wi:TI}
theorem zf5 {Y:Cx} {s:Shared} {σ0:St} {H2:Hp} {it D:Addr} {fp:List Addr} {tn:Nat→Heap→Prop} {J:It} {Z:Hp→Prop} {R:Result→Shared→Prop}
    (hx:∀ e s,Y.xe e s→False) (hc:Y.calm=true) (hg:PG Y tg g) (ht:PIf Y ifs tc) (hk0:PE Y kx tk) (hv0:PE Y vx tv)
    (T:Turn Y.prog Y.w Y.K tg J fp it tn) (J0:Inv Y [] σ0 (upd H2 D (.dK [])) s) (st3:tn 0 s.heap) (f3:∀ b∈fp,upd H2 D (.dK []) b=none)
    (stat:∀ {H':Hp},(∀ b∈fp,H' b=none)→∀ b∈fp,z5x Y [] H' b) (h:z4d J g tc tk tv D σ0 H2 Z)
    (hR:∀ σ4 H4 s5,Inv Y [] σ4 H4 s5→Z H4→R (.ok .next) s5) :
    codeAny (model Y.prog Y.w) Y.A (.compLoop (.DictComp kx vx [⟨tg,iter,ifs,0⟩] scope pos) 0 (.ref it) (.ref D) Y.env) R s:=by
  obtain ⟨W,⟨m0,w0⟩,turn⟩:=h
  have noX:∀ {α:Type} {t:Sem α} {Q:α→Shared→Prop} {s:Shared},wpAny (model Y.prog Y.w) Y.A t Q Y.xe s→wpAny (model Y.prog Y.w) Y.A t Q (fun _ _=>False) s:=fun q=>wpAny_mono q (fun _ _ z=>z) fun e s z=>hx e s z
  obtain ⟨P,hP⟩:∃ P:Nat→Shared→Prop,∀ n s',P n s'↔∃ i σ' H',Inv Y [] σ' H' s'∧tn i s'.heap∧(∀ b∈fp,H' b=none)∧W i n σ' H':=⟨_,fun _ _=>Iff.rfl⟩
  refine z9v P ?_ m0 ((hP _ _).2 ⟨0,_,_,J0,st3,f3,w0⟩)
  rintro n s4 h4
  obtain ⟨i,σ4,H4,I4,st4,fr4,w4⟩:=(hP _ _).1 h4
  rcases turn i n σ4 H4 w4 with ⟨stop,qz⟩ | ⟨go,N,hN,step⟩
  · refine wpAny_mono (T.done Y rfl rfl rfl hc i [] s4 σ4 H4 (fun _ _=>False) I4 (stat fr4) st4 stop) (fun r s5 ⟨hr,I5⟩=>?_) fun _ _ z=>z
    subst hr
    exact hR σ4 H4 s5 I5 qz
  · refine wpAny_mono (T.item Y rfl rfl rfl hc i [] s4 σ4 H4 (fun _ _=>False) I4 (stat fr4) st4 go) (fun r s5 ⟨u,hr,h5⟩=>?_) fun _ _ z=>z
    subst hr
    refine wpAny_mono h5 (fun _ s6 hm=>?_) fun _ _ z=>z
    obtain ⟨x,H6,I6,r6,y6,st6,fr6⟩:=hm
    have I6':=I6.pinned (stat fr6) (T.obj _ _ st6)
    have again:∀ {σ7:St} {H7:Hp} {s7:Shared},Inv Y ([]++z5z fp s6.heap) σ7 H7 s7→N σ7 H7→∃ m,m<n∧P m s7:=fun {σ7 H7 s7} I7 n7=>by
      refine bq fun bG=>?_
      obtain ⟨m',hm,w7⟩:=hN σ7 H7 n7
      refine bG (⟨m',hm,(hP _ _).2 ⟨i+1,σ7,H7,I7.unpinned,T.keep _ _ _ st6 fun b hb o e=>(I7.pin (b,o) (List.mem_append_right _ (List.mem_append_right _ (z1c hb e)))).1,fun b hb=>?_,w7⟩⟩)
      refine bq fun bG=>?_
      obtain ⟨o,e,d⟩:=T.obj _ _ st6 b hb
      exact bG ((I7.pin (b,o) (List.mem_append_right _ (List.mem_append_right _ (z1c hb e)))).2.1)
    refine noX (thn (hg _ s6 σ4 H6 x u _ I6' r6 (step x H6 y6)) fun _ s7 hm=>?_)
    refine bq fun bG=>?_
    obtain ⟨σ7,H7,I7,q7⟩:=hm
    refine bG (noX (thn (ht _ s7 σ7 H7 _ I7 q7) fun b s8 hm=>?_))
    obtain ⟨H8,I8,q8⟩:=hm
    cases b with
    | false =>
      show ∃ m,_
      exact again I8 q8
    | true =>
      show wpAny _ _ _ _ _ _
      refine noX (thn (hk0 _ s8 σ7 H8 _ I8 q8) fun kv s9 hm=>?_)
      refine bq fun bG=>?_
      obtain ⟨vk,H9,I9,r9,q9⟩:=hm
      refine bG (noX (thn (hv0 _ s9 σ7 H9 _ I9 q9) fun vv s10 hm=>?_))
      refine bq fun bG=>?_
      obtain ⟨v,H10,I10,r10,kvs,k,e10,hz,ek,q10⟩:=hm
      subst ek
      refine bG (bq fun bG=>?_)
      obtain ⟨z,hd,vs,rel,dd⟩:=zf3 I10.hok e10
      have hz':vs.length≤sizeLine:=by rw [← rel.length];exact z
      have hl:(zdh kvs k v).length≤sizeLine:=by have:=z7b kvs k v;omega
      refine bG (wpAny_dictSet_pairs (hsz:=hz') (zkm r9) dd fun h' dd' hs'=>?_)
      have heo:∃ q,h'.get? D=some q:=let ⟨q,_,_,hq,_⟩:=dd';⟨q,hq⟩
      exact again (zi8 (t':=s10.toks+1) I10 (by rw [e10];exact True.intro) hs' heo (zmd hl hd (rel.put k r10) dd')) q10
theorem zf6 {s2:Shared} {H2:Hp} {it:Addr} {fp:List Addr} {tn:Nat→Heap→Prop} {J:It} {cl:List (Str×Addr)} {Z:Addr→Hp→Prop} {RR:Value→Addr→Result→Shared→Prop} {E:Value→Shared→Prop}
    (hx:∀ e s,X.xe e s→False) (hc:X.calm=true) (S:CompScope X N' own cap scope)
    (hg:∀ cl C s₀ H₀ ex,PG (z0a X N' scope cl C s₀ H₀ ex) tg g) (ht:∀ cl C s₀ H₀ ex,PIf (z0a X N' scope cl C s₀ H₀ ex) ifs tc) (hk0:∀ cl C s₀ H₀ ex,PE (z0a X N' scope cl C s₀ H₀ ex) kx tk) (hv0:∀ cl C s₀ H₀ ex,PE (z0a X N' scope cl C s₀ H₀ ex) vx tv)
    (I2:Inv X pins σ H2 s2) (T:Turn X.prog X.w X.K tg J fp it tn) (st2:tn 0 s2.heap) (f2:∀ b∈fp,z5x X pins H2 b)
    (c1:∀ y c,cl.lookup y=some c→X.env.cells.lookup y=some c) (c2:∀ y,(y,NameKind.free)∈scope.names→∃ c,cl.lookup y=some c)
    (h:∀ D,H2 D=none→z4d J g tc tk tv D (z3c own cap σ) H2 (Z D))
    (hRR:∀ D C s' m' H',Inv X pins σ H' s'→s'.heap.Ns C m'→z5x X pins H' C→Z D H'→RR (.ref D) C (.ok .next) s') :
    wpAny (model X.prog X.w) X.A (newDict) (fun acc s₃=>wpAny (model X.prog X.w) X.A (newFunctionEnv scope X.env.globals cl [] X.env.qual none .none (some X.env)) (fun cenv s₄ =>
      codeAny (model X.prog X.w) X.A (.compStart (.DictComp kx vx [⟨tg,iter,ifs,0⟩] scope pos) 0 (.ref it) acc { cenv with scope:=relabel scope X.env }) (RR acc cenv.locals) s₄) E s₃) E s2:=by
  have hlt:∀ b∈fp,b<s2.heap.objs.size:=fun b hb=>by
    refine bq fun bG=>?_
    obtain ⟨o,e,_⟩:=T.obj _ _ st2 b hb
    exact bG (Heap.lt_size e)
  have hD:H2 s2.heap.objs.size=none:=I2.hok.fresh (Nat.le_refl _)
  have hsys:(s2.heap.objs.size==sysModules)=false:=by
    have:=I2.big
    rw [beq_eq_false_iff_ne]
    exact Nat.ne_of_gt this
  refine wpAny_newObj_type (z3n (fun h₁ hns₁ hk₁ hce₁=>?_))
  dsimp only at hns₁ hk₁ hce₁ ⊢
  have I3:Inv X pins σ (upd H2 s2.heap.objs.size (.dK [])) { s2 with heap:=s2.heap.push { cls:=.type "dict",dict:=none,data:=.dict #[] },toks:=s2.toks } :=
    I2.laid (fun b o e=>Heap.get?_push_of_some _ e) (Nat.le_refl _) ⟨Nat.zero_le _,hsys,[],.nil,Heap.DictOf.new s2.heap⟩
  generalize hs3:({ s2 with heap:=s2.heap.push { cls:=.type "dict",dict:=none,data:=.dict #[] },toks:=s2.toks }:Shared)=s3 at I3
  have e3:s2.heap.push { cls:=.type "dict",dict:=none,data:=.dict #[] }=s3.heap:=by rw [← hs3]
  have hsz:s3.heap.objs.size=s2.heap.objs.size+1:=by rw [← e3,Heap.size_push]
  rw [e3] at hns₁ hk₁ hce₁ ⊢
  have hk:=hk₁
  have hcl:∀ y c,cl.lookup y=some c→¬ s3.heap.objs.size<c:=fun y c e z=>by
    refine bq fun bG=>?_
    obtain ⟨v,o,ho,_⟩:=I3.cell y c (c1 y c e)
    exact bG (Nat.lt_irrefl _ (Nat.lt_trans z (Heap.lt_size ho)))
  have CA:CellsAre X scope s3.heap.objs.size cl (cellsFrom (s3.heap.objs.size+1) scope.names cl):=z7u (h:=s3.heap.push { cls:=.type "dict",data:=.dict #[] }) (by rw [Heap.size_push]) S hcl
  have hcell:∀ y c,(cellsFrom (s3.heap.objs.size+1) scope.names cl).lookup y=some c→s3.heap.objs.size<c→h₁.IsCell c none:=fun y c e z=>by
    rw [z14,z1r] at e
    cases q:(cellsFrom (s3.heap.objs.size+1) scope.names []).lookup y with
    | none=>rw [q] at e;exact absurd z (hcl y c e)
    | some c' =>
      rw [q] at e
      have:c'=c:=Option.some.inj e
      subst this
      exact hce₁ y c' (PySem.mem_of_lookup q)
  generalize hcs:cellsFrom (s3.heap.objs.size+1) scope.names cl=cs at CA hcell ⊢
  have f3:∀ b∈fp,z5x X pins (upd H2 s2.heap.objs.size (.dK [])) b:=fun b hb=>⟨by rw [z0h (Nat.ne_of_lt (hlt b hb))];exact (f2 b hb).1,(f2 b hb).2⟩
  have hlt3:∀ b∈fp,b<s3.heap.objs.size:=fun b hb=>by rw [hsz];exact Nat.lt_succ_of_lt (hlt b hb)
  have st3:tn 0 h₁:=T.keep _ _ _ st2 fun b hb o e=>hk b o (by rw [← e3];exact Heap.get?_push_of_some _ e)
  have J0:Inv (z0a X N' scope cs s3.heap.objs.size s3 (upd H2 s2.heap.objs.size (.dK [])) fp) [] (z3c own cap σ) (upd H2 s2.heap.objs.size (.dK [])) { s3 with heap:=h₁,toks:=s2.toks } :=
    z9x I3 S CA hcell c1 c2 f3 hlt3 hk hns₁
  have stat:∀ {pl:List (Addr×Obj)} {H':Hp},pl=[]→(∀ b∈fp,H' b=none)→∀ b∈fp,z5x (z0a X N' scope cs s3.heap.objs.size s3 (upd H2 s2.heap.objs.size (.dK [])) fp) pl H' b:=fun {pl H'} hp hn b hb=>by
    subst hp
    refine ⟨hn b hb,Nat.ne_of_lt (hlt3 b hb),J0.ok.exfs b hb,.inl hb,fun x c e=>J0.ok.exf b hb |>.2 x c e,fun p hp=>absurd hp (by show p∉([]++[]:List (Addr×Obj));simp)⟩
  have loop:codeAny (model X.prog X.w) X.A (.compLoop (.DictComp kx vx [⟨tg,iter,ifs,0⟩] scope pos) 0 (.ref it) (.ref s2.heap.objs.size) (compEnvC scope cs s3.heap.objs.size X.env)) (RR (.ref s2.heap.objs.size) s3.heap.objs.size)
      { s3 with heap:=h₁,toks:=s2.toks }:=zf5 (Y:=z0a X N' scope cs s3.heap.objs.size s3 (upd H2 s2.heap.objs.size (.dK [])) fp) hx hc (hg _ _ _ _ _) (ht _ _ _ _ _) (hk0 _ _ _ _ _) (hv0 _ _ _ _ _) T J0 st3 (fun b hb=>(f3 b hb).1) (stat rfl) (h _ hD) fun σ4 H4 s5 I5 qz=>by
    have I6:Inv X pins σ H4 s5:=I3.call' (ch:=fp) I5.os I5.base I5.hok I5.bare fun b hb=>⟨(f3 b hb).2.2.2.1,(f3 b hb).2.1,(f3 b hb).2.2.2.2.1,(f3 b hb).2.2.2.2.2⟩
    refine bq fun bG=>?_
    obtain ⟨m',hn',_⟩:=I5.loc
    exact bG (hRR _ _ s5 m' H4 I6 hn' (I3.fpOk (Nat.le_refl _) I5.free) qz)
  have lp:codeAny (model X.prog X.w) X.A (.compStart (.DictComp kx vx [⟨tg,iter,ifs,0⟩] scope pos) 0 (.ref it) (.ref s2.heap.objs.size) (compEnvC scope cs s3.heap.objs.size X.env)) (RR (.ref s2.heap.objs.size) s3.heap.objs.size)
      { s3 with heap:=h₁,toks:=s2.toks }:=codeAny_compStart_dict loop (T.self _ 0 _ _ _ st3 loop)
  subst hs3
  exact lp
theorem zka (S:CompScope X N' own cap scope) (hi:PI X tg iter wi)
    (hg:∀ cl C s₀ H₀ ex,PG (z0a X N' scope cl C s₀ H₀ ex) tg g) (ht:∀ cl C s₀ H₀ ex,PIf (z0a X N' scope cl C s₀ H₀ ex) ifs tc) (hk:∀ cl C s₀ H₀ ex,PE (z0a X N' scope cl C s₀ H₀ ex) kx tk) (hv:∀ cl C s₀ H₀ ex,PE (z0a X N' scope cl C s₀ H₀ ex) vx tv)
    (hx:∀ e s,X.xe e s→False:=by exact fun _ _ z=>z) (hc:X.calm=true:=by rfl) (hs:∀ x,foldedSetIterable iter X.env x=pure x:=by intro _;rfl) :
    PE X (.DictComp kx vx [⟨tg,iter,ifs,0⟩] scope pos) (fun σ H Q=>wi σ H fun J H1=>∀ D,H1 D=none→z4d J g tc tk tv D (z3c own cap σ) H1 (Q (.ref D))):=by
  intro pins s σ H Q I h
  rw [arm_eval_DictComp]
  refine bq fun bG=>?_
  obtain ⟨cl,hcl,c1,c2⟩:=z1s (scope:=scope) (env:=X.env) fun y hy hk=>I.ok.has y.1 (S.free y hy hk)
  refine bG (wpAny_comprehension_free (use:=none) rfl hs hcl S.kind S.names (thn (hi pins s σ H _ I h) fun v s1 h1=>thn h1 fun itv s2 h2=>?_))
  refine bq fun bG=>?_
  obtain ⟨it,fp,tn,J,H2,e,I2,T,st2,f2,q⟩:=h2
  subst e
  refine bG (zf6 (RR:=fun acc C=>compPost (model X.prog X.w) X.A X.xe none (EP X pins σ Q) acc C) (Z:=fun D=>Q (.ref D)) hx hc S hg ht hk hv I2 T st2 f2 c1 c2 q ?_)
  intro D C s' m' H' I' hn' f' z
  exact ⟨m',hn',fun h'' hs''=>⟨.ref D,H',I'.letgo f' hs'',rfl,z⟩⟩
end
noncomputable def viO (v d:Addr):HO:=.ext fun h=>h.IsItemsView v d
def zls:V→List V→Hp→VK→Prop:=fun x vs H Q=>∃ (a:Addr) (kvs:List (Key×V)),x=.ref a∧vs=[]∧H a=some (.dK kvs)∧∀ v,H v=none→Q (.ref v) (upd H v (viO v a))
section
variable {X:Cx} {o:Expr} {to:TE} {pos:Pos}
theorem zki:MtM X "dict.items" zls:=by
  intro pins s σ H x vs v us Q I rx rv h
  obtain ⟨a,kvs,rfl,rfl,e,q⟩:=h
  cases rx
  have:=rv.zero
  subst this
  refine bq fun bG=>?_
  obtain ⟨z,hd,ws,rel,dd⟩:=zf3 I.hok e
  refine bG (call_meetsIn PySem.F.slot_dict_items dd.typeIs PySem.F.entry_dict_items (PySem.F.args_dict_items_1 _) (meets_dict_items (z17 X.prog X.w) a hd) ⟨⟨ws,dd⟩,?_⟩)
  have hv:(s.heap.push { cls:=.type "dict_items",data:=.fields #[.ref a] }).IsItemsView s.heap.objs.size a:=⟨_,Heap.get?_push_size _ rfl,rfl,rfl⟩
  refine ⟨.ref s.heap.objs.size,_,I.laid (t':=s.toks) (o:=viO s.heap.objs.size a) (fun b o q=>Heap.get?_push_of_some _ q) (Nat.le_refl _) ?_,rfl,q _ (I.hok.fresh (Nat.le_refl _))⟩
  exact ⟨hv,⟨_,Heap.get?_push_size _ rfl⟩,fun h1 h2 p k=>let ⟨o,ho,r⟩:=p;⟨o,k o ho,r⟩⟩
theorem zon (K:PySem.W.Frag) {apos:Pos} (ho:PE X o to) (hbase:attributeBase o "items" X.env (eval o X.env)=eval o X.env:=by rfl) (hline:(apos.endLine==pos.line)=true:=by rfl) (hK:X.K=K:=by rfl) :
    PE X (.Call (.Attribute o "items" apos) [] [] pos) (ztj K "dict" zls to):=by
  subst hK
  exact zm1 PySem.F.plainAttrs_dict PySem.F.slot_dict_items PySem.F.type_dict_items zki ho hbase hline
end
noncomputable def Itd (d:Addr) (o:Obj) (kvs:List (Key×V)):It :=
  ⟨fun i H=>H d=some (.frz o (.dK kvs))∧i<kvs.length,fun i H x H'=>∃ p k v,x=.ref p∧H p=none∧H'=upd H p (.tup [kV k,v])∧kvs[i]?=some (k,v),fun i H=>H d=some (.frz o (.dK kvs))∧kvs.length≤i⟩
theorem zrq {k:Key} {u:Value} (h:zcn k u=true):RelV (kV k) u:=by
  rcases z13 h with ⟨i,t,rfl,rfl⟩ | ⟨x,t,rfl,rfl⟩
  · exact ⟨t,rfl⟩
  · exact ⟨t,rfl⟩
theorem KV.get {kvs:List (Key×V)} {ws:List (Key×Value)} (rel:KV kvs ws):∀ {i:Nat} {k:Key} {v:V},kvs[i]?=some (k,v)→∃ u,ws[i]?=some (k,u)∧RelV v u:=by
  induction rel with
  | nil=>intro i k v h;simp at h
  | @cons a b l r hd tl ih =>
    intro i k v h
    cases i with
    | zero =>
      have:a=(k,v):=by simpa using h
      subst this
      obtain ⟨b1,b2⟩:=b
      obtain ⟨h1,h2⟩:=hd
      have:k=b1:=h1
      subst this
      exact ⟨b2,rfl,h2⟩
    | succ i =>
      refine bq fun bG=>?_
      obtain ⟨u,h1,h2⟩:=ih (i:=i) (k:=k) (v:=v) (by simpa using h)
      exact bG (⟨u,by simpa using h1,h2⟩)
theorem zek {P:Program} {w:World} {K:PySem.W.Frag} {elts:List Expr} {k:Nat} {pos:Pos} {h0:Heap} {kvs:List (Key×V)} {ws:List (Key×Value)} {ep:Nat} {o:Obj} (d it:Addr) (rel:KV kvs ws) (ho:h0.get? d=some o) (hat:h0.DictAt (z17 P w) d ws ep) :
    Turn P w K (.Tuple elts k pos) (Itd d o kvs) [it] it (fun i h=>∃ ok ov,IsItemIter h it d i ws.length ep ok ov) where
  mem:=by simp
  obj:=fun i h st b hb=>by
    obtain ⟨ok,ov,he⟩:=st
    rw [List.mem_singleton.mp hb]
    exact ⟨_,he,fun v z=>by cases z⟩
  keep:=fun i h h' st kk=>let ⟨ok,ov,he⟩:=st;⟨ok,ov,kk it (by simp) _ he⟩
  item:=by
    intro X hP hw hK hc i pins s σ H E I hf st hg
    subst hP hw hK
    obtain ⟨hH,hi⟩:=hg
    obtain ⟨hgo,_⟩:s.heap.get? d=some o∧_:=I.hok d _ hH
    have hm:s.heap.DictAt (z17 X.prog X.w) d ws ep:=hat.at' fun o' e=>by rw [ho] at e;cases e;exact hgo
    obtain ⟨kk,v⟩:Key×V:=kvs[i]
    obtain ⟨⟨k1,v1⟩,hx⟩:∃ p,kvs[i]?=some p:=⟨kvs[i],by simp [hi]⟩
    refine bq fun bG=>?_
    obtain ⟨u,hu,ru⟩:=rel.get hx
    obtain ⟨ok,ov,he⟩:=st
    refine bG (wpAny_pyNext_items_item he hm hu fun key h1 hkey hout hT hsz hk=>?_)
    refine ⟨_,rfl,wpAny_letOwnedTupleGo_items hout fun h2 he2 hs2=>?_⟩
    have hlt:it<s.heap.objs.size:=Heap.lt_size he
    replace hs2:Heap.SameBut it h1 h2:=hs2
    have hT2:h2.get? s.heap.objs.size=some { cls:=.type "tuple",data:=.seq #[key,u] }:=(hs2.2 _ (Nat.ne_of_gt hlt)).trans hT
    have hn:H s.heap.objs.size=none:=I.hok.fresh (Nat.le_refl _)
    have I2:Inv X pins σ (upd H s.heap.objs.size (.tup [kV k1,v1])) { s with heap:=h2,toks:=s.toks } :=
      I.turnLay (ch:=[it]) hf (fun b o hb q=>(hs2.2 b (fun z=>hb (by simp [z]))).trans (hk b o (fun z=>hb (by simp [z])) q)) (Nat.le_refl _)
        ⟨zln,[key,u],.cons (zrq hkey) (.cons ru .nil),⟨_,hT2,rfl,_,rfl⟩⟩
    have f1:∀ b∈[it],(upd H s.heap.objs.size (.tup [kV k1,v1])) b=none:=fun b hb=>by
      rw [List.mem_singleton.mp hb,z0h (Nat.ne_of_lt hlt)]
      exact (hf it (by simp)).1
    exact ⟨.ref s.heap.objs.size,_,I2,rfl,⟨_,k1,v1,rfl,hn,rfl,hx⟩,⟨key,u,he2⟩,f1⟩
  done:=by
    intro X hP hw hK hc i pins s σ H E I hf st hg
    subst hP hw hK
    obtain ⟨hH,hi⟩:=hg
    obtain ⟨hgo,_⟩:s.heap.get? d=some o∧_:=I.hok d _ hH
    have hm:s.heap.DictAt (z17 X.prog X.w) d ws ep:=hat.at' fun o' e=>by rw [ho] at e;cases e;exact hgo
    obtain ⟨ok,ov,he⟩:=st
    have hl:kvs.length=ws.length:=rel.length
    refine wpAny_pyNext_items_end (I.ok.hd hc) he hm (by simp;omega) fun h' eb=>⟨rfl,I.turns (t':=s.toks) (ch:=[it]) hf fun b o hb q=>eb b o (fun z=>hb (by simp [z])) q⟩
  self:=fun _ _ _ _ _ st h=>by
    refine bq fun bG=>?_
    obtain ⟨ok,ov,he⟩:=st
    exact bG (PySem.W.kcp_self he h)
def zs0 (te:TE):TI:=fun σ H R=>te σ H fun x H1=>∃ v d kvs,x=.ref v∧H1 v=some (viO v d)∧H1 d=some (.dK kvs)∧∀ o,R (Itd d o kvs) (upd H1 d (.frz o (.dK kvs)))
theorem zk5 {X:Cx} {e:Expr} {te:TE} {elts:List Expr} {k:Nat} {tpos:Pos} (he:PE X e te):PI X (.Tuple elts k tpos) e (zs0 te):=by
  intro pins s σ H R I h
  refine thn (he pins s σ H _ I h) fun u s1 hm=>?_
  obtain ⟨x,H1,I1,r1,v,d,kvs,ex,hv,hd,q⟩:=hm
  subst ex
  cases r1
  obtain ⟨z,hsys,ws,rel,dd⟩:=zf3 I1.hok hd
  obtain ⟨hvv,_,_⟩:s1.heap.IsItemsView v d∧_∧_:=I1.hok v _ hv
  refine bq fun bG=>?_
  obtain ⟨ep,hat⟩:=dd.dictAt
  obtain ⟨o,ho⟩:∃ o,s1.heap.get? d=some o:=let ⟨o,_,_,h,_⟩:=dd;⟨o,h⟩
  refine bG (wpAny_pyIter_items hvv hat ?_)
  have nd:d≠s1.heap.objs.size:=Nat.ne_of_lt (Heap.lt_size ho)
  have I2:Inv X pins σ (upd H1 d (.frz o (.dK kvs))) { s1 with heap:=s1.heap.push { cls:=.type "dict_itemiterator",data:=.fields #[.none,.bool false,.ref d,.int 0 0,.int ws.length 0,.int ep 0,.none,.none] },toks:=s1.toks } :=
    I1.write (x:=d) (e:=d) (by rw [hd];exact True.intro) (.inl rfl) (fun b q _ z=>Heap.get?_push_of_some _ z) ⟨o,Heap.get?_push_of_some _ ho⟩
      ⟨Heap.get?_push_of_some _ ho,z,hsys,ws,rel,dd.at fun o' e=>Heap.get?_push_of_some _ e⟩
  refine ⟨_,[s1.heap.objs.size],_,_,_,rfl,I2,zek d _ rel ho hat,⟨.none,.none,Heap.get?_push_size _ rfl⟩,fun b hb=>?_,q o⟩
  rw [List.mem_singleton.mp hb]
  exact I1.fpOk (Nat.le_refl _) (by rw [z0h (Ne.symm nd)];exact I1.hok.fresh (Nat.le_refl _))
noncomputable abbrev An:=Nat×Nat×Bool
noncomputable def nb (as:List An) (x:Nat):List Nat:=as.flatMap fun a=>if a.2.2=true then (if x=a.1 then [a.2.1] else [])++(if x=a.2.1 then [a.1] else []) else []
theorem mem_nb {as:List An} {x y:Nat}:y∈nb as x↔(x,y,true)∈as∨(y,x,true)∈as:=by
  unfold nb
  rw [List.mem_flatMap]
  constructor
  · rintro ⟨⟨i,j,b⟩,ha,h⟩
    cases b with
    | false=>simp at h
    | true =>
      simp only [if_true,List.mem_append] at h
      rcases h with h | h
      · split at h
        · rename_i e
          have:y=j:=by simpa using h
          subst this e
          exact .inl ha
        · simp at h
      · split at h
        · rename_i e
          have:y=i:=by simpa using h
          subst this e
          exact .inr ha
        · simp at h
  · rintro (h | h)
    · exact ⟨_,h,by simp⟩
    · exact ⟨_,h,by simp⟩
theorem zo3 {as:List An} {x y:Nat} (h:y∈nb as x):x∈nb as y:=mem_nb.mpr (mem_nb.mp h).symm
inductive Conn (as:List An):Nat→Nat→Prop where
  | refl (x:Nat):Conn as x x
  | step {x y z:Nat}:Conn as x y→z∈nb as y→Conn as x z
theorem Conn.trans {as:List An} {x y z:Nat} (h:Conn as x y) (g:Conn as y z):Conn as x z:=by
  induction g with
  | refl=>exact h
  | step _ e ih=>exact .step ih e
theorem Conn.one {as:List An} {x y:Nat} (h:y∈nb as x):Conn as x y:=.step (.refl x) h
theorem Conn.symm {as:List An} {x y:Nat} (h:Conn as x y):Conn as y x:=by
  induction h with
  | refl=>exact .refl _
  | step _ e ih=>exact (Conn.one (zo3 e)).trans ih
theorem Conn.mono {as bs:List An} {x y:Nat} (h:Conn as x y) (hm:∀ a∈as,a∈bs):Conn bs x y:=by
  induction h with
  | refl=>exact .refl _
  | step _ e ih=>exact .step ih (mem_nb.mpr ((mem_nb.mp e).imp (hm _) (hm _)))
noncomputable def z2c (hs:List (Nat×Nat)) (x:Nat):Option Nat:=(hs.find? fun p=>decide (p.1=x)).map (·.2)
noncomputable def z2o (hs:List (Nat×Nat)) (x:Nat):List (Nat×Nat):=if (z2c hs x).isSome=true then hs else hs++[(x,x)]
noncomputable def z7f (hs:List (Nat×Nat)) (o n:Nat):List (Nat×Nat):=hs.map fun p=>(p.1,if p.2=o then n else p.2)
noncomputable def z5s (hs:List (Nat×Nat)) (a:An):List (Nat×Nat) :=
  let h2:=z2o (z2o hs a.1) a.2.1
  if a.2.2=true then z7f h2 ((z2c h2 a.2.1).getD 0) ((z2c h2 a.1).getD 0) else h2
noncomputable def z2n (as:List An):List (Nat×Nat):=as.foldl z5s []
theorem z3q (hs:List (Nat×Nat)) (x y:Nat):z2c (z2o hs x) y=if y=x then some ((z2c hs x).getD x) else z2c hs y:=by
  unfold z2o
  by_cases h:(z2c hs x).isSome=true
  · rw [if_pos h]
    obtain ⟨v,e⟩:=Option.isSome_iff_exists.mp h
    by_cases z:y=x
    · subst z;rw [if_pos rfl,e];rfl
    · rw [if_neg z]
  · rw [if_neg h]
    have e:z2c hs x=none:=by simpa using h
    unfold z2c at e ⊢
    rw [List.find?_append]
    by_cases z:y=x
    · subst z
      rw [if_pos rfl]
      have e':hs.find? (fun p=>decide (p.1=y))=none:=by simpa using e
      rw [e']
      simp
    · rw [if_neg z]
      have:List.find? (fun p:Nat×Nat=>decide (p.1=y)) [(x,x)]=none:=by simp [Ne.symm z]
      rw [this]
      simp
theorem z5g (hs:List (Nat×Nat)) (o n x:Nat):z2c (z7f hs o n) x=(z2c hs x).map fun r=>if r=o then n else r:=by
  unfold z2c z7f
  induction hs with
  | nil=>rfl
  | cons p r ih =>
    rw [List.map_cons,List.find?_cons,List.find?_cons]
    by_cases z:p.1=x
    · simp [z]
    · simp only [z,decide_false]
      exact ih
structure HOkN (as:List An) (V:Nat→Option Nat):Prop where
  named:∀ a∈as,(V a.1).isSome=true∧(V a.2.1).isSome=true
  con:∀ x r,V x=some r→Conn as x r
  eq:∀ x y,(x,y,true)∈as→V x=V y
theorem z8q (as:List An) (a:An):z2n (as++[a])=z5s (z2n as) a:=by unfold z2n;rw [List.foldl_append];rfl
theorem z9i (as:List An):HOkN as (z2c (z2n as)):=by
  have key:∀ (n:Nat) (as:List An),as.length=n→HOkN as (z2c (z2n as)):=by
    intro n
    induction n with
    | zero =>
      intro as e
      have:as=[]:=List.length_eq_zero_iff.mp e
      subst this
      exact ⟨fun _ h=>by simp at h,fun x r h=>by simp [z2n,z2c] at h,fun _ _ h=>by simp at h⟩
    | succ n ih =>
      intro as e
      have hne:as≠[]:=by intro z;subst z;simp at e
      obtain ⟨bs,a,rfl⟩:∃ bs a,as=bs++[a]:=⟨as.dropLast,as.getLast hne,(List.dropLast_concat_getLast hne).symm⟩
      have ih:=ih bs (by simpa using e)
      obtain ⟨i,j,b⟩:=a
      rw [z8q]
      generalize z2n bs=hs at ih
      have v2:∀ y,z2c (z2o (z2o hs i) j) y=if y=j then some ((z2c (z2o hs i) j).getD j) else if y=i then some ((z2c hs i).getD i) else z2c hs y:=fun y=>by rw [z3q (z2o hs i) j y,z3q hs i y]
      have old:∀ y,(z2c hs y).isSome=true→z2c (z2o (z2o hs i) j) y=z2c hs y:=fun y hy=>by
        obtain ⟨r,er⟩:=Option.isSome_iff_exists.mp hy
        rw [v2 y]
        split
        · rename_i z;subst z
          rw [z3q]
          split
          · rename_i z;subst z;rw [er];rfl
          · rw [er];rfl
        · split
          · rename_i z;subst z;rw [er];rfl
          · rfl
      have mono:∀ x y,Conn bs x y→Conn (bs++[(i,j,b)]) x y:=fun x y h=>h.mono fun a ha=>List.mem_append_left _ ha
      have con2:∀ x r,z2c (z2o (z2o hs i) j) x=some r→Conn (bs++[(i,j,b)]) x r:=fun x r h=>by
        rw [v2 x] at h
        split at h
        · rename_i z;subst z
          have h:=Option.some.inj h
          rw [z3q] at h
          split at h
          · rename_i z;subst z
            cases e:z2c hs x with
            | none=>rw [e] at h;rw [← h];exact .refl _
            | some r'=>rw [e] at h;have:r'=r:=h;subst this;exact mono _ _ (ih.con _ _ e)
          · cases e:z2c hs x with
            | none=>rw [e] at h;have:x=r:=h;subst this;exact .refl _
            | some r'=>rw [e] at h;have:r'=r:=h;subst this;exact mono _ _ (ih.con _ _ e)
        · split at h
          · rename_i z;subst z
            have h:=Option.some.inj h
            cases e:z2c hs x with
            | none=>rw [e] at h;have:x=r:=h;subst this;exact .refl _
            | some r'=>rw [e] at h;have:r'=r:=h;subst this;exact mono _ _ (ih.con _ _ e)
          · exact mono _ _ (ih.con _ _ h)
      have n1:∃ r,z2c (z2o (z2o hs i) j) i=some r:=by
        rw [v2 i]
        split
        · exact ⟨_,rfl⟩
        · exact ⟨_,if_pos rfl⟩
      have n2:∃ r,z2c (z2o (z2o hs i) j) j=some r:=⟨_,by rw [v2 j,if_pos rfl]⟩
      have named2:∀ a∈bs++[(i,j,b)],(z2c (z2o (z2o hs i) j) a.1).isSome=true∧(z2c (z2o (z2o hs i) j) a.2.1).isSome=true:=fun a ha=>by
        rcases List.mem_append.mp ha with z | z
        · obtain ⟨h1,h2⟩:=ih.named a z
          rw [old _ h1,old _ h2]
          exact ⟨h1,h2⟩
        · have:a=(i,j,b):=by simpa using z
          subst this
          obtain ⟨r1,e1⟩:=n1
          obtain ⟨r2,e2⟩:=n2
          exact ⟨by rw [e1];rfl,by rw [e2];rfl⟩
      have eq2:∀ x y,(x,y,true)∈bs→z2c (z2o (z2o hs i) j) x=z2c (z2o (z2o hs i) j) y:=fun x y h=>by
        obtain ⟨h1,h2⟩:=ih.named _ h
        rw [old x h1,old y h2]
        exact ih.eq x y h
      show HOkN _ (z2c (if b=true then z7f (z2o (z2o hs i) j) ((z2c (z2o (z2o hs i) j) j).getD 0) ((z2c (z2o (z2o hs i) j) i).getD 0) else z2o (z2o hs i) j))
      clear v2 old
      generalize z2o (z2o hs i) j=h2 at *
      cases b with
      | false =>
        refine ⟨named2,con2,fun x y h=>?_⟩
        rcases List.mem_append.mp h with z | z
        · exact eq2 x y z
        · simp at z
      | true =>
        obtain ⟨r1,e1⟩:=n1
        obtain ⟨r2,e2⟩:=n2
        simp only [if_true,e1,e2,Option.getD_some]
        have cij:Conn (bs++[(i,j,true)]) i j:=Conn.one (mem_nb.mpr (.inl (by simp)))
        refine ⟨fun a ha=>?_,fun x r h=>?_,fun x y h=>?_⟩
        · rw [z5g,z5g,Option.isSome_map,Option.isSome_map]
          exact named2 a ha
        · rw [z5g] at h
          obtain ⟨r0,e0,er⟩:=Option.map_eq_some_iff.mp h
          have c0:=con2 x r0 e0
          split at er
          · rename_i z;subst z er
            exact c0.trans ((con2 j _ e2).symm.trans (cij.symm.trans (con2 i _ e1)))
          · subst er;exact c0
        · rw [z5g,z5g]
          rcases List.mem_append.mp h with z | z
          · rw [eq2 x y z]
          · have:x=i∧y=j:=by simpa using z
            obtain ⟨rfl,rfl⟩:=this
            rw [e1,e2]
            simp only [Option.map_some,if_true]
            split
            · rfl
            · rfl
  exact key _ as rfl
theorem HOkN.conn {as:List An} {V:Nat→Option Nat} (h:HOkN as V) {x y:Nat} (c:Conn as x y):V x=V y:=by
  induction c with
  | refl=>rfl
  | step _ e ih =>
    rw [ih]
    rcases mem_nb.mp e with z | z
    · exact h.eq _ _ z
    · exact (h.eq _ _ z).symm
theorem HOkN.iff {as:List An} {V:Nat→Option Nat} (h:HOkN as V) {x y:Nat} (hx:(V x).isSome=true):V x=V y↔Conn as x y:=by
  refine ⟨fun e=>?_,h.conn⟩
  obtain ⟨r,er⟩:=Option.isSome_iff_exists.mp hx
  exact (h.con x r er).trans (h.con y r (by rw [← e];exact er)).symm
noncomputable def zf8 (as:List An):Bool:=as.all fun a=>a.2.2||!decide (z2c (z2n as) a.1=z2c (z2n as) a.2.1)
structure Out (as:List An) (n t:Nat) (F:Nat→Option Nat):Prop where
  con:∀ x r,F x=some r→Conn as x r∧r<t
  fin:∀ x r y,F x=some r→y∈nb as x→F y=some r
  all:∀ x,x<t→(F x).isSome=true
noncomputable def zix (as:List An) (F:Nat→Option Nat):Nat→Nat
  | 0=>0
  | n+1=>zix as F n+(if (F n).isSome=true then 0 else (nb as n).length)
section
variable {X:Cx} {a b o:Expr} {ta tb to:TE} {p pos:Pos}
theorem zsa (mr:X.mg "range" = none) (ha:PE X a ta) (hg:Gl X "range" := by rfl) (hs:starEach [a] X.env=[(false,eval a X.env)]:=by rfl) :
    PE X (.Call (.Name "range" p) [a] [] pos) (fun σ H Q=>ta σ H fun x H1=>∃ j:Int,x=.int j∧∀ r,H1 r=none→Q (.ref r) (upd H1 r (.rng 0 j))):=by
  intro pins s σ H Q I h
  refine Call_ (z62 I hg mr boot_range (PyProof.Rows.callWith_type1 (thn (z0n ha z16 hs pos pins s σ H (fun vs H1=>∃ x,vs=[x]∧∃ j:Int,x=.int j∧∀ r,H1 r=none→Q (.ref r) (upd H1 r (.rng 0 j))) I ?_) fun us s1 ⟨vs,H1,I1,r1,q1⟩=>?_) hs rfl))
  · have:∀ x H1,(∃ j:Int,x=V.int j∧∀ r,H1 r=none→Q (.ref r) (upd H1 r (.rng 0 j)))=(∃ x',[x]=[x']∧∃ j:Int,x'=V.int j∧∀ r,H1 r=none→Q (.ref r) (upd H1 r (.rng 0 j))):=by
      intro x H1;exact propext ⟨fun q=>⟨x,rfl,q⟩,fun ⟨x',e,q⟩=>by cases e;exact q⟩
    unfold z5m zfw
    simp only [← this]
    exact h
  obtain ⟨x,e,j,ex,q⟩:=q1
  subst e ex
  cases r1 with
  | cons r rr =>
    cases rr
    refine bq fun bG=>?_
    obtain ⟨t,rfl⟩:=r
    refine bG (call_range_1 ?_)
    refine ⟨.ref s1.heap.objs.size,_,I1.laid (o:=.rng 0 j) (fun b o e=>Heap.get?_push_of_some _ e) (Nat.le_refl _) ?_,rfl,q _ (I1.hok.fresh (Nat.le_refl _))⟩
    exact ⟨_,_,_,Heap.get?_push_size _ rfl⟩
theorem za1 (hc:X.calm=true):z3u X (.type "list") (fun xs H Q=>∃ (r:Addr) (n:Nat),xs=[.ref r]∧H r=some (.rng 0 (n:Int))∧n≤1000000∧∀ l,H l=none→Q (.ref l) (upd H l (.lst ((List.range n).map fun k:Nat=>V.int (k:Int))))):=by
  intro pins s σ H xs us Q I r h
  obtain ⟨r',n,rfl,e,hn,q⟩:=h
  obtain ⟨u,rfl,ru⟩:=z67 r
  cases ru
  obtain ⟨t,u,v,ho⟩:=(show ∃ t u v,s.heap.get? r'=some { cls:=.type "range",data:=.fields #[.int 0 t,.int (n:Int) u,.int 1 v] } from I.hok r' _ e)
  refine call_list_range (a:=0) (b:=n) (c:=1) (n:=n) (I.ok.hd hc) ho (small_one (by omega) (by omega) (by omega) (by omega)) (by rw [rangeSize_one];split <;> omega) (by omega) fun h' tk acc' c' hk hS' hacc=>?_
  refine ⟨.ref s.heap.objs.size,_,I.laid (t':=tk) (o:=.lst ((List.range n).map fun k:Nat=>V.int (k:Int))) hk (Nat.le_refl _) ?_,rfl,q _ (I.hok.fresh (Nat.le_refl _))⟩
  refine ⟨by rw [List.length_map,List.length_range];exact z39 hn,acc'.toList,c',?_,by simpa using hS'⟩
  have hl:acc'.toList.length=n:=by rw [Array.length_toList];exact hacc.1
  have key:∀ (m:Nat) (l:List Value) (k0:Nat),l.length=m→(∀ j v,l[j]?=some v→∃ t,v=Value.int ((k0+j:Nat):Int) t)→Vals ((List.range' k0 m).map fun k:Nat=>V.int (k:Int)) l:=by
    intro m
    induction m with
    | zero=>intro l k0 e _;have:=List.length_eq_zero_iff.mp e;subst this;exact .nil
    | succ m ih =>
      intro l k0 e hj
      cases l with
      | nil=>simp at e
      | cons x l =>
        rw [List.range'_succ,List.map_cons]
        refine bq fun bG=>?_
        obtain ⟨t,ex⟩:=hj 0 x rfl
        refine bG (.cons ⟨t,?_⟩ (ih l (k0+1) (by simpa using e) fun j v ev=>?_))
        · rw [ex];simp
        · obtain ⟨t',e'⟩:=hj (j+1) v (by simpa using ev)
          exact ⟨t',by rw [e'];congr 2;omega⟩
  rw [List.range_eq_range']
  refine key n acc'.toList 0 hl fun j v ev=>?_
  obtain ⟨t',e'⟩:=hacc.2 j v (by simpa using ev)
  exact ⟨t',by rw [e'];simp⟩
theorem zsb (ml:X.mg "list" = none) (ha:PE X a ta) (hg:Gl X "list" := by rfl) (hs:starEach [a] X.env=[(false,eval a X.env)]:=by rfl) (hc:X.calm=true:=by rfl) :
    PE X (.Call (.Name "list" p) [a] [] pos) (fun σ H Q=>ta σ H fun x H1=>∃ (r:Addr) (n:Nat),[x]=[.ref r]∧H1 r=some (.rng 0 (n:Int))∧n≤1000000∧∀ l,H1 l=none→Q (.ref l) (upd H1 l (.lst ((List.range n).map fun k:Nat=>V.int (k:Int))))) :=
  z44 (p:=p) (pos:=pos) (za1 hc) hg ml rfl (z0n ha z16 hs) (he:=hs)
end
def hNd (hs:List (Nat×Nat)):Prop:=(hs.map (·.1)).Nodup
theorem hVal_none {hs:List (Nat×Nat)} {x:Nat}:z2c hs x=none↔x∉hs.map (·.1):=by
  unfold z2c
  rw [Option.map_eq_none_iff,List.find?_eq_none]
  simp only [decide_eq_true_eq,List.mem_map,not_exists,not_and]
theorem z9j {hs:List (Nat×Nat)} (h:hNd hs) (x:Nat):hNd (z2o hs x):=by
  unfold z2o
  split
  · exact h
  · rename_i e
    have e:z2c hs x=none:=by simpa using e
    unfold hNd
    rw [List.map_append,List.nodup_append]
    refine ⟨h,by simp,fun y hy z hz=>?_⟩
    have:z=x:=by simpa using hz
    subst this
    exact fun q=>hVal_none.mp e (q ▸ hy)
theorem zav (hs:List (Nat×Nat)) (o n:Nat):(z7f hs o n).map (·.1)=hs.map (·.1):=by simp [z7f]
theorem zkr {hs:List (Nat×Nat)} (h:hNd hs) (a:An):hNd (z5s hs a):=by
  have h2:=z9j (z9j h a.1) a.2.1
  unfold z5s
  dsimp only
  split
  · unfold hNd;rw [zav];exact h2
  · exact h2
theorem z6m (hs:List (Nat×Nat)) (x:Nat):(z2o hs x).length≤hs.length+1:=by
  unfold z2o
  split <;> simp
theorem zhu (hs:List (Nat×Nat)) (a:An):(z5s hs a).length≤hs.length+2:=by
  have h1:=z6m hs a.1
  have h2:=z6m (z2o hs a.1) a.2.1
  unfold z5s
  dsimp only
  split
  · unfold z7f;rw [List.length_map];omega
  · omega
theorem zf0 (as:List An) (n:Nat) (a:An) (h:as[n]?=some a):z2n (as.take (n+1))=z5s (z2n (as.take n)) a:=by
  rw [List.take_succ,h]
  exact z8q _ _
theorem zko (as:List An):hNd (z2n as):=by
  have:∀ (as:List An) (hs:List (Nat×Nat)),hNd hs→hNd (as.foldl z5s hs):=by
    intro as
    induction as with
    | nil=>exact fun _ h=>h
    | cons a r ih=>exact fun hs h=>ih _ (zkr h a)
  exact this as [] (by simp [hNd])
theorem zhs (as:List An):(z2n as).length≤2*as.length:=by
  have:∀ (as:List An) (hs:List (Nat×Nat)),(as.foldl z5s hs).length≤hs.length+2*as.length:=by
    intro as
    induction as with
    | nil=>exact fun _=>by simp
    | cons a r ih =>
      intro hs
      have h1:=ih (z5s hs a)
      have h2:=zhu hs a
      simp only [List.foldl_cons,List.length_cons]
      omega
  have:=this as []
  simpa [z2n] using this
theorem zkh {ps:List Addr} (h:ps.Nodup) {i j:Nat} {p:Addr} (a:ps[i]?=some p) (b:ps[j]?=some p):i=j:=by
  obtain ⟨l1,g1⟩:=List.getElem?_eq_some_iff.mp a
  obtain ⟨l2,g2⟩:=List.getElem?_eq_some_iff.mp b
  rcases Nat.lt_trichotomy i j with z | z | z
  · exact absurd (g1.trans g2.symm) ((List.pairwise_iff_getElem.mp h) i j l1 l2 z)
  · exact z
  · exact absurd (g2.trans g1.symm) ((List.pairwise_iff_getElem.mp h) j i l2 l1 z)
theorem zd2 (elt tg iter tg2 iter2:Expr) (ifs ifs2:List Expr) (scope:Scope) (pos:Pos) (it acc:Value) (env:Env) :
    compTurn (.ListComp elt [⟨tg,iter,ifs,0⟩,⟨tg2,iter2,ifs2,0⟩] scope pos) 0 it acc env=(do
      standAt iter.pos
      match ← pyNext it with
      | none=>pure (.done .next)
      | some v =>
        letOwnedTupleGo tg it v
        assign tg env v
        let mut ok:=true
        for c in ifs do
          if ok then ok ← isTrue c env (eval c env)
        if ok then
          let x ← eval iter2 env
          standAt iter2.pos
          let x ← foldedSetIterable iter2 env x
          let _ ← runOwn (.compStart (.ListComp elt [⟨tg,iter,ifs,0⟩,⟨tg2,iter2,ifs2,0⟩] scope pos) 1 (← holding [x] (pyIter x)) acc env) env
        again (.compLoop (.ListComp elt [⟨tg,iter,ifs,0⟩,⟨tg2,iter2,ifs2,0⟩] scope pos) 0 it acc env)):=by rfl
theorem zd1 (elt tg iter tg2 iter2:Expr) (ifs ifs2:List Expr) (scope:Scope) (pos:Pos) (it acc:Value) (env:Env) :
    compTurn (.ListComp elt [⟨tg,iter,ifs,0⟩,⟨tg2,iter2,ifs2,0⟩] scope pos) 1 it acc env=(do
      standAt iter2.pos
      match ← pyNext it with
      | none=>pure (.done .next)
      | some v =>
        letOwnedTupleGo tg2 it v
        assign tg2 env v
        let mut ok:=true
        for c in ifs2 do
          if ok then ok ← isTrue c env (eval c env)
        if ok then
          (do let _ ← call (.builtin "list.append") [acc,← eval elt env])
        again (.compLoop (.ListComp elt [⟨tg,iter,ifs,0⟩,⟨tg2,iter2,ifs2,0⟩] scope pos) 1 it acc env)):=by rfl
section
variable {prog:Program} {w:World} {A:Around} {R:Result→Shared→Prop} {s:Shared} {elt tg iter tg2 iter2:Expr} {ifs ifs2:List Expr} {scope:Scope} {pos:Pos} {it acc:Value} {env:Env}
theorem z9z (hs2:∀ x,foldedSetIterable iter2 env x=pure x) (I:Nat→Shared→Prop)
    (turn:∀ n s,I n s→wpAny (model prog w) A (pyNext it) (fun r s₁=>match r with
      | none=>R (.ok .next) s₁
      | some v=>wpAny (model prog w) A (letOwnedTupleGo tg it v) (fun _ s₁'=>wpAny (model prog w) A (assign tg env v) (fun _ s₂ =>
          wpAny (model prog w) A (forIn ifs true fun c r=>if r=true then do let ok ← isTrue c env (eval c env);pure (ForInStep.yield ok) else pure (ForInStep.yield r)) (fun ok s₃ =>
            if ok=true then wpAny (model prog w) A (eval iter2 env) (fun x s₄=>wpAny (model prog w) A (pyIter x) (fun it2 s₅ =>
              wpAny (model prog w) A (runOwn (.compStart (.ListComp elt [⟨tg,iter,ifs,0⟩,⟨tg2,iter2,ifs2,0⟩] scope pos) 1 it2 acc env) env) (fun _ s₆=>∃ m,m<n∧I m s₆) (fun _ _=>False) s₅) (fun _ _=>False) s₄) (fun _ _=>False) s₃
            else ∃ m,m<n∧I m s₃) (fun _ _=>False) s₂) (fun _ _=>False) s₁') (fun _ _=>False) s₁) (fun _ _=>False) s)
    (n:Nat) (h:I n s):codeAny (model prog w) A (.compLoop (.ListComp elt [⟨tg,iter,ifs,0⟩,⟨tg2,iter2,ifs2,0⟩] scope pos) 0 it acc env) R s:=by
  refine codeAny_loop rfl I (fun n s hI=>?_) n h
  show wpAny _ A ((compTurn (.ListComp elt [⟨tg,iter,ifs,0⟩,⟨tg2,iter2,ifs2,0⟩] scope pos) 0 it acc env).onRaise (fun x=>do noteFrame x env;theTreesLotGoes x)) _ _ s
  refine wpAny_noted ?_
  rw [zd2]
  refine wpAny_mono (E:=fun _ _=>False) ?_ (fun _ _ x=>x) fun _ _ x=>x.elim
  refine wpAny_bind (wpAny_standAt (wpAny_bind (wpAny_mono (turn n s hI) (fun r s₁ h₁=>?_) fun _ _ h'=>h')))
  cases r with
  | none=>exact wpAny_pure h₁
  | some v =>
    refine wpAny_bind (wpAny_mono h₁ (fun _ s₁' h₁'=>?_) fun _ _ h'=>h')
    refine wpAny_bind (wpAny_mono h₁' (fun _ s₂ h₂=>wpAny_bind (wpAny_mono h₂ (fun ok s₃ h₃=>?_) fun _ _ h'=>h')) fun _ _ h'=>h')
    cases ok with
    | false=>exact wpAny_pure ⟨rfl,h₃⟩
    | true=>exact wpAny_bind (wpAny_mono h₃ (fun x s₄ h₄=>wpAny_bind (wpAny_standAt (wpAny_bind (wpAny_of_eq (hs2 x) (wpAny_bind (wpAny_holding (wpAny_mono h₄ (fun it2 s₅ h₅=>wpAny_bind (wpAny_mono h₅ (fun _ s₆ h₆=>wpAny_pure ⟨rfl,h₆⟩) fun _ _ h'=>h')) fun _ _ h'=>h'))))))) fun _ _ h'=>h')
theorem zbc (I:Nat→Shared→Prop)
    (turn:∀ n s,I n s→wpAny (model prog w) A (pyNext it) (fun r s₁=>match r with
      | none=>R (.ok .next) s₁
      | some v=>wpAny (model prog w) A (letOwnedTupleGo tg2 it v) (fun _ s₁'=>wpAny (model prog w) A (assign tg2 env v) (fun _ s₂ =>
          wpAny (model prog w) A (forIn ifs2 true fun c r=>if r=true then do let ok ← isTrue c env (eval c env);pure (ForInStep.yield ok) else pure (ForInStep.yield r)) (fun ok s₃ =>
            if ok=true then wpAny (model prog w) A (eval elt env) (fun x s₄ =>
              wpAny (model prog w) A (call (.builtin "list.append") [acc,x]) (fun _ s₅=>∃ m,m<n∧I m s₅) (fun _ _=>False) s₄) (fun _ _=>False) s₃
            else ∃ m,m<n∧I m s₃) (fun _ _=>False) s₂) (fun _ _=>False) s₁') (fun _ _=>False) s₁) (fun _ _=>False) s)
    (n:Nat) (h:I n s):codeAny (model prog w) A (.compLoop (.ListComp elt [⟨tg,iter,ifs,0⟩,⟨tg2,iter2,ifs2,0⟩] scope pos) 1 it acc env) R s:=by
  refine codeAny_loop rfl I (fun n s hI=>?_) n h
  show wpAny _ A ((compTurn (.ListComp elt [⟨tg,iter,ifs,0⟩,⟨tg2,iter2,ifs2,0⟩] scope pos) 1 it acc env).onRaise (fun x=>do noteFrame x env;theTreesLotGoes x)) _ _ s
  refine wpAny_noted ?_
  rw [zd1]
  refine wpAny_mono (E:=fun _ _=>False) ?_ (fun _ _ x=>x) fun _ _ x=>x.elim
  refine wpAny_bind (wpAny_standAt (wpAny_bind (wpAny_mono (turn n s hI) (fun r s₁ h₁=>?_) fun _ _ h'=>h')))
  cases r with
  | none=>exact wpAny_pure h₁
  | some v =>
    refine wpAny_bind (wpAny_mono h₁ (fun _ s₁' h₁'=>?_) fun _ _ h'=>h')
    refine wpAny_bind (wpAny_mono h₁' (fun _ s₂ h₂=>wpAny_bind (wpAny_mono h₂ (fun ok s₃ h₃=>?_) fun _ _ h'=>h')) fun _ _ h'=>h')
    cases ok with
    | false=>exact wpAny_pure ⟨rfl,h₃⟩
    | true =>
      exact wpAny_bind (wpAny_bind (wpAny_mono h₃ (fun x s₄ h₄=>wpAny_bind (wpAny_mono h₄ (fun _ s₅ h₅=>wpAny_pure (wpAny_pure ⟨rfl,h₅⟩)) fun _ _ h'=>h')) fun _ _ h'=>h'))
theorem z9y (h0:codeAny (model prog w) A (.compLoop (.ListComp elt [⟨tg,iter,ifs,0⟩,⟨tg2,iter2,ifs2,0⟩] scope pos) 1 it acc env) R s)
    (h:wpAny (model prog w) A (pyIter it) (fun it' s'=>codeAny (model prog w) A (.compLoop (.ListComp elt [⟨tg,iter,ifs,0⟩,⟨tg2,iter2,ifs2,0⟩] scope pos) 1 it' acc env) R s')
      (notedBy (model prog w) A env fun x s'=>R (.error x) s') s) :
    codeAny (model prog w) A (.compStart (.ListComp elt [⟨tg,iter,ifs,0⟩,⟨tg2,iter2,ifs2,0⟩] scope pos) 1 it acc env) R s:=by
  refine codeAny_of_tree ?_
  show wpAny _ _ ((compStart (.ListComp elt [⟨tg,iter,ifs,0⟩,⟨tg2,iter2,ifs2,0⟩] scope pos) 1 it acc env).onRaise (fun x=>do noteFrame x env;standAt theWindowsPlace)) _ _ s
  refine wpAny_notedAt ?_
  unfold compStart
  show wpAny _ _ (ask >>= _) _ _ s
  refine wpAny_bind (wpAny_askSetting (wpAny_ite ?_))
  split
  · first
      | exact wpAny_bind (wpAny_pure (wpAny_pure (And.intro rfl h0)))
      | exact wpAny_pure (And.intro rfl h0)
  · first
      | exact wpAny_bind (wpAny_rule (wpAny_bind (wpAny_standAt (wpAny_bind (wpAny_mono h (fun it' s' h'=>wpAny_pure (And.intro rfl h')) fun _ _ x=>x)))))
      | (refine wpAny_bind (wpAny_rule ?_);show wpAny _ _ (standAt iter2.pos >>= _) _ _ s;exact wpAny_bind (wpAny_standAt (wpAny_bind (wpAny_mono h (fun it' s' h'=>wpAny_pure (And.intro rfl h')) fun _ _ x=>x))))
end
noncomputable def zd4 (J:It) (g:TG) (tc:TT) (te:TE) (D:Addr) (σ0:St) (H0:Hp) (Z:St→Hp→Prop):Prop :=
  ∃ W:Nat→Nat→St→Hp→Prop,(∃ m,W 0 m σ0 H0)∧∀ i m σ H,W i m σ H →
    (J.stop i H∧Z σ H)∨(J.go i H∧∃ N:St→Hp→Prop,(∀ σ' H',N σ' H'→∃ m',m'<m∧W (i+1) m' σ' H')∧∀ x H',J.yld i H x H'→g x σ H' fun σ2 H2=>tc σ2 H2 fun b H3 =>
      if b=true then te σ2 H3 fun v H4=>∃ ys,H4 D=some (.lst ys)∧ys.length<sizeLine∧N σ2 (upd H4 D (.lst (ys++[v]))) else N σ2 H3)
noncomputable def z2u (J:It) (g:TG) (tc:TT) (wi2:TI) (g2:TG) (tc2:TT) (te:TE) (D:Addr) (σ0:St) (H0:Hp) (Z:Hp→Prop):Prop :=
  ∃ W:Nat→Nat→St→Hp→Prop,(∃ m,W 0 m σ0 (upd H0 D (.lst [])))∧∀ i m σ H,W i m σ H →
    (J.stop i H∧Z H)∨(J.go i H∧∃ N:St→Hp→Prop,(∀ σ' H',N σ' H'→∃ m',m'<m∧W (i+1) m' σ' H')∧∀ x H',J.yld i H x H'→g x σ H' fun σ2 H2=>tc σ2 H2 fun b H3 =>
      if b=true then wi2 σ2 H3 fun J2 H4=>zd4 J2 g2 tc2 te D σ2 H4 N else N σ2 H3)
section
variable {X:Cx} {pins:List (Addr×Obj)} {σ:St} {N' own:List Str} {cap:List (Str×Nat)} {scope:Scope} {tg iter elt tg2 iter2:Expr} {ifs ifs2:List Expr} {pos:Pos} {g g2:TG} {tc tc2:TT} {te:TE} {wi wi2:TI}
theorem zrx {s:Shared} {H:Hp} {D:Addr} {Z:St→Hp→Prop} (hx:∀ e s,X.xe e s→False) (hc:X.calm=true) (hi:PI X tg2 iter2 wi2) (hg:PG X tg2 g2) (ht:PIf X ifs2 tc2) (he:PE X elt te)
    (I:Inv X pins σ H s) (h:wi2 σ H fun J H1=>zd4 J g2 tc2 te D σ H1 Z) :
    wpAny (model X.prog X.w) X.A (eval iter2 X.env) (fun x s₄=>wpAny (model X.prog X.w) X.A (pyIter x) (fun it2 s₅ =>
      wpAny (model X.prog X.w) X.A (runOwn (.compStart (.ListComp elt [⟨tg,iter,ifs,0⟩,⟨tg2,iter2,ifs2,0⟩] scope pos) 1 it2 (.ref D) X.env) X.env) (fun _ s'=>∃ σ' H',Inv X pins σ' H' s'∧Z σ' H') (fun _ _=>False) s₅) (fun _ _=>False) s₄) (fun _ _=>False) s:=by
  have noX:∀ {α:Type} {t:Sem α} {Q:α→Shared→Prop} {s:Shared},wpAny (model X.prog X.w) X.A t Q X.xe s→wpAny (model X.prog X.w) X.A t Q (fun _ _=>False) s:=fun q=>wpAny_mono q (fun _ _ z=>z) fun e s z=>hx e s z
  refine noX (thn (hi pins s σ H _ I h) fun v s1 h1=>?_)
  refine noX (thn h1 fun itv s2 h2=>?_)
  refine bq fun bG=>?_
  obtain ⟨it,fp,tn,J,H2,e,I2,T,st2,f2,W,⟨m0,w0⟩,turn⟩:=h2
  subst e
  have stat:∀ {H':Hp},(∀ b∈fp,H' b=none)→∀ b∈fp,z5x X pins H' b:=fun hn b hb=>⟨hn b hb,(f2 b hb).2⟩
  refine bG (wpAny_runOwn ?_)
  have loop:codeAny (model X.prog X.w) X.A (.compLoop (.ListComp elt [⟨tg,iter,ifs,0⟩,⟨tg2,iter2,ifs2,0⟩] scope pos) 1 (.ref it) (.ref D) X.env)
      (fun r s'=>match r with | .ok f=>∃ σ' H',Inv X pins σ' H' s'∧Z σ' H' | .error e=>cameBackBy (model X.prog X.w) X.A X.env (fun _ _=>False) e s') s2:=by
    obtain ⟨P,hP⟩:∃ P:Nat→Shared→Prop,∀ n s',P n s'↔∃ i σ' H',Inv X pins σ' H' s'∧tn i s'.heap∧(∀ b∈fp,H' b=none)∧W i n σ' H':=⟨_,fun _ _=>Iff.rfl⟩
    refine zbc P ?_ m0 ((hP _ _).2 ⟨0,σ,H2,I2,st2,fun b hb=>(f2 b hb).1,w0⟩)
    rintro n s3 h3
    obtain ⟨i,σ3,H3,I3,st3,fr3,w3⟩:=(hP _ _).1 h3
    rcases turn i n σ3 H3 w3 with ⟨stop,qz⟩ | ⟨go,N,hN,step⟩
    · refine wpAny_mono (T.done X rfl rfl rfl hc i pins s3 σ3 H3 (fun _ _=>False) I3 (stat fr3) st3 stop) (fun r s4 ⟨hr,I4⟩=>?_) fun _ _ z=>z
      subst hr
      exact ⟨σ3,H3,I4,qz⟩
    · refine wpAny_mono (T.item X rfl rfl rfl hc i pins s3 σ3 H3 (fun _ _=>False) I3 (stat fr3) st3 go) (fun r s4 ⟨u,hr,h4⟩=>?_) fun _ _ z=>z
      subst hr
      refine wpAny_mono h4 (fun _ s5 hm=>?_) fun _ _ z=>z
      obtain ⟨x,H5,I5,r5,y5,st5,fr5⟩:=hm
      have I5':=I5.pinned (stat fr5) (T.obj _ _ st5)
      have again:∀ {σ7:St} {H7:Hp} {s7:Shared},Inv X (pins++z5z fp s5.heap) σ7 H7 s7→N σ7 H7→∃ m,m<n∧P m s7:=fun {σ7 H7 s7} I7 n7=>by
        refine bq fun bG=>?_
        obtain ⟨m',hm,w7⟩:=hN σ7 H7 n7
        refine bG (⟨m',hm,(hP _ _).2 ⟨i+1,σ7,H7,I7.unpinned,T.keep _ _ _ st5 fun b hb o e=>(I7.pin (b,o) (List.mem_append_right _ (List.mem_append_right _ (z1c hb e)))).1,fun b hb=>?_,w7⟩⟩)
        refine bq fun bG=>?_
        obtain ⟨o,e,d⟩:=T.obj _ _ st5 b hb
        exact bG ((I7.pin (b,o) (List.mem_append_right _ (List.mem_append_right _ (z1c hb e)))).2.1)
      refine noX (thn (hg _ s5 σ3 H5 x u _ I5' r5 (step x H5 y5)) fun _ s6 hm=>?_)
      refine bq fun bG=>?_
      obtain ⟨σ6,H6,I6,q6⟩:=hm
      refine bG (noX (thn (ht _ s6 σ6 H6 _ I6 q6) fun b s7 hm=>?_))
      obtain ⟨H7,I7,q7⟩:=hm
      cases b with
      | false =>
        show ∃ m,_
        exact again I7 q7
      | true =>
        show wpAny _ _ _ _ _ _
        refine noX (thn (he _ s7 σ6 H7 _ I7 q7) fun y s8 hm=>?_)
        refine bq fun bG=>?_
        obtain ⟨v,H8,I8,r8,ys,hy,hz,q8⟩:=hm
        refine bG (noX (thn (z77 (X:=X) _ s8 σ6 H8 (.ref D) [v] (.ref D) [y] (fun _ H'=>N σ6 H') I8 rfl (.cons r8 .nil) ⟨_,ys,v,rfl,rfl,hy,hz,q8⟩) fun _ s9 hm=>?_))
        refine bq fun bG=>?_
        obtain ⟨_,H9,I9,_,q9⟩:=hm
        exact bG (again I9 q9)
  exact z9y loop (T.self _ 0 _ _ _ st2 loop)
theorem zf7 {Y:Cx} {s:Shared} {σ0:St} {H2:Hp} {it D:Addr} {fp:List Addr} {tn:Nat→Heap→Prop} {J:It} {Z:Hp→Prop} {R:Result→Shared→Prop} (hs2:∀ x,foldedSetIterable iter2 Y.env x=pure x)
    (hx:∀ e s,Y.xe e s→False) (hc:Y.calm=true) (hg:PG Y tg g) (ht:PIf Y ifs tc) (hi2:PI Y tg2 iter2 wi2) (hg2:PG Y tg2 g2) (ht2:PIf Y ifs2 tc2) (he:PE Y elt te)
    (T:Turn Y.prog Y.w Y.K tg J fp it tn) (J0:Inv Y [] σ0 (upd H2 D (.lst [])) s) (st3:tn 0 s.heap) (f3:∀ b∈fp,upd H2 D (.lst []) b=none)
    (stat:∀ {H':Hp},(∀ b∈fp,H' b=none)→∀ b∈fp,z5x Y [] H' b) (h:z2u J g tc wi2 g2 tc2 te D σ0 H2 Z)
    (hR:∀ σ4 H4 s5,Inv Y [] σ4 H4 s5→Z H4→R (.ok .next) s5) :
    codeAny (model Y.prog Y.w) Y.A (.compLoop (.ListComp elt [⟨tg,iter,ifs,0⟩,⟨tg2,iter2,ifs2,0⟩] scope pos) 0 (.ref it) (.ref D) Y.env) R s:=by
  obtain ⟨W,⟨m0,w0⟩,turn⟩:=h
  have noX:∀ {α:Type} {t:Sem α} {Q:α→Shared→Prop} {s:Shared},wpAny (model Y.prog Y.w) Y.A t Q Y.xe s→wpAny (model Y.prog Y.w) Y.A t Q (fun _ _=>False) s:=fun q=>wpAny_mono q (fun _ _ z=>z) fun e s z=>hx e s z
  obtain ⟨P,hP⟩:∃ P:Nat→Shared→Prop,∀ n s',P n s'↔∃ i σ' H',Inv Y [] σ' H' s'∧tn i s'.heap∧(∀ b∈fp,H' b=none)∧W i n σ' H':=⟨_,fun _ _=>Iff.rfl⟩
  refine z9z hs2 P ?_ m0 ((hP _ _).2 ⟨0,_,_,J0,st3,f3,w0⟩)
  rintro n s4 h4
  obtain ⟨i,σ4,H4,I4,st4,fr4,w4⟩:=(hP _ _).1 h4
  rcases turn i n σ4 H4 w4 with ⟨stop,qz⟩ | ⟨go,N,hN,step⟩
  · refine wpAny_mono (T.done Y rfl rfl rfl hc i [] s4 σ4 H4 (fun _ _=>False) I4 (stat fr4) st4 stop) (fun r s5 ⟨hr,I5⟩=>?_) fun _ _ z=>z
    subst hr
    exact hR σ4 H4 s5 I5 qz
  · refine wpAny_mono (T.item Y rfl rfl rfl hc i [] s4 σ4 H4 (fun _ _=>False) I4 (stat fr4) st4 go) (fun r s5 ⟨u,hr,h5⟩=>?_) fun _ _ z=>z
    subst hr
    refine wpAny_mono h5 (fun _ s6 hm=>?_) fun _ _ z=>z
    obtain ⟨x,H6,I6,r6,y6,st6,fr6⟩:=hm
    have I6':=I6.pinned (stat fr6) (T.obj _ _ st6)
    have again:∀ {σ7:St} {H7:Hp} {s7:Shared},Inv Y ([]++z5z fp s6.heap) σ7 H7 s7→N σ7 H7→∃ m,m<n∧P m s7:=fun {σ7 H7 s7} I7 n7=>by
      refine bq fun bG=>?_
      obtain ⟨m',hm,w7⟩:=hN σ7 H7 n7
      refine bG (⟨m',hm,(hP _ _).2 ⟨i+1,σ7,H7,I7.unpinned,T.keep _ _ _ st6 fun b hb o e=>(I7.pin (b,o) (List.mem_append_right _ (List.mem_append_right _ (z1c hb e)))).1,fun b hb=>?_,w7⟩⟩)
      refine bq fun bG=>?_
      obtain ⟨o,e,d⟩:=T.obj _ _ st6 b hb
      exact bG ((I7.pin (b,o) (List.mem_append_right _ (List.mem_append_right _ (z1c hb e)))).2.1)
    refine noX (thn (hg _ s6 σ4 H6 x u _ I6' r6 (step x H6 y6)) fun _ s7 hm=>?_)
    refine bq fun bG=>?_
    obtain ⟨σ7,H7,I7,q7⟩:=hm
    refine bG (noX (thn (ht _ s7 σ7 H7 _ I7 q7) fun b s8 hm=>?_))
    obtain ⟨H8,I8,q8⟩:=hm
    cases b with
    | false =>
      show ∃ m,_
      exact again I8 q8
    | true =>
      show wpAny _ _ _ _ _ _
      refine wpAny_mono (zrx (X:=Y) hx hc hi2 hg2 ht2 he I8 q8) (fun _ _ z=>wpAny_mono z (fun _ _ z=>wpAny_mono z (fun _ s9 ⟨σ9,H9,I9,q9⟩=>again I9 q9) fun _ _ z=>z) fun _ _ z=>z) fun _ _ z=>z
theorem z8v {s2:Shared} {H2:Hp} {it:Addr} {fp:List Addr} {tn:Nat→Heap→Prop} {J:It} {cl:List (Str×Addr)} {Z:Addr→Hp→Prop} {RR:Value→Addr→Result→Shared→Prop} {E:Value→Shared→Prop}
    (hx:∀ e s,X.xe e s→False) (hc:X.calm=true) (S:CompScope X N' own cap scope)
    (hg:∀ cl C s₀ H₀ ex,PG (z0a X N' scope cl C s₀ H₀ ex) tg g) (ht:∀ cl C s₀ H₀ ex,PIf (z0a X N' scope cl C s₀ H₀ ex) ifs tc) (hi2:∀ cl C s₀ H₀ ex,PI (z0a X N' scope cl C s₀ H₀ ex) tg2 iter2 wi2) (hg2:∀ cl C s₀ H₀ ex,PG (z0a X N' scope cl C s₀ H₀ ex) tg2 g2) (ht2:∀ cl C s₀ H₀ ex,PIf (z0a X N' scope cl C s₀ H₀ ex) ifs2 tc2) (he:∀ cl C s₀ H₀ ex,PE (z0a X N' scope cl C s₀ H₀ ex) elt te) (hs2:∀ cl C x,foldedSetIterable iter2 (compEnvC scope cl C X.env) x=pure x)
    (I2:Inv X pins σ H2 s2) (T:Turn X.prog X.w X.K tg J fp it tn) (st2:tn 0 s2.heap) (f2:∀ b∈fp,z5x X pins H2 b)
    (c1:∀ y c,cl.lookup y=some c→X.env.cells.lookup y=some c) (c2:∀ y,(y,NameKind.free)∈scope.names→∃ c,cl.lookup y=some c)
    (h:∀ D,H2 D=none→z2u J g tc wi2 g2 tc2 te D (z3c own cap σ) H2 (Z D))
    (hRR:∀ D C s' m' H',Inv X pins σ H' s'→s'.heap.Ns C m'→z5x X pins H' C→Z D H'→RR (.ref D) C (.ok .next) s') :
    wpAny (model X.prog X.w) X.A (newList []) (fun acc s₃=>wpAny (model X.prog X.w) X.A (newFunctionEnv scope X.env.globals cl [] X.env.qual none .none (some X.env)) (fun cenv s₄ =>
      codeAny (model X.prog X.w) X.A (.compStart (.ListComp elt [⟨tg,iter,ifs,0⟩,⟨tg2,iter2,ifs2,0⟩] scope pos) 0 (.ref it) acc { cenv with scope:=relabel scope X.env }) (RR acc cenv.locals) s₄) E s₃) E s2:=by
  have hlt:∀ b∈fp,b<s2.heap.objs.size:=fun b hb=>by
    refine bq fun bG=>?_
    obtain ⟨o,e,_⟩:=T.obj _ _ st2 b hb
    exact bG (Heap.lt_size e)
  have hD:H2 s2.heap.objs.size=none:=I2.hok.fresh (Nat.le_refl _)
  refine wpAny_newObj_type (z3n (fun h₁ hns₁ hk₁ hce₁=>?_))
  dsimp only at hns₁ hk₁ hce₁ ⊢
  have I3:Inv X pins σ (upd H2 s2.heap.objs.size (.lst [])) { s2 with heap:=s2.heap.push { cls:=.type "list",dict:=none,data:=.seq ([]:List Value).toArray },toks:=s2.toks } :=
    I2.laid (fun b o e=>Heap.get?_push_of_some _ e) (Nat.le_refl _) ⟨Nat.zero_le _,[],0,.nil,Heap.get?_push_size _ rfl⟩
  generalize hs3:({ s2 with heap:=s2.heap.push { cls:=.type "list",dict:=none,data:=.seq ([]:List Value).toArray },toks:=s2.toks }:Shared)=s3 at I3
  have e3:s2.heap.push { cls:=.type "list",dict:=none,data:=.seq ([]:List Value).toArray }=s3.heap:=by rw [← hs3]
  have hsz:s3.heap.objs.size=s2.heap.objs.size+1:=by rw [← e3,Heap.size_push]
  rw [e3] at hns₁ hk₁ hce₁ ⊢
  have hk:=hk₁
  have hcl:∀ y c,cl.lookup y=some c→¬ s3.heap.objs.size<c:=fun y c e z=>by
    refine bq fun bG=>?_
    obtain ⟨v,o,ho,_⟩:=I3.cell y c (c1 y c e)
    exact bG (Nat.lt_irrefl _ (Nat.lt_trans z (Heap.lt_size ho)))
  have CA:CellsAre X scope s3.heap.objs.size cl (cellsFrom (s3.heap.objs.size+1) scope.names cl):=z7u (h:=s3.heap.push { cls:=.type "dict",data:=.dict #[] }) (by rw [Heap.size_push]) S hcl
  have hcell:∀ y c,(cellsFrom (s3.heap.objs.size+1) scope.names cl).lookup y=some c→s3.heap.objs.size<c→h₁.IsCell c none:=fun y c e z=>by
    rw [z14,z1r] at e
    cases q:(cellsFrom (s3.heap.objs.size+1) scope.names []).lookup y with
    | none=>rw [q] at e;exact absurd z (hcl y c e)
    | some c' =>
      rw [q] at e
      have:c'=c:=Option.some.inj e
      subst this
      exact hce₁ y c' (PySem.mem_of_lookup q)
  generalize hcs:cellsFrom (s3.heap.objs.size+1) scope.names cl=cs at CA hcell ⊢
  have f3:∀ b∈fp,z5x X pins (upd H2 s2.heap.objs.size (.lst [])) b:=fun b hb=>⟨by rw [z0h (Nat.ne_of_lt (hlt b hb))];exact (f2 b hb).1,(f2 b hb).2⟩
  have hlt3:∀ b∈fp,b<s3.heap.objs.size:=fun b hb=>by rw [hsz];exact Nat.lt_succ_of_lt (hlt b hb)
  have st3:tn 0 h₁:=T.keep _ _ _ st2 fun b hb o e=>hk b o (by rw [← e3];exact Heap.get?_push_of_some _ e)
  have J0:Inv (z0a X N' scope cs s3.heap.objs.size s3 (upd H2 s2.heap.objs.size (.lst [])) fp) [] (z3c own cap σ) (upd H2 s2.heap.objs.size (.lst [])) { s3 with heap:=h₁,toks:=s2.toks } :=
    z9x I3 S CA hcell c1 c2 f3 hlt3 hk hns₁
  have stat:∀ {pl:List (Addr×Obj)} {H':Hp},pl=[]→(∀ b∈fp,H' b=none)→∀ b∈fp,z5x (z0a X N' scope cs s3.heap.objs.size s3 (upd H2 s2.heap.objs.size (.lst [])) fp) pl H' b:=fun {pl H'} hp hn b hb=>by
    subst hp
    refine ⟨hn b hb,Nat.ne_of_lt (hlt3 b hb),J0.ok.exfs b hb,.inl hb,fun x c e=>J0.ok.exf b hb |>.2 x c e,fun p hp=>absurd hp (by show p∉([]++[]:List (Addr×Obj));simp)⟩
  have loop:codeAny (model X.prog X.w) X.A (.compLoop (.ListComp elt [⟨tg,iter,ifs,0⟩,⟨tg2,iter2,ifs2,0⟩] scope pos) 0 (.ref it) (.ref s2.heap.objs.size) (compEnvC scope cs s3.heap.objs.size X.env)) (RR (.ref s2.heap.objs.size) s3.heap.objs.size)
      { s3 with heap:=h₁,toks:=s2.toks }:=zf7 (Y:=z0a X N' scope cs s3.heap.objs.size s3 (upd H2 s2.heap.objs.size (.lst [])) fp) (hs2 _ _) hx hc (hg _ _ _ _ _) (ht _ _ _ _ _) (hi2 _ _ _ _ _) (hg2 _ _ _ _ _) (ht2 _ _ _ _ _) (he _ _ _ _ _) T J0 st3 (fun b hb=>(f3 b hb).1) (stat rfl) (h _ hD) fun σ4 H4 s5 I5 qz=>by
    have I6:Inv X pins σ H4 s5:=I3.call' (ch:=fp) I5.os I5.base I5.hok I5.bare fun b hb=>⟨(f3 b hb).2.2.2.1,(f3 b hb).2.1,(f3 b hb).2.2.2.2.1,(f3 b hb).2.2.2.2.2⟩
    refine bq fun bG=>?_
    obtain ⟨m',hn',_⟩:=I5.loc
    exact bG (hRR _ _ s5 m' H4 I6 hn' (I3.fpOk (Nat.le_refl _) I5.free) qz)
  have lp:codeAny (model X.prog X.w) X.A (.compStart (.ListComp elt [⟨tg,iter,ifs,0⟩,⟨tg2,iter2,ifs2,0⟩] scope pos) 0 (.ref it) (.ref s2.heap.objs.size) (compEnvC scope cs s3.heap.objs.size X.env)) (RR (.ref s2.heap.objs.size) s3.heap.objs.size)
      { s3 with heap:=h₁,toks:=s2.toks }:=codeAny_compStart_list loop (T.self _ 0 _ _ _ st3 loop)
  subst hs3
  exact lp
theorem zkc (S:CompScope X N' own cap scope) (hi:PI X tg iter wi)
    (hg:∀ cl C s₀ H₀ ex,PG (z0a X N' scope cl C s₀ H₀ ex) tg g) (ht:∀ cl C s₀ H₀ ex,PIf (z0a X N' scope cl C s₀ H₀ ex) ifs tc)
    (hi2:∀ cl C s₀ H₀ ex,PI (z0a X N' scope cl C s₀ H₀ ex) tg2 iter2 wi2) (hg2:∀ cl C s₀ H₀ ex,PG (z0a X N' scope cl C s₀ H₀ ex) tg2 g2) (ht2:∀ cl C s₀ H₀ ex,PIf (z0a X N' scope cl C s₀ H₀ ex) ifs2 tc2)
    (he:∀ cl C s₀ H₀ ex,PE (z0a X N' scope cl C s₀ H₀ ex) elt te)
    (hx:∀ e s,X.xe e s→False:=by exact fun _ _ z=>z) (hc:X.calm=true:=by rfl) (hs:∀ x,foldedSetIterable iter X.env x=pure x:=by intro _;rfl) (hs2:∀ cl C x,foldedSetIterable iter2 (compEnvC scope cl C X.env) x=pure x:=by intro _ _ _;rfl) :
    PE X (.ListComp elt [⟨tg,iter,ifs,0⟩,⟨tg2,iter2,ifs2,0⟩] scope pos) (fun σ H Q=>wi σ H fun J H1=>∀ D,H1 D=none→z2u J g tc wi2 g2 tc2 te D (z3c own cap σ) H1 (Q (.ref D))):=by
  intro pins s σ H Q I h
  rw [eval_ListComp]
  refine bq fun bG=>?_
  obtain ⟨cl,hcl,c1,c2⟩:=z1s (scope:=scope) (env:=X.env) fun y hy hk=>I.ok.has y.1 (S.free y hy hk)
  refine bG (wpAny_comprehension_free (use:=none) rfl hs hcl S.kind S.names (thn (hi pins s σ H _ I h) fun v s1 h1=>thn h1 fun itv s2 h2=>?_))
  refine bq fun bG=>?_
  obtain ⟨it,fp,tn,J,H2,e,I2,T,st2,f2,q⟩:=h2
  subst e
  refine bG (z8v (RR:=fun acc C=>compPost (model X.prog X.w) X.A X.xe none (EP X pins σ Q) acc C) (Z:=fun D=>Q (.ref D)) hx hc S hg ht hi2 hg2 ht2 he hs2 I2 T st2 f2 c1 c2 q ?_)
  intro D C s' m' H' I' hn' f' z
  exact ⟨m',hn',fun h'' hs''=>⟨.ref D,H',I'.letgo f' hs'',rfl,z⟩⟩
theorem zc7 {i:Nat} {y:Str} {py spos:Pos} (hN:X.N.Nodup) (hi':X.N[i]?=some y) (hy:X.env.scope.names.lookup y=some .local) (S:CompScope X N' own cap scope) (hi:PI X tg iter wi)
    (hg:∀ cl C s₀ H₀ ex,PG (z0a X N' scope cl C s₀ H₀ ex) tg g) (ht:∀ cl C s₀ H₀ ex,PIf (z0a X N' scope cl C s₀ H₀ ex) ifs tc)
    (hi2:∀ cl C s₀ H₀ ex,PI (z0a X N' scope cl C s₀ H₀ ex) tg2 iter2 wi2) (hg2:∀ cl C s₀ H₀ ex,PG (z0a X N' scope cl C s₀ H₀ ex) tg2 g2) (ht2:∀ cl C s₀ H₀ ex,PIf (z0a X N' scope cl C s₀ H₀ ex) ifs2 tc2)
    (he:∀ cl C s₀ H₀ ex,PE (z0a X N' scope cl C s₀ H₀ ex) elt te)
    (hsw:swapsWith (.ListComp elt [⟨tg,iter,ifs,0⟩,⟨tg2,iter2,ifs2,0⟩] scope pos) (some (.Name y py)) spos.line X.env=pure true:=by rfl)
    (hx:∀ e s,X.xe e s→False:=by exact fun _ _ z=>z) (hc:X.calm=true:=by rfl) (hs:∀ x,foldedSetIterable iter X.env x=pure x:=by intro _;rfl) (hs2:∀ cl C x,foldedSetIterable iter2 (compEnvC scope cl C X.env) x=pure x:=by intro _ _ _;rfl) :
    PS X (.Assign [.Name y py] (.ListComp elt [⟨tg,iter,ifs,0⟩,⟨tg2,iter2,ifs2,0⟩] scope pos) spos) (fun D σ H=>wi σ H fun J H1=>∀ p,H1 p=none→z2u J g tc wi2 g2 tc2 te p (z3c own cap σ) H1 (fun H2=>D.nx (σ.set i (some (.ref p))) H2)):=by
  intro pins s σ H D I h
  obtain ⟨cl,hcl,c1,c2⟩:=z1s (scope:=scope) (env:=X.env) fun y hy hk=>I.ok.has y.1 (S.free y hy hk)
  rw [exec_Assign_Name_used _ _ _ _ hsw]
  refine wpAny_bind (wpAny_standAt (wpAny_bind ?_))
  show wpAny _ _ (do let _ ← comprehension (.ListComp elt [⟨tg,iter,ifs,0⟩,⟨tg2,iter2,ifs2,0⟩] scope pos) scope X.env _ (newList []) false (eval iter X.env) (some (assign (.Name y py) X.env))) _ _ s
  refine wpAny_bind (wpAny_mono (wpAny_comprehension_free (use:=some (assign (.Name y py) X.env)) (Q:=fun _ s'=>SP X pins D .next s') rfl hs hcl S.kind S.names
    (thn (hi pins s σ H _ I h) fun v s1 h1=>thn h1 fun itv s2 h2=>?_)) (fun _ s' hq=>wpAny_pure (wpAny_pure hq)) fun _ _ e=>e)
  refine bq fun bG=>?_
  obtain ⟨it,fp,tn,J,H2,e,I2,T,st2,f2,q⟩:=h2
  subst e
  refine bG (z8v (RR:=fun acc C=>compPost (model X.prog X.w) X.A X.xe (some (assign (.Name y py) X.env)) (fun _ s'=>SP X pins D .next s') acc C) (Z:=fun p H2=>D.nx (σ.set i (some (.ref p))) H2) hx hc S hg ht hi2 hg2 ht2 he hs2 I2 T st2 f2 c1 c2 q ?_)
  intro p C s' m' H' I' hn' f' z
  show wpAny _ _ (assign (.Name y py) X.env (.ref p)) _ _ _
  refine wpAny_assign_Name (z6y I' hN hi' (.inl hy) (v:=.ref p) rfl (fun s'' I'' hm=>?_) (.inr hy))
  obtain ⟨a,hsb,ha⟩:=hm
  have hCa:C≠a:=by
    rcases ha with z | z
    · rw [z];exact f'.2.1
    · exact fun e=>f'.2.2.2.2.1 y a z e.symm
  refine ⟨m',hn'.sameBut hsb hCa,fun h3 hs3=>?_⟩
  exact ⟨_,H',I''.letgo f' hs3,z⟩
end
section
variable {prog:Program} {w:World} {A:Around} {R:Result→Shared→Prop} {I:Addr} {fp wr:List Addr} {n:Nat} {P:Nat→Value→Prop} {St:Nat→Heap→Prop}
end
noncomputable def z4h (ns:List Int):Nat:=(firstMet (fun i=>ns.getD i 0) ns.length).length
noncomputable def zcy (ns:List Int):Int→Bool:=fun k=>(firstMet (fun i=>ns.getD i 0) ns.length).any (·==k)
section
variable {X:Cx} {a:Expr} {ta:TE} {p pos:Pos}
theorem zvl (K:PySem.W.Frag) (mm:X.mg "set" = none) (ha:PE X a ta) (hc:X.calm=true:=by rfl) (hg:Gl X "set" := by rfl) (hs:starEach [a] X.env=[(false,eval a X.env)]:=by rfl) (hK:X.K=K:=by rfl) :
    PE X (.Call (.Name "set" p) [a] [] pos) (fun σ H Q=>ta σ H fun x H1=>∃ (q:Addr) (ns:List Int),[x]=[.ref q]∧SqL K H1 q (ns.map V.int)∧ns.length≤4000∧∀ d,H1 d=none→Q (.ref d) (upd H1 d (.set (zcy ns) (z4h ns)))):=by
  subst hK
  have rule:z3u X (.type "set") (fun xs H Q=>∃ (q:Addr) (ns:List Int),xs=[.ref q]∧SqL X.K H q (ns.map V.int)∧ns.length≤4000∧∀ d,H d=none→Q (.ref d) (upd H d (.set (zcy ns) (z4h ns)))):=by
    intro pins s σ H xs us Q I r h
    obtain ⟨q,ns,rfl,hq,hn,k⟩:=h
    obtain ⟨u,rfl,ru⟩:=z67 r
    cases ru
    obtain ⟨its,rv,pl,hz⟩:=I.list hq
    have hl:=rv.length
    rw [List.length_map] at hl
    refine call_set_list (I.ok.hd hc) pl.isList (by simpa using z4b rv) (by simp only [List.size_toArray,scanBound];omega) fun h' tk hS kp=>?_
    refine ⟨.ref s.heap.objs.size,_,I.laid (t':=tk) (o:=.set (zcy ns) (z4h ns)) (fun b o e=>kp b o (Heap.lt_size e) e) (Nat.le_refl _) ?_,rfl,k _ (I.hok.fresh (Nat.le_refl _))⟩
    have e:its.toArray.size=ns.length:=by simp only [List.size_toArray];exact hl.symm
    rw [e] at hS
    exact hS
  exact z44 rule hg mm rfl (z0n ha z16 hs) (he:=hs)
theorem zuc (mm:X.mg "len" = none) (ha:PE X a ta) (hg:Gl X "len" := by rfl) (hs:starEach [a] X.env=[(false,eval a X.env)]:=by rfl) :
    PE X (.Call (.Name "len" p) [a] [] pos) (fun σ H Q=>ta σ H fun x H1=>∃ (d:Addr) (S:Int→Bool) (n:Nat),[x]=[.ref d]∧H1 d=some (.set S n)∧Q (.int (n:Int)) H1):=by
  have rule:z3u X (.builtin "len") (fun xs H Q=>∃ (d:Addr) (S:Int→Bool) (n:Nat),xs=[.ref d]∧H d=some (.set S n)∧Q (.int (n:Int)) H):=by
    intro pins s σ H xs us Q I r h
    obtain ⟨d,S,n,rfl,hd,k⟩:=h
    obtain ⟨u,rfl,ru⟩:=z67 r
    cases ru
    obtain ⟨o,es,ep,t,h1,h2,h3,_,_,h6,h7,h8⟩:=(show s.heap.SetOf (intKind X.prog X.w) d S n from I.hok d _ hd)
    refine call_len_set h1 h2 h3 h7 (by unfold scanBound at h6;omega) ?_
    rw [h8]
    exact ⟨.int n,H,I.tok _,⟨_,rfl⟩,k⟩
  exact z1u rule hg mm PySem.boot_len (z0n ha z16 hs) (he:=hs)
end
end L2
namespace L2
open PySem PySem.W PySem.Spec PySem.Calls PyProof.Rows PySem.Builtin PySem.Builtin.ObjectAttr PySem.Builtin.Getset_descriptor
section
variable {prog:Program} {w:World} {A:Around} {E:Value→Shared→Prop} {s:Shared} {K:Frag} {x D:Addr} {ox:Obj}
theorem zoi {R:Result→Shared→Prop} {tp:Value} (X:K.In s.heap) (L0:Looks (model prog w) s.heap (typeOf (.ref x)) (.ref D)) (hm:mroIn K D (.type "object")=some true)
    (h:R (.ok (.ret (.ref D))) s):codeAny (model prog w) A (.call (.builtin "getset_descriptor.__get__") ⟨[.builtin "object.__class__",.ref x,tp],[]⟩) R s:=by
  refine bq fun bG=>?_
  obtain ⟨hh,g,dr,t,os⟩:=s
  have L1:=looks_mroIn (M:=model prog w) X hm
  refine bG (codeAny_call_builtin KF.slot_gs.plain KF.entry_gs (KF.slot_gs.check _ _ _ _ _ _ _ _ KF.type_class (KF.args_gs _ _ _) ?_))
  unfold Builtin.«getset_descriptor.__get__» descrGet
  rw [dga_obj]
  refine wpAny_bind (wpAny_pure ?_)
  unfold descrGetter descrCheckInstance descrNameAndClass isInstance
  simp only [KF.owner_class]
  repeat lk
  refine ⟨Code.quiet_builtin _ (by decide +kernel),codeAny_builtin KF.entry_class ?_⟩
  unfold Builtin.«object.__class__» shownTypeOf
  repeat lk
  exact h
theorem zi3 {Q:Option Value→Shared→Prop} (X:K.In s.heap) (hx:s.heap.get? x=some ox) (hc:ox.cls=.ref D) (hga:findIn K (.ref D) "__getattribute__" = some (some (.builtin "BaseException.__getattribute__")))
    (hgn:findIn K (.ref D) "__getattr__" = some none) (hmB:mroIn K D (.type "BaseException")=some true)
    (ha:findIn K (.ref D) "__class__" = some (some (.builtin "object.__class__")))
    (hn:specialIn K (.builtin "object.__class__") "__get__" = some (some (.builtin "getset_descriptor.__get__"))) (htk:takesIn K (.builtin "object.__class__")=some true) (hm:mroIn K D (.type "object")=some true)
    (h:Q (some (.ref D)) { s with toks:=s.toks+1 }):wpAny (model prog w) A (getAttr? (.ref x) "__class__") Q E s:=by
  obtain ⟨hh,g,d,t,os⟩:=s
  have L0:Looks (model prog w) hh (typeOf (.ref x)) (.ref D):=hc ▸ (Looks.ld hx).andThen .now
  have L1:=looks_findIn (M:=model prog w) X hga
  have L2:=looks_findIn (M:=model prog w) X hgn
  have L3:=looks_findIn (M:=model prog w) X ha
  unfold getAttr? getAttrBy? getAttrBy
  refine wpAny_bind (wpAny_mkText (wpAny_bind (wpAny_attempt (wpAny_holding (wpAny_bind (L0.at (wpAny_bind (L1.at ?_))))))))
  show wpAny _ _ (getAttrByItsOwn _ _ _ _ _ _) _ _ _
  unfold getAttrByItsOwn
  refine wpAny_bind (L2.at (wpAny_bind (wpAny_attempt (wpAny_holding ?_))))
  show wpAny _ _ (boundAndCalled (.builtin "BaseException.__getattribute__") (.ref x) _) _ _ _
  unfold boundAndCalled
  refine wpAny_bind (wpAny_of_eq (PySem.F.attr_ValueError.ga.bind (.ref x)) ?_)
  refine wpAny_call (codeAny_call_builtin PySem.F.attr_ValueError.ga.plain PySem.F.entry_bexc_ga ?_)
  have hk:builtinKind "BaseException.__getattribute__" = some .slot:=by decide +kernel
  have hsplit:splitId "BaseException.__getattribute__" = some ("BaseException", "__getattribute__"):=by decide +kernel
  have LB:Looks (model prog w) hh (isInstance (.ref x) (.type "BaseException")) true:=L0.andThen (looks_mroIn X hmB)
  have hargs:=PySem.F.args_bexc_ga (.ref x) (.str "__class__" t)
  show wpAny _ _ (checkBuiltinCall "BaseException.__getattribute__" ⟨[.ref x,.str "__class__" t],[]⟩) _ _ _
  simp only [checkBuiltinCall,hk,hsplit]
  refine wpAny_bind (LB.at ?_)
  rw [if_neg (by decide)]
  have LF:Looks (model prog w) hh (find (.ref x) (.ref D) "__class__") (.bind (.builtin "getset_descriptor.__get__") (.builtin "object.__class__")):=by
    have L4:Looks (model prog w) hh (getOf (some (.builtin "object.__class__"))) (some (.builtin "getset_descriptor.__get__")):=looks_specialIn X hn
    have L5:Looks (model prog w) hh (takesStores (.builtin "object.__class__")) true:=looks_takesIn X htk
    unfold find
    refine L3.andThen (L4.andThen ?_)
    unfold dataDescriptor?
    exact fun A' Q' E' s' k q=>wpAny_bind (wpAny_bind (L5 A' _ E' s' k (wpAny_pure (wpAny_bind (wpAny_rule (wpAny_pure q))))))
  have body:wpAny (model prog w) A.in1 (Builtin.«object.__getattribute__» ⟨[.ref x,.str "__class__" t],[]⟩) (fun fin s'=>fin=.done (.ret (.ref D))∧s'=⟨hh,g,d,t+1,os⟩) (fun _ _=>False) ⟨hh,g,d,t+1,os⟩:=by
    unfold Builtin.«object.__getattribute__»
    refine wpAny_bind (wpAny_pure ?_)
    refine wpAny_bind (wpAny_pure ?_)
    refine wpAny_bind (L0.at ?_)
    refine wpAny_bind (LF.at ?_)
    show wpAny _ _ (holding [_] (call (.builtin "getset_descriptor.__get__") [.builtin "object.__class__",.ref x,.ref D]) >>= ret) _ _ _
    refine wpAny_bind (wpAny_holding (wpAny_call (zoi X L0 hm ?_)))
    exact wpAny_pure ⟨rfl,rfl⟩
  cases hsig:Manifest.signature? "BaseException.__getattribute__" with
  | none=>exact wpAny_pure (wpAny_mono body (fun fin s' z=>by obtain ⟨rfl,rfl⟩:=z;exact handed_on rfl (wpAny_pure h)) fun _ _ z=>z.elim)
  | some sig =>
    simp only [argsOk,hsig] at hargs
    show wpAny _ A.in1 (Bind.checkArgs "BaseException.__getattribute__" sig ⟨[.ref x,.str "__class__" t],[]⟩) _ _ _
    have h2:Bind.checkArgs "BaseException.__getattribute__" sig ⟨[.ref x,.str "__class__" t],[]⟩=pure ():=hargs
    rw [h2]
    exact wpAny_pure (wpAny_mono body (fun fin s' z=>by obtain ⟨rfl,rfl⟩:=z;exact handed_on rfl (wpAny_pure h)) fun _ _ z=>z.elim)
structure ExcIn (K:Frag) (D:Addr):Prop where
  hga:findIn K (.ref D) "__getattribute__" = some (some (.builtin "BaseException.__getattribute__"))
  hgn:findIn K (.ref D) "__getattr__" = some none
  hmB:mroIn K D (.type "BaseException")=some true
  ha:findIn K (.ref D) "__class__" = some (some (.builtin "object.__class__"))
  hn:specialIn K (.builtin "object.__class__") "__get__" = some (some (.builtin "getset_descriptor.__get__"))
  htk:takesIn K (.builtin "object.__class__")=some true
  hm:mroIn K D (.type "object")=some true
  cls:(clsIn K D).isSome=true
theorem zdr (F:ExcIn K D):KitX K (.ref x) (.ref D) (fun h=>∃ o,h.get? x=some o∧o.cls=.ref D) where
  ty:=fun _ _ _ ⟨o,h1,h2⟩=>h2 ▸ (Looks.ld h1).andThen .now
  it:=fun _ _ X _=>by
    have hcD:=F.cls
    unfold clsIn at hcD
    split at hcD
    · rename_i c' d' cd' sl' ho
      intro A' Q' E' s' k q
      unfold isType loadHead
      exact wpAny_bind (wpAny_loadPart (k _ _ (X _ _ ho)) (wpAny_pure q))
    · cases hcD
  ne:=fun h tp dd its n sl X htp=>by
    have hcD:=F.cls
    refine Bool.eq_false_iff.mpr fun q=>?_
    have e:D=tp:=Value.ref.inj (beq_iff_eq.mp q)
    subst e
    unfold clsIn at hcD
    split at hcD
    · rename_i c' d' cd' sl' ho
      have z:=(X _ _ ho).symm.trans htp
      cases z
    · cases hcD
  ca:=fun X ⟨o,h1,h2⟩ k=>zi3 X h1 h2 F.hga F.hgn F.hmB F.ha F.hn F.htk F.hm k
end
noncomputable def zcu (e D:Addr):HO:=.ext fun h=>∃ o,h.get? e=some o∧o.cls=.ref D
section
variable {X:Cx} {a b:Expr} {ta tb:TE} {p pos:Pos}
theorem zud (K:Frag) (ml:X.mg "isinstance" = none) (ha:PE X a ta) (hb:PE X b tb) (hg:Gl X "isinstance" := by rfl) (hs:starEach [a,b] X.env=[(false,eval a X.env),(false,eval b X.env)]:=by rfl) (hs2:starEach [b] X.env=[(false,eval b X.env)]:=by rfl) (hK:X.K=K:=by rfl) :
    PE X (.Call (.Name "isinstance" p) [a,b] [] pos) (fun σ H Q=>ta σ H fun x H1=>tb σ H1 fun y H2=>∃ (e D:Addr) (c:V) (cv:Value) (k:Bool),[x,y]=[.ref e,c]∧H2 e=some (zcu e D)∧ExcIn K D∧RelV c cv∧kitOne K (.ref D) cv=some k∧Q (.bl k) H2):=by
  subst hK
  have rule:z3u X (.builtin "isinstance") (fun xs H Q=>∃ (e D:Addr) (c:V) (cv:Value) (k:Bool),xs=[.ref e,c]∧H e=some (zcu e D)∧ExcIn X.K D∧RelV c cv∧kitOne X.K (.ref D) cv=some k∧Q (.bl k) H):=by
    intro pins s σ H xs us Q I r h
    obtain ⟨e,D,c,cv,k,rfl,he,F,rc,hk,q⟩:=h
    obtain ⟨u,u2,rfl,ru,ru2⟩:=zeh r
    cases (show u=Value.ref e from ru)
    have hcv:Looks (model X.prog X.w) s.heap (pure ():Sem Unit) ():=.now
    obtain ⟨ho,_,_⟩:=(show (∃ o,s.heap.get? e=some o∧o.cls=.ref D)∧_∧_ from I.hok e _ he)
    have:u2=cv∨kitOne X.K (.ref D) u2=some k:=by
      cases c with
      | ref a=>cases (show u2=Value.ref a from ru2);cases (show cv=Value.ref a from rc);exact .inl rfl
      | ty n=>cases (show u2=Value.type n from ru2);cases (show cv=Value.type n from rc);exact .inl rfl
      | non=>cases (show u2=Value.none from ru2);cases (show cv=Value.none from rc);exact .inl rfl
      | bl b=>cases (show u2=Value.bool b from ru2);cases (show cv=Value.bool b from rc);exact .inl rfl
      | int i=>obtain ⟨t,z⟩:=(show ∃ t,cv=Value.int i t from rc);subst z;simp [kitOne,kitCls] at hk
      | str i=>obtain ⟨t,z⟩:=(show ∃ t,cv=Value.str i t from rc);subst z;simp [kitOne,kitCls] at hk
      | byt i=>obtain ⟨t,z⟩:=(show ∃ t,cv=Value.bytes i t from rc);subst z;simp [kitOne,kitCls] at hk
      | flt i=>obtain ⟨t,z⟩:=(show ∃ t,cv=Value.float i t from rc);subst z;simp [kitOne,kitCls] at hk
    have hk2:kitOne X.K (.ref D) u2=some k:=by
      rcases this with z | z
      · rw [z];exact hk
      · exact z
    exact kia_one (zdr F) I.kIn ho hk2 (fun z=>nomatch z) fun tk=>⟨.bl k,H,I.tok _,rfl,q⟩
  exact z1u rule hg ml rfl (z0n ha (z0n hb z16 hs2) (by rw [hs,hs2])) (he:=by rw [hs,hs2]) (hpl:=by rw [hs2];rfl)
end
noncomputable def PJ (X:Cx) (es:List Expr) (t:St→Hp→(Hp→Prop)→Prop):Prop :=
  ∀ (pins:List (Addr×Obj)) (s:Shared) (σ:St) (H:Hp) (Q:Hp→Prop) (acc:Str) (n:Nat),acc.length≤n→n+2000*es.length≤1000000→Inv X pins σ H s→t σ H Q →
    wpAny (model X.prog X.w) X.A (joinParts acc (evalEach es X.env)) (fun u s'=>∃ z t H',u=.str z t∧Inv X pins σ H' s'∧Q H') X.xe s
section
variable {X:Cx} {e e2:Expr} {es:List Expr} {te:TE} {t:St→Hp→(Hp→Prop)→Prop} {p pos:Pos}
theorem zqu:PJ X [] (fun _ H Q=>Q H):=fun pins s σ H Q acc n h1 h2 I h=>joinParts_nil ⟨acc,_,H,rfl,I.tok _,h⟩ (by rw [sizeLine_eq];simp at h2;omega)
theorem zqt {x:Str} {j:Nat} (hx:x.length≤2000) (hr:PJ X es t):PJ X (.Constant (.str x) j p::es) t:=by
  intro pins s σ H Q acc n h1 h2 I h
  have hl:(acc++x).length≤n+2000:=by rw [strLen_append];omega
  simp only [List.length_cons] at h2
  show wpAny _ _ (joinParts acc (eval (.Constant (.str x) j p) X.env::evalEach es X.env)) _ _ s
  refine joinParts_cons (thn (zlz pins s σ H (fun v H'=>v=.str x∧H'=H) I ⟨rfl,rfl⟩) fun u s1 hm=>?_)
  obtain ⟨v,H1,I1,r1,e1,e2⟩:=hm
  subst e1 e2
  obtain ⟨tk,rfl⟩:=r1
  exact ⟨by rw [sizeLine_eq];omega,hr pins s1 σ _ Q _ (n+2000) hl (by omega) I1 h⟩
theorem zqv (he:PE X e te) (hr:PJ X es t):PJ X (.FormattedValue e (-1) none p::es) (fun σ H Q=>te σ H fun v H1=>∃ i,v=.int i∧i.natAbs.log2<1920∧t σ H1 Q):=by
  intro pins s σ H Q acc n h1 h2 I h
  simp only [List.length_cons] at h2
  show wpAny _ _ (joinParts acc (eval (.FormattedValue e (-1) none p) X.env::evalEach es X.env)) _ _ s
  refine joinParts_cons (FormattedValue_plain (thn (he pins s σ H _ I h) fun u s1 hm=>?_))
  refine bq fun bG=>?_
  obtain ⟨v,H1,I1,r1,i,ev,hi,q⟩:=hm
  subst ev
  obtain ⟨tk,rfl⟩:=r1
  refine bG (formatField_int_small hi ?_)
  have hz:=int_text_len_1921 hi
  have hl:(acc++Str.ofString (toString i)).length≤n+2000:=by rw [strLen_append];omega
  exact ⟨by rw [sizeLine_eq];omega,hr pins _ σ H1 Q _ (n+2000) hl (by omega) (I1.tok _) q⟩
theorem znr (h:PJ X (e::e2::es) t) (hl:(e::e2::es).length≤400:=by decide):PE X (.JoinedStr (e::e2::es) pos) (fun σ H Q=>t σ H fun H1=>∀ z,Q (.str z) H1):=by
  intro pins s σ H Q I q
  refine JoinedStr_many ?_
  refine thn (h pins s σ H _ Str.empty 0 (Nat.zero_le _) (by omega) I q) fun u s' hm=>?_
  refine bq fun bG=>?_
  obtain ⟨z,tk,H',eu,I',q'⟩:=hm
  exact bG (⟨.str z,H',I',⟨tk,eu⟩,q' z⟩)
end
end L2
namespace L2
open PySem PySem.Spec PyProof.Rows
theorem ObjOk.there {P:Program} {w:World} {H:Hp} {h:Heap} {a:Addr} {o:HO} (x:ObjOk P w H h a o):∃ ob,h.get? a=some ob:=by
  cases o with
  | lst xs=>obtain ⟨_,_,_,_,e⟩:=x;exact ⟨_,e⟩
  | tup xs=>obtain ⟨_,_,_,p⟩:=x;obtain ⟨ob,e,_⟩:=p;exact ⟨_,e⟩
  | dK kvs=>obtain ⟨_,_,_,_,o,_,_,e,_⟩:=x;exact ⟨_,e⟩
  | dT kvs=>obtain ⟨_,_,_,_,o,_,_,e,_⟩:=x;exact ⟨_,e⟩
  | set S n=>obtain ⟨o,_,_,_,e,_⟩:=x;exact ⟨_,e⟩
  | ins C dx fs=>obtain ⟨_,_,_,e,_⟩:=x;exact ⟨_,e⟩
  | own y=>obtain ⟨_,e⟩:=x;exact ⟨_,e⟩
  | xd fs=>obtain ⟨_,⟨_,_,_,e,_⟩,_⟩:=x;exact ⟨_,e⟩
  | rng lo hi=>obtain ⟨_,_,_,e⟩:=x;exact ⟨_,e⟩
  | frz ob u=>obtain ⟨e,_⟩:=x;exact ⟨_,e⟩
  | tbl ps=>exact ⟨_,(show h.get? a=some _ from x)⟩
  | met f y=>exact ⟨_,(show h.get? a=some _ from x)⟩
  | ext φ=>obtain ⟨_,e,_⟩:=x;exact e
structure Flew (P:Program) (w:World) (outer:List Env) (H H':Hp) (s:Shared) (e:Addr) (C:Value) (B:Heap) (s':Shared):Prop where
  os:s'.os=s.os
  bare:AllBare s'.gens
  un:Un (frs outer) [] H H' s.heap s'.heap
  hok:HOk P w H' s'.heap
  trk:∀ b o,s'.heap.get? b=some o→H' b≠none→B.get? b=some o
  old:∀ b o,s.heap.get? b=some o→H b=none→b∉frs outer→B.get? b=some o
  thr:∀ b o,s.heap.get? b=some o→b∉frs outer→∃ o',B.get? b=some o'
  frf:∀ b∈frs outer,H b=none
  unt:H' e=none
  new:s.heap.get? e=none
  fly:∃ a0,Heap.FlyingW B outer e C a0 s'.heap
noncomputable def CXr (P:Program) (w:World):CXT:=fun outer H s E e s'=>∃ (a:Addr) (C:Value) (H':Hp) (B:Heap),e=.ref a∧Flew P w outer H H' s a C B s'∧E C none H'
section
variable {P:Program} {w:World} {outer:List Env} {H H':Hp} {s s':Shared} {e:Addr} {C:Value} {B:Heap}
theorem Flew.to {h2:Heap} (F:Flew P w outer H H' s e C B s') (hB:B.StaysIn h2) (hs:s'.heap.UpToSlots h2):Un (frs outer) [] H H' s.heap h2∧HOk P w H' h2∧∀ b o,h2.get? b=some o→H' b≠none→B.get? b=some o:=by
  obtain ⟨a0,fl⟩:=F.fly
  have kp:∀ b o,s.heap.get? b=some o→H b=none→b∉frs outer→h2.get? b=some o:=fun b o x n hb=>hB b o (F.old b o x n hb)
  have sl:∀ b o,s.heap.get? b=some o→H b=none→b∈frs outer→∃ sl,h2.get? b=some { o with slots:=sl }:=fun b o x n hb=>by
    refine bq fun bG=>?_
    obtain ⟨sl,e1⟩:=F.un.slot b o x n hb (by simp)
    obtain ⟨_,o',e2,d⟩:=fl.2.2.1.mem hb
    rw [e1] at e2
    cases e2
    obtain ⟨sl',e3⟩:=hs b { o with slots:=sl } e1 d
    exact bG (⟨sl',e3⟩)
  refine ⟨⟨fun b o x n hb _=>kp b o x n hb,fun b o x n hb _=>sl b o x n hb,F.un.free,fun b o x _=>?_,F.un.tups,F.un.frzs,F.un.tbls⟩,fun a u eu=>?_,fun b o x n=>?_⟩
  · by_cases hb:b∈frs outer
    · obtain ⟨l,e1⟩:=sl b o x (F.frf b hb) hb
      exact ⟨_,e1⟩
    · obtain ⟨o',e1⟩:=F.thr b o x hb
      exact ⟨o',hB b o' e1⟩
  · refine (F.hok a u eu).stay (fun b v hb q=>hB b v (F.trk b v q ?_)) (fun _ q=>q) fun _ _ q=>q
    rcases hb with z | z
    · rw [z,eu];simp
    · rw [z];simp
  · cases eu:H' b with
    | none=>exact absurd eu n
    | some u =>
      refine bq fun bG=>?_
      obtain ⟨o1,e1⟩:=(F.hok b u eu).there
      have e2:=F.trk b o1 e1 n
      have e3:=hB b o1 e2
      rw [x] at e3
      cases e3
      exact bG (e2)
theorem Flew.next {h2:Heap} (F:Flew P w outer H H' s e C B s') (hs:s'.heap.UpToSlots h2) (fl:∃ a0,Heap.FlyingW B outer e C a0 h2):Flew P w outer H H' s e C B { s' with heap:=h2 }:=by
  refine bq fun bG=>?_
  obtain ⟨a0,fl⟩:=fl
  obtain ⟨u,k,t⟩:=F.to fl.1 hs
  exact bG (⟨F.os,F.bare,u,k,t,F.old,F.thr,F.frf,F.unt,F.new,a0,fl⟩)
theorem Flew.inv {X:Cx} {pins:List (Addr×Obj)} {σ:St} (F:Flew X.prog X.w X.stack H H' s e C B s') (I:Inv X pins σ H s):Inv X pins σ H' s' :=
  I.call' (ch:=[]) F.os F.un F.hok F.bare fun _ z=>nomatch z
end
section
variable {P:Program} {w:World} {K:PySem.W.Frag} {mg:Str→Option Value} {base:Heap} {N:List Str} {qual:Str} {scope:Scope} {f:Addr} {cd:Value} {A:Around} {outer:List Env} {s s1:Shared} {H H1:Hp} {E E':XK}
  {pins:List (Addr×Obj)} {σ:St}
theorem zq7 {h':Heap} {e C:Addr} {vs:List Value} (I:Inv (z3w (CXr P w) P w K mg base N qual scope f cd A outer s H E) pins σ H1 s1) (hx:Heap.MadeExcOf s1.heap h' e (.ref C) vs) (hE:E (.ref C) none H1) :
    (z3w (CXr P w) P w K mg base N qual scope f cd A outer s H E).xe (.ref e) { s1 with heap:=h' }:=by
  have fs:∀ b,b∈frs (envOfC qual scope s.heap.objs.size f cd::outer)→H1 b=none:=I.stkFree
  have inn:∀ b o,s1.heap.get? b=some o→b∉frs (envOfC qual scope s.heap.objs.size f cd::outer)→(PySem.W.hideAll s1.heap (frs (envOfC qual scope s.heap.objs.size f cd::outer))).get? b=some o:=fun b o e hb=>PySem.W.hideAll_get _ e hb
  have out:∀ b o,s.heap.get? b=some o→b∉frs outer→b∉frs (envOfC qual scope s.heap.objs.size f cd::outer):=fun b o e hb z=>by
    have z:b∈s.heap.objs.size::frs outer:=z
    rcases List.mem_cons.mp z with q | q
    · rw [q] at e;exact Nat.lt_irrefl _ (Heap.lt_size e)
    · exact hb q
  have frf:∀ b∈frs outer,H b=none:=I.ok.frf
  have hin:∀ env∈(envOfC qual scope s.heap.objs.size f cd::outer),∀ a,env.frame=some a→a∈frs (envOfC qual scope s.heap.objs.size f cd::outer):=fun env he a ha=>List.mem_filterMap.mpr ⟨env,he,ha⟩
  show wpAny (model P w) (A.deeper (envOfC qual scope s.heap.objs.size f cd)) (leaving (envOfC qual scope s.heap.objs.size f cd) (.ref e)) _ _ _
  refine wpAny_leaves_madeW (base:=PySem.W.hideAll s1.heap (frs (envOfC qual scope s.heap.objs.size f cd::outer))) I.ok.frames rfl (fun b o q=>PySem.W.of_hideAll _ q) (PySem.W.funFrames_hide I.stack hin) hx fun h2 t fl _ _ ups=>?_
  have hB:=fl.1
  have sl:∀ b o,s.heap.get? b=some o→H b=none→b∈frs outer→∃ sl,h2.get? b=some { o with slots:=sl }:=fun b o x n hb=>by
    refine bq fun bG=>?_
    obtain ⟨sl,e1⟩:=I.base.slot b o x n hb (by simp [z3w])
    obtain ⟨_,o',e2,d⟩:=I.stack.mem (show b∈s.heap.objs.size::frs outer from List.mem_cons_of_mem _ hb)
    rw [e1] at e2
    cases e2
    obtain ⟨sl',e3⟩:=ups b { o with slots:=sl } (hx.keeps b { o with slots:=sl } e1) d
    exact bG (⟨sl',e3⟩)
  have old:∀ b o,s.heap.get? b=some o→H b=none→b∉frs outer→(PySem.W.hideAll s1.heap (frs (envOfC qual scope s.heap.objs.size f cd::outer))).get? b=some o:=fun b o x n hb =>
    inn b o (I.base.keep b o x n hb (by simp [z3w])) (out b o x hb)
  have thr:∀ b o,s.heap.get? b=some o→b∉frs outer→∃ o',(PySem.W.hideAll s1.heap (frs (envOfC qual scope s.heap.objs.size f cd::outer))).get? b=some o':=fun b o x hb=>by
    refine bq fun bG=>?_
    obtain ⟨o',e1⟩:=I.base.there b o x (by simp [z3w])
    exact bG (⟨o',inn b o' e1 (out b o x hb)⟩)
  have nfr:∀ b,H1 b≠none→b∉frs (envOfC qual scope s.heap.objs.size f cd::outer):=fun b n z=>n (fs b z)
  refine ⟨e,.ref C,H1,_,rfl,⟨I.os,I.bare,⟨fun b o x n hb _=>hB b o (old b o x n hb),fun b o x n hb _=>sl b o x n hb,fun b o x n _=>I.base.free b o x n (by simp [z3w]),fun b o x _=>?_,I.base.tups,I.base.frzs,I.base.tbls⟩,fun a u eu=>?_,fun b o x n=>?_,old,thr,frf,?_,?_,_,fl⟩,hE⟩
  · by_cases hb:b∈frs outer
    · obtain ⟨l,e1⟩:=sl b o x (frf b hb) hb
      exact ⟨_,e1⟩
    · obtain ⟨o',e1⟩:=thr b o x hb
      exact ⟨o',hB b o' e1⟩
  · refine (I.hok a u eu).stay (fun b v hb q=>hB b v (inn b v q (nfr b ?_))) (fun _ q=>q) fun _ _ q=>q
    rcases hb with z | z
    · rw [z,eu];simp
    · rw [z];simp
  · cases eu:H1 b with
    | none=>exact absurd eu n
    | some u =>
      refine bq fun bG=>?_
      obtain ⟨o1,e1⟩:=(I.hok b u eu).there
      have e2:=inn b o1 e1 (nfr b n)
      have e3:=hB b o1 e2
      rw [x] at e3
      cases e3
      exact bG (e2)
  · cases eu:H1 e with
    | none=>rfl
    | some u =>
      obtain ⟨o1,e1⟩:=(I.hok e u eu).there
      rw [hx.new] at e1
      cases e1
  · cases eo:s.heap.get? e with
    | none=>rfl
    | some o =>
      obtain ⟨o1,e1⟩:=I.base.there e o eo (by simp [z3w])
      rw [hx.new] at e1
      cases e1
theorem znw (hE:∀ C d H',E' C d H'→E C d H'):zeb (CXr P w) (z3w (CXr P w) P w K mg base N qual scope f cd A outer s H E) E':=by
  intro pins σ H1 s1 e s' I hc
  obtain ⟨a,C,H',B,rfl,F,q⟩:=hc
  have F:Flew P w (envOfC qual scope s.heap.objs.size f cd::outer) H1 H' s1 a C B s':=F
  obtain ⟨a0,fl⟩:=F.fly
  have I2:Inv (z3w (CXr P w) P w K mg base N qual scope f cd A outer s H E) pins σ H' s':=Flew.inv (X:=z3w (CXr P w) P w K mg base N qual scope f cd A outer s H E) F I
  have out:∀ b o,s.heap.get? b=some o→b∉frs outer→b∉frs (envOfC qual scope s.heap.objs.size f cd::outer):=fun b o e hb z=>by
    have z:b∈s.heap.objs.size::frs outer:=z
    rcases List.mem_cons.mp z with q | q
    · rw [q] at e;exact Nat.lt_irrefl _ (Heap.lt_size e)
    · exact hb q
  obtain ⟨f1,f2,⟨_,_,f3⟩,f4⟩:=id fl
  have G:Flew P w outer H H' s a C B s':=by
    refine ⟨I2.os,F.bare,⟨fun b o x n hb _=>I2.base.keep b o x n hb (by simp [z3w]),fun b o x n hb _=>I2.base.slot b o x n hb (by simp [z3w]),fun b o x n _=>I2.base.free b o x n (by simp [z3w]),fun b o x _=>I2.base.there b o x (by simp [z3w]),I2.base.tups,I2.base.frzs,I2.base.tbls⟩,F.hok,F.trk,
      fun b o x n hb=>F.old b o (I.base.keep b o x n hb (by simp [z3w])) (I.base.free b o x n (by simp [z3w])) (out b o x hb),fun b o x hb=>?_,I.ok.frf,F.unt,?_,a0,f1,f2,f3,f4⟩
    · obtain ⟨o1,e1⟩:=I.base.there b o x (by simp [z3w])
      exact F.thr b o1 e1 (out b o x hb)
    · cases eo:s.heap.get? a with
      | none=>rfl
      | some o =>
        obtain ⟨o1,e1⟩:=I.base.there a o eo (by simp [z3w])
        rw [F.new] at e1
        cases e1
  show wpAny (model P w) (A.deeper (envOfC qual scope s.heap.objs.size f cd)) (leaving (envOfC qual scope s.heap.objs.size f cd) (.ref a)) _ _ _
  exact wpAny_leaves_onW I.ok.frames rfl fl fun h2 fl2 ups=>⟨a,C,H',B,rfl,G.next ups ⟨_,fl2⟩,hE C none H' q⟩
end
section
variable {prog:Program} {w:World} {A:Around} {R:Result→Shared→Prop} {I l:Addr} {items:Array Value} {ls:List Nat} {d:Value}
end
section
variable {X:Cx} {a b:Expr} {ta tb:TE} {p p2 pos kp kp2:Pos}
end
section
variable {prog:Program} {w:World} {A:Around} {R:Result→Shared→Prop} {I:Addr} {fp wr:List Addr} {n:Nat} {P:Nat→Value→Prop} {St:Nat→Heap→Prop}
end
section
variable {prog:Program} {w:World} {A:Around} {E:Value→Shared→Prop} {s:Shared}
end
section
variable {X:Cx}
end
end L2
namespace L3
open PySem PySem.Spec L2
inductive D where
  | non | bl (b:Bool) | int (i:Int) | str (x:Str) | lst (xs:List D) | scr (xs:List D) | tup (xs:List D) | gt (xs:List D) | ref (k:Nat)
inductive O where
  | lst (xs:List D) | dK (kvs:List (Key×D)) | ins (C:Addr) (fs:List (Str×D)) | exc (C:Addr)
noncomputable abbrev M:=List (Option O)
noncomputable abbrev G:=List (Option D)
structure Wd where
  ρ:List Addr
  μ:M
  H:Hp
  hid:Addr→Prop
def SqF (K:PySem.W.Frag) (H:Hp) (a:Addr) (xs:List V):Prop:=(∃ o,H a=some (.frz o (.lst xs))) ∨
    ∃ (o:Obj) (its:Array Value) (n:Nat),K.lookup a=some o∧o.cls=.type "list" ∧ o.dict=none∧o.data=.seq its n∧its.size≤sizeLine∧Vals xs its.toList
theorem SqF.seq {K:PySem.W.Frag} {H:Hp} {a:Addr} {xs:List V} (h:SqF K H a xs):SqL K H a xs:=by
  rcases h with h | h
  · exact .inl (.inr h)
  · exact .inr h
def RL (W:Wd) (a:Addr):Prop:=∃ (k:Nat) (o:O),W.μ[k]?=some (some o)∧W.ρ[k]?=some a
def zso (W:Wd) (a:Addr):Prop:=RL W a∨W.hid a
mutual
inductive DR (K:PySem.W.Frag) (W:Wd):D→V→Prop where
  | non:DR K W .non .non
  | bl (b:Bool):DR K W (.bl b) (.bl b)
  | int (i:Int):DR K W (.int i) (.int i)
  | str (x:Str):DR K W (.str x) (.str x)
  | ref {k:Nat} {a:Addr}:W.ρ[k]?=some a→DR K W (.ref k) (.ref a)
  | lst {a:Addr} {vs:List V} {ds:List D}:W.H a=some (.lst vs)→¬ zso W a→DRs K W ds vs→DR K W (.lst ds) (.ref a)
  | scr {a:Addr} {vs:List V} {ds:List D}:SqF K W.H a vs→DRs K W ds vs→DR K W (.scr ds) (.ref a)
  | tup {a:Addr} {vs:List V} {ds:List D}:W.H a=some (.tup vs)→DRs K W ds vs→DR K W (.tup ds) (.ref a)
  | gt {a:Addr} {vs:List V} {ds:List D}:SqT K W.H a vs→DRs K W ds vs→DR K W (.gt ds) (.ref a)
inductive DRs (K:PySem.W.Frag) (W:Wd):List D→List V→Prop where
  | nil:DRs K W [] []
  | cons {d:D} {v:V} {ds:List D} {vs:List V}:DR K W d v→DRs K W ds vs→DRs K W (d::ds) (v::vs)
end
def KR (K:PySem.W.Frag) (W:Wd):List (Key×D)→List (Key×V)→Prop:=Paired fun p q=>p.1=q.1∧DR K W p.2 q.2
def FR (K:PySem.W.Frag) (W:Wd):List (Str×D)→List (Str×V)→Prop:=Paired fun p q=>p.1=q.1∧DR K W p.2 q.2
def OR (K:PySem.W.Frag) (W:Wd) (a:Addr):O→HO→Prop
  | .lst ds,ho=>∃ vs,ho=.lst vs∧DRs K W ds vs
  | .dK kvs,ho=>∃ vs,ho=.dK vs∧KR K W kvs vs
  | .ins C fs,ho=>∃ vs,(∃ dx,ho=.ins C dx vs)∧FR K W fs vs
  | .exc C,ho=>ho=zcu a C
structure Ok (K:PySem.W.Frag) (W:Wd):Prop where
  len:W.ρ.length=W.μ.length
  nd:W.ρ.Nodup
  rs:∀ a∈W.ρ,W.H a≠none
  at_:∀ (k:Nat) (o:O),W.μ[k]?=some (some o)→∃ a ho,W.ρ[k]?=some a∧W.H a=some ho∧OR K W a o ho
  hd0:∀ a,W.hid a→W.H a≠none∧a∉W.ρ
theorem Ok.hd {K:PySem.W.Frag} {W:Wd} (ok:Ok K W):∀ a,W.hid a→W.H a≠none∧¬ RL W a:=fun a z=>⟨(ok.hd0 a z).1,fun ⟨_,_,_,h⟩=>(ok.hd0 a z).2 (List.mem_of_getElem? h)⟩
structure Step (W W':Wd):Prop where
  ρ:∀ (k:Nat) a,W.ρ[k]?=some a→W'.ρ[k]?=some a
  live:∀ a,RL W' a→RL W a∨W.H a=none
  keep:∀ a o,W.H a=some o→¬ RL W a→W'.H a=some o
  hid:W'.hid=W.hid
  still:∀ a,W.H a≠none→W'.H a≠none
structure EnvR (K:PySem.W.Frag) (W:Wd) (Γ:G) (σ:St):Prop where
  len:Γ.length=σ.length
  at_:∀ (i:Nat) d,Γ[i]?=some (some d)→∃ v,σ[i]?=some (some v)∧DR K W d v
section
variable {K:PySem.W.Frag} {W W' W'':Wd} {Γ:G} {σ:St}
theorem Step.refl:Step W W:=⟨fun _ _ h=>h,fun _ h=>.inl h,fun _ _ h _=>h,rfl,fun _ h=>h⟩
theorem Step.nlive (s:Step W W') {a:Addr} {o:HO} (h:W.H a=some o) (n:¬ RL W a):¬ RL W' a:=fun z=>by
  rcases s.live a z with z | z
  · exact n z
  · rw [h] at z;cases z
theorem Step.trans (s:Step W W') (t:Step W' W''):Step W W'' where
  ρ k a h:=t.ρ k a (s.ρ k a h)
  live a h:=by
    rcases t.live a h with z | z
    · exact s.live a z
    · exact .inr (Classical.byContradiction fun n=>s.still a n z)
  keep a o h n:=t.keep a o (s.keep a o h n) (s.nlive h n)
  hid:=t.hid.trans s.hid
  still a h:=t.still a (s.still a h)
theorem Step.nLive (s:Step W W') {a:Addr} {o:HO} (h:W.H a=some o) (n:¬ zso W a):¬ zso W' a:=fun z=>by
  rcases z with z | z
  · exact s.nlive h (fun q=>n (.inl q)) z
  · rw [s.hid] at z;exact n (.inr z)
theorem zn9 (s:Step W W') {a:Addr} {u:HO} (n:¬ RL W a) (r:Rd W.H a u):Rd W'.H a u:=by
  rcases r with h | ⟨o,h⟩
  · exact .inl (s.keep _ _ h n)
  · exact .inr ⟨o,s.keep _ _ h n⟩
theorem Ok.notup (ok:Ok K W) {a:Addr} {vs:List V} (r:Rd W.H a (.tup vs)):¬ RL W a:=fun ⟨k,o,hk,ha⟩=>by
  obtain ⟨a',ho,h1,h2,h3⟩:=ok.at_ k o hk
  rw [ha] at h1
  cases h1
  rcases r with h | ⟨q,h⟩
  · rw [h2] at h
    cases o with
    | lst ds=>obtain ⟨ws,rfl,_⟩:=h3;cases h
    | dK kvs=>obtain ⟨ws,rfl,_⟩:=h3;cases h
    | ins C fs=>obtain ⟨ws,⟨dx,rfl⟩,_⟩:=h3;cases h
    | exc C=>cases (show _=_ from h3);cases h
  · rw [h2] at h
    cases o with
    | lst ds=>obtain ⟨ws,rfl,_⟩:=h3;cases h
    | dK kvs=>obtain ⟨ws,rfl,_⟩:=h3;cases h
    | ins C fs=>obtain ⟨ws,⟨dx,rfl⟩,_⟩:=h3;cases h
    | exc C=>cases (show _=_ from h3);cases h
theorem zfv (ok:Ok K W) (s:Step W W') {a:Addr} {vs:List V} (h:SqT K W.H a vs):SqT K W'.H a vs:=by
  rcases h with h | h
  · exact .inl (zn9 s (ok.notup h) h)
  · exact .inr h
theorem Ok.nofrz (ok:Ok K W) {a:Addr} {u:HO} {q:Obj} (h:W.H a=some (.frz q u)):¬ RL W a:=fun ⟨k,o,hk,ha⟩=>by
  obtain ⟨a',ho,h1,h2,h3⟩:=ok.at_ k o hk
  rw [ha] at h1
  cases h1
  rw [h2] at h
  cases o with
  | lst ds=>obtain ⟨ws,rfl,_⟩:=h3;cases h
  | dK kvs=>obtain ⟨ws,rfl,_⟩:=h3;cases h
  | ins C fs=>obtain ⟨ws,⟨dx,rfl⟩,_⟩:=h3;cases h
  | exc C=>cases (show _=_ from h3);cases h
theorem zg3 (ok:Ok K W) (s:Step W W') {a:Addr} {vs:List V} (h:SqF K W.H a vs):SqF K W'.H a vs:=by
  rcases h with ⟨o,h⟩ | h
  · exact .inl ⟨o,s.keep _ _ h (ok.nofrz h)⟩
  · exact .inr h
mutual
theorem DR.step (ok:Ok K W) (s:Step W W'):∀ {d:D} {v:V},DR K W d v→DR K W' d v
  | _,_,.non=>.non
  | _,_,.bl b=>.bl b
  | _,_,.int i=>.int i
  | _,_,.str x=>.str x
  | _,_,.ref h=>.ref (s.ρ _ _ h)
  | _,_,.lst r n h=>.lst (s.keep _ _ r (fun z=>n (.inl z))) (s.nLive r n) (DRs.step ok s h)
  | _,_,.scr r h=>.scr (zg3 ok s r) (DRs.step ok s h)
  | _,_,.tup r h=>.tup (s.keep _ _ r (ok.notup (.inl r))) (DRs.step ok s h)
  | _,_,.gt r h=>.gt (zfv ok s r) (DRs.step ok s h)
theorem DRs.step (ok:Ok K W) (s:Step W W'):∀ {ds:List D} {vs:List V},DRs K W ds vs→DRs K W' ds vs
  | _,_,.nil=>.nil
  | _,_,.cons h t=>.cons (h.step ok s) (DRs.step ok s t)
end
theorem KR.step (ok:Ok K W) (s:Step W W') {kvs:List (Key×D)} {vs:List (Key×V)} (h:KR K W kvs vs):KR K W' kvs vs:=Paired.mapP h fun _ _ ⟨e,q⟩=>⟨e,q.step ok s⟩
theorem FR.step (ok:Ok K W) (s:Step W W') {kvs:List (Str×D)} {vs:List (Str×V)} (h:FR K W kvs vs):FR K W' kvs vs:=Paired.mapP h fun _ _ ⟨e,q⟩=>⟨e,q.step ok s⟩
theorem OR.step (ok:Ok K W) (s:Step W W') {a:Addr} {o:O} {ho:HO} (h:OR K W a o ho):OR K W' a o ho:=by
  cases o with
  | lst ds=>obtain ⟨vs,e,q⟩:=h;exact ⟨vs,e,q.step ok s⟩
  | dK kvs=>obtain ⟨vs,e,q⟩:=h;exact ⟨vs,e,q.step ok s⟩
  | ins C fs=>obtain ⟨vs,e,q⟩:=h;exact ⟨vs,e,q.step ok s⟩
  | exc C=>exact h
theorem EnvR.step (e:EnvR K W Γ σ) (ok:Ok K W) (s:Step W W'):EnvR K W' Γ σ:=⟨e.len,fun i d h=>let ⟨v,a,b⟩:=e.at_ i d h;⟨v,a,b.step ok s⟩⟩
theorem DRs.length:∀ {ds:List D} {vs:List V},DRs K W ds vs→ds.length=vs.length
  | _,_,.nil=>rfl
  | _,_,.cons _ t=>by simp [t.length]
theorem DRs.get:∀ {ds:List D} {vs:List V} {i:Nat} {d:D},DRs K W ds vs→ds[i]?=some d→∃ v,vs[i]?=some v∧DR K W d v
  | _,_,_,_,.nil,e=>by simp at e
  | _,_,0,_,.cons h _,e=>by simp at e;subst e;exact ⟨_,rfl,h⟩
  | _,_,i+1,d,.cons _ t,e=>by
    refine bq fun bG=>?_
    obtain ⟨v,h1,h2⟩:=DRs.get (i:=i) (d:=d) t (by simpa using e)
    exact bG (⟨v,by simpa using h1,h2⟩)
theorem DRs.append:∀ {ds es:List D} {vs us:List V},DRs K W ds vs→DRs K W es us→DRs K W (ds++es) (vs++us)
  | _,_,_,_,.nil,s=>s
  | _,_,_,_,.cons h t,s=>.cons h (DRs.append t s)
theorem DRs.take:∀ {ds:List D} {vs:List V} (n:Nat),DRs K W ds vs→DRs K W (ds.take n) (vs.take n)
  | _,_,0,_=>.nil
  | _,_,_+1,.nil=>.nil
  | _,_,n+1,.cons r t=>.cons r (DRs.take n t)
theorem DRs.drop:∀ {ds:List D} {vs:List V} (n:Nat),DRs K W ds vs→DRs K W (ds.drop n) (vs.drop n)
  | _,_,0,r=>r
  | _,_,_+1,.nil=>.nil
  | _,_,n+1,.cons _ t=>DRs.drop n t
theorem DRs.set {d:D} {v:V} (r:DR K W d v):∀ {ds:List D} {vs:List V} (i:Nat),DRs K W ds vs→DRs K W (ds.set i d) (vs.set i v)
  | _,_,_,.nil=>.nil
  | _,_,0,.cons _ t=>.cons r t
  | _,_,i+1,.cons q t=>.cons q (DRs.set r i t)
theorem DRs.rep {ds:List D} {vs:List V} (h:DRs K W ds vs):∀ n,DRs K W (List.replicate n ds).flatten (List.replicate n vs).flatten
  | 0=>.nil
  | n+1=>by simp only [List.replicate_succ,List.flatten_cons];exact h.append (DRs.rep h n)
end
section
variable {K:PySem.W.Frag} {W:Wd}
noncomputable def Wd.lay (W:Wd) (p:Addr) (o:HO):Wd:={ W with H:=upd W.H p o }
theorem zhx (ok:Ok K W) {p:Addr} (h:W.H p=none):¬ RL W p:=fun ⟨k,o,_,ha⟩=>ok.rs p (List.mem_of_getElem? ha) h
theorem z8r (ok:Ok K W) {p:Addr} (h:W.H p=none):¬ W.hid p:=fun z=>(ok.hd p z).1 h
theorem zcq (ok:Ok K W) {p:Addr} (h:W.H p=none):¬ zso W p:=fun z=>z.elim (zhx ok h) (z8r ok h)
theorem z0m {p:Addr} {o:HO} (h:W.H p=none):Step W (W.lay p o) where
  ρ _ _ h:=h
  live _ h:=.inl h
  keep a u e _:=by show upd W.H p o a=_;rw [z0h (z0o e h)];exact e
  hid:=rfl
  still a n:=by
    show upd W.H p o a≠none
    by_cases e:a=p
    · subst e;rw [z0k];simp
    · rw [z0h e];exact n
theorem z1v (ok:Ok K W) {p:Addr} {o:HO} (h:W.H p=none):Ok K (W.lay p o) where
  len:=ok.len
  nd:=ok.nd
  rs a m:=(z0m h).still a (ok.rs a m)
  at_ k u e:=by
    refine bq fun bG=>?_
    obtain ⟨a,ho,h1,h2,h3⟩:=ok.at_ k u e
    refine bG (⟨a,ho,h1,?_,h3.step ok (z0m h)⟩)
    show upd W.H p o a=_
    rw [z0h (z0o h2 h)];exact h2
  hd0 a z:=⟨(z0m h).still a (ok.hd a z).1,(ok.hd0 a z).2⟩
theorem zh2 (ok:Ok K W) {p:Addr} {o:HO} (h:W.H p=none):¬ zso (W.lay p o) p:=zcq ok h
theorem z64 (ok:Ok K W) {p:Addr} {ds:List D} {vs:List V} (h:W.H p=none) (r:DRs K W ds vs):DR K (W.lay p (.lst vs)) (.lst ds) (.ref p) :=
  .lst z0k (zh2 ok h) (r.step ok (z0m h))
theorem zb5 (ok:Ok K W) {p:Addr} {ds:List D} {vs:List V} (h:W.H p=none) (r:DRs K W ds vs):DR K (W.lay p (.tup vs)) (.tup ds) (.ref p) :=
  .tup z0k (r.step ok (z0m h))
noncomputable def Wd.new (W:Wd) (p:Addr) (o:HO) (x:O):Wd:={ W with H:=upd W.H p o,ρ:=W.ρ++[p],μ:=W.μ++[some x] }
theorem z6n {α:Type} {l:List α} {x y:α} {k:Nat} (h:(l++[x])[k]?=some y):l[k]?=some y∨(k=l.length∧y=x):=by
  by_cases hk:k<l.length
  · rw [List.getElem?_append_left hk] at h;exact .inl h
  · rw [List.getElem?_append_right (by omega)] at h
    have:k - l.length=0:=by
      cases e:k - l.length with
      | zero=>rfl
      | succ n=>rw [e] at h;simp at h
    rw [this] at h
    simp at h
    exact .inr ⟨by omega,h.symm⟩
theorem zq3 (ok:Ok K W) {p a:Addr} {o:HO} {x:O} (h:RL (W.new p o x) a):RL W a∨a=p:=by
  obtain ⟨k,u,h1,h2⟩:=h
  rcases z6n h1 with z | ⟨e,_⟩
  · rcases z6n h2 with y | ⟨e,y⟩
    · exact .inl ⟨k,u,z,y⟩
    · have:=(List.getElem?_eq_some_iff.mp z).1
      rw [e,ok.len] at this
      omega
  · rcases z6n h2 with y | ⟨_,y⟩
    · have:=(List.getElem?_eq_some_iff.mp y).1
      rw [e,← ok.len] at this
      omega
    · exact .inr y
theorem z27 (ok:Ok K W) {p:Addr} {o:HO} {x:O} (h:W.H p=none):Step W (W.new p o x) where
  ρ k a e:=by
    show (W.ρ++[p])[k]?=_
    rw [List.getElem?_append_left (List.getElem?_eq_some_iff.mp e).1];exact e
  live a z:=by
    rcases zq3 ok z with z | rfl
    · exact .inl z
    · exact .inr h
  keep a u e _:=by show upd W.H p o a=_;rw [z0h (z0o e h)];exact e
  hid:=rfl
  still a n:=by
    show upd W.H p o a≠none
    by_cases e:a=p
    · subst e;rw [z0k];simp
    · rw [z0h e];exact n
theorem zam (ok:Ok K W) {p:Addr} {o:HO} {x:O} (h:W.H p=none) (r:OR K W p x o):Ok K (W.new p o x) where
  len:=by show (W.ρ++[p]).length=(W.μ++[some x]).length;simp [ok.len]
  nd:=by
    show (W.ρ++[p]).Nodup
    rw [List.nodup_append]
    refine ⟨ok.nd,by simp,fun a ha b hb e=>?_⟩
    simp at hb
    subst hb e
    exact ok.rs _ ha h
  rs a m:=by
    rcases List.mem_append.mp m with m | m
    · exact (z27 ok h).still a (ok.rs a m)
    · simp at m
      subst m
      show upd W.H a o a≠none
      rw [z0k];simp
  at_ k u e:=by
    rcases z6n e with e | ⟨e,y⟩
    · obtain ⟨a,ho,h1,h2,h3⟩:=ok.at_ k u e
      refine ⟨a,ho,(z27 ok h).ρ k a h1,?_,h3.step ok (z27 ok h)⟩
      show upd W.H p o a=_
      rw [z0h (z0o h2 h)];exact h2
    · cases y
      rename_i hk
      refine ⟨p,o,?_,z0k,r.step ok (z27 ok h)⟩
      show (W.ρ++[p])[k]?=_
      rw [hk,← ok.len];simp
  hd0 a z:=by
    refine ⟨(z27 ok h).still a (ok.hd a z).1,fun q=>?_⟩
    have q:a∈W.ρ++[p]:=q
    rcases List.mem_append.mp q with q | q
    · exact (ok.hd0 a z).2 q
    · simp at q
      subst q
      exact (ok.hd a z).1 h
theorem zb6 (ok:Ok K W) {p:Addr} {o:HO} {x:O}:DR K (W.new p o x) (.ref W.μ.length) (.ref p):=by
  refine .ref ?_
  show (W.ρ++[p])[W.μ.length]?=_
  rw [← ok.len];simp
noncomputable def Wd.put (W:Wd) (k:Nat) (a:Addr) (o:HO) (x:O):Wd:={ W with H:=upd W.H a o,μ:=W.μ.set k (some x) }
theorem zq2 {k:Nat} {a b:Addr} {o:HO} {x y:O} (hk:W.μ[k]?=some (some y)):RL (W.put k a o x) b↔RL W b:=by
  have hlt:=(List.getElem?_eq_some_iff.mp hk).1
  constructor
  · rintro ⟨j,u,h1,h2⟩
    have h1:(W.μ.set k (some x))[j]?=some (some u):=h1
    by_cases e:j=k
    · subst e;exact ⟨j,y,hk,h2⟩
    · rw [List.getElem?_set_ne (Ne.symm e)] at h1;exact ⟨j,u,h1,h2⟩
  · rintro ⟨j,u,h1,h2⟩
    by_cases e:j=k
    · subst e;exact ⟨j,x,by show (W.μ.set j (some x))[j]?=_;simp [hlt],h2⟩
    · exact ⟨j,u,by show (W.μ.set k (some x))[j]?=_;rw [List.getElem?_set_ne (Ne.symm e)];exact h1,h2⟩
theorem z4a {k:Nat} {a:Addr} {o:HO} {x y:O} (hk:W.μ[k]?=some (some y)) (ha:W.ρ[k]?=some a):Step W (W.put k a o x) where
  ρ _ _ h:=h
  live b z:=.inl ((zq2 hk).mp z)
  keep b u e n:=by
    have hne:b≠a:=fun z=>n (by rw [z];exact ⟨k,y,hk,ha⟩)
    show upd W.H a o b=_
    rw [z0h hne];exact e
  hid:=rfl
  still b n:=by
    show upd W.H a o b≠none
    by_cases e:b=a
    · subst e;rw [z0k];simp
    · rw [z0h e];exact n
theorem zm5 (ok:Ok K W) {k:Nat} {a:Addr} {o:HO} {x y:O} (hk:W.μ[k]?=some (some y)) (ha:W.ρ[k]?=some a) (r:OR K W a x o):Ok K (W.put k a o x) where
  len:=by show W.ρ.length=(W.μ.set k (some x)).length;simp [ok.len]
  nd:=ok.nd
  rs b m:=(z4a hk ha).still b (ok.rs b m)
  at_ j u e:=by
    have e:(W.μ.set k (some x))[j]?=some (some u):=e
    by_cases z:j=k
    · subst z
      have hlt:=(List.getElem?_eq_some_iff.mp hk).1
      simp [hlt] at e
      subst e
      exact ⟨a,o,ha,z0k,r.step ok (z4a hk ha)⟩
    · rw [List.getElem?_set_ne (Ne.symm z)] at e
      refine bq fun bG=>?_
      obtain ⟨b,ho,h1,h2,h3⟩:=ok.at_ j u e
      refine bG (⟨b,ho,h1,?_,h3.step ok (z4a hk ha)⟩)
      have hne:b≠a:=fun q=>z (zkh ok.nd h1 (by rw [q];exact ha))
      show upd W.H a o b=_
      rw [z0h hne];exact h2
  hd0 b z:=⟨(z4a hk ha).still b (ok.hd b z).1,(ok.hd0 b z).2⟩
noncomputable def Wd.hide (W:Wd) (p:Addr) (o:HO):Wd:={ W with H:=upd W.H p o,hid:=fun a=>a=p∨W.hid a }
end
noncomputable abbrev EV:=G→M→Option (D×M)
noncomputable abbrev BV:=G→M→Option (Bool×M)
noncomputable abbrev LV:=G→M→Option (List D×M)
inductive Out where
  | nx | bk | ct | rt (d:D)
noncomputable abbrev SV:=G→M→Option (Out×G×M)
section
variable (K:PySem.W.Frag)
def tD (ev:EV):TE:=fun σ H Q=>∃ (W:Wd) (Γ:G) (d:D) (μ':M),W.H=H∧Ok K W∧EnvR K W Γ σ∧ev Γ W.μ=some (d,μ')∧∀ v W',W'.μ=μ'→Ok K W'→Step W W'→DR K W' d v→Q v W'.H
def tDB (ev:BV):TT:=fun σ H Q=>∃ (W:Wd) (Γ:G) (b:Bool) (μ':M),W.H=H∧Ok K W∧EnvR K W Γ σ∧ev Γ W.μ=some (b,μ')∧∀ W',W'.μ=μ'→Ok K W'→Step W W'→Q b W'.H
def tDL (ev:LV):TA:=fun σ H Q=>∃ (W:Wd) (Γ:G) (ds:List D) (μ':M),W.H=H∧Ok K W∧EnvR K W Γ σ∧ev Γ W.μ=some (ds,μ')∧∀ vs W',W'.μ=μ'→Ok K W'→Step W W'→DRs K W' ds vs→Q vs W'.H
def fin (D:Ends) (W':Wd) (σ':St):Out→Prop
  | .nx=>D.nx σ' W'.H
  | .bk=>D.bk σ' W'.H
  | .ct=>D.ct σ' W'.H
  | .rt d=>∀ v,DR K W' d v→D.rt v W'.H
def tDS (es:SV):TS:=fun D σ H=>∃ (W:Wd) (Γ:G) (out:Out) (Γ':G) (μ':M),W.H=H∧Ok K W∧EnvR K W Γ σ∧es Γ W.μ=some (out,Γ',μ')∧∀ W' σ',W'.μ=μ'→Ok K W'→Step W W'→EnvR K W' Γ' σ'→fin K D W' σ' out
end
section
variable {X:Cx} {e:Expr}
theorem z0l {t t':TE} (h:PE X e t) (hi:∀ σ H Q,t' σ H Q→t σ H Q):PE X e t':=fun pins s σ H Q I hw=>h pins s σ H Q I (hi _ _ _ hw)
theorem z7w {t t':TT} (h:PT X e t) (hi:∀ σ H Q,t' σ H Q→t σ H Q):PT X e t':=fun pins s σ H Q I hw=>h pins s σ H Q I (hi _ _ _ hw)
theorem zmh {t t':TT} (h:PW X e t) (hi:∀ σ H Q,t' σ H Q→t σ H Q):PW X e t':=fun wh pins s σ H Q I hw=>h wh pins s σ H Q I (hi _ _ _ hw)
theorem zed {es:List Expr} {t t':TA} (h:PA X es t) (hi:∀ σ H Q,t' σ H Q→t σ H Q):PA X es t':=fun pos pins s σ H Q I hw=>h pos pins s σ H Q I (hi _ _ _ hw)
theorem z2j {st:Stmt} {t t':TS} (h:PS X st t) (hi:∀ D σ H,t' D σ H→t D σ H):PS X st t':=fun pins s σ H D I hw=>h pins s σ H D I (hi _ _ _ hw)
theorem z7x {st:List Stmt} {t t':TS} (h:PSs X st t) (hi:∀ D σ H,t' D σ H→t D σ H):PSs X st t':=fun pins s σ H D I hw=>h pins s σ H D I (hi _ _ _ hw)
end
theorem bnd {α β:Type} {x:Option α} {f:α→Option β} {b:β} (h:x.bind f=some b):∃ a,x=some a∧f a=some b:=Option.bind_eq_some_iff.mp h
theorem el4 {α:Type} {p:Wd→Prop} {q:Wd→G→Prop} {r s:Wd→G→α→M→Prop} {Z:Prop} {H:Hp} (h:∃ (W:Wd) (Γ:G) (d:α) (μ':M),W.H=H∧p W∧q W Γ∧r W Γ d μ'∧s W Γ d μ') (k:∀ W Γ d μ',W.H=H→p W→q W Γ→r W Γ d μ'→s W Γ d μ'→Z):Z:=by
  refine bq fun bG=>?_
  obtain ⟨W,Γ,d,μ',rfl,a,b,c,e⟩:=h
  exact bG (k W Γ d μ' rfl a b c e)
theorem el5 {α β:Type} {p:Wd→Prop} {q:Wd→G→Prop} {r s:Wd→G→α→β→M→Prop} {Z:Prop} {H:Hp} (h:∃ (W:Wd) (Γ:G) (d:α) (b:β) (μ':M),W.H=H∧p W∧q W Γ∧r W Γ d b μ'∧s W Γ d b μ') (k:∀ W Γ d b μ',W.H=H→p W→q W Γ→r W Γ d b μ'→s W Γ d b μ'→Z):Z:=by
  refine bq fun bG=>?_
  obtain ⟨W,Γ,d,x,μ',rfl,a,b,c,e⟩:=h
  exact bG (k W Γ d x μ' rfl a b c e)
theorem z05 {α β:Type} {x:Option α} {f:α→Option β} {b:β} {Z:Prop} (h:x.bind f=some b) (k:∀ a,x=some a→f a=some b→Z):Z:=by
  refine bq fun bG=>?_
  obtain ⟨a,h1,h2⟩:=bnd h
  exact bG (k a h1 h2)
noncomputable def z2h (μ:M):D→Option (List D)
  | .lst ds=>some ds
  | .scr ds=>some ds
  | .ref k=>match μ[k]? with
    | some (some (.lst ds))=>some ds
    | _=>none
  | _=>none
noncomputable def zeg (μ:M):D→Option (List D)
  | .lst ds=>some ds
  | .ref k=>match μ[k]? with
    | some (some (.lst ds))=>some ds
    | _=>none
  | _=>none
noncomputable def zlo:D→Option (List D)
  | .tup ds=>some ds
  | .gt ds=>some ds
  | _=>none
section
variable {K:PySem.W.Frag} {W:Wd} {d:D} {ds:List D} {v:V}
theorem z72 (ok:Ok K W) {k:Nat} (h:W.μ[k]?=some (some (.lst ds))) (r:DR K W (.ref k) v):∃ a vs,v=.ref a∧W.ρ[k]?=some a∧W.H a=some (.lst vs)∧DRs K W ds vs:=by
  cases r with
  | ref ha =>
    refine bq fun bG=>?_
    obtain ⟨a',ho,h1,h2,vs,rfl,r⟩:=ok.at_ k _ h
    rw [ha] at h1
    cases h1
    exact bG (⟨_,vs,rfl,ha,h2,r⟩)
theorem z6s (ok:Ok K W) (h:zeg W.μ d=some ds) (r:DR K W d v):∃ a vs,v=.ref a∧W.H a=some (.lst vs)∧DRs K W ds vs:=by
  cases d with
  | lst xs =>
    cases h
    cases r with
    | lst r n h=>exact ⟨_,_,rfl,r,h⟩
  | ref k =>
    simp only [zeg] at h
    split at h
    · rename_i xs hk
      cases h
      refine bq fun bG=>?_
      obtain ⟨a,vs,e,_,e2,e3⟩:=z72 ok hk r
      exact bG (⟨a,vs,e,e2,e3⟩)
    · cases h
  | _=>cases h
theorem z2x (ok:Ok K W) (h:z2h W.μ d=some ds) (r:DR K W d v):∃ a vs,v=.ref a∧SqL K W.H a vs∧DRs K W ds vs:=by
  cases d with
  | lst xs =>
    cases h
    cases r with
    | lst r n h=>exact ⟨_,_,rfl,SqL.of r,h⟩
  | scr xs =>
    cases h
    cases r with
    | scr r h=>exact ⟨_,_,rfl,r.seq,h⟩
  | ref k =>
    simp only [z2h] at h
    split at h
    · rename_i xs hk
      cases h
      refine bq fun bG=>?_
      obtain ⟨a,vs,e,_,e2,e3⟩:=z72 ok hk r
      exact bG (⟨a,vs,e,SqL.of e2,e3⟩)
    · cases h
  | _=>cases h
theorem z4u (h:zlo d=some ds) (r:DR K W d v):∃ a vs,v=.ref a∧SqT K W.H a vs∧DRs K W ds vs:=by
  cases d with
  | tup xs =>
    cases h
    cases r with
    | tup r h=>exact ⟨_,_,rfl,SqT.of r,h⟩
  | gt xs =>
    cases h
    cases r with
    | gt r h=>exact ⟨_,_,rfl,r,h⟩
  | _=>cases h
theorem zin {vs:List V} {i:Int} (r:DRs K W ds vs) (h:atI ds i=some d):∃ v,atI vs i=some v∧DR K W d v:=by
  unfold atI at h ⊢
  refine z05 h fun j h1 h2=>?_
  rw [r.length] at h1
  obtain ⟨v,e,q⟩:=r.get h2
  exact ⟨v,by rw [h1];exact e,q⟩
end
noncomputable def z01 (i:Nat):EV:=fun Γ μ=>match Γ[i]? with
  | some (some d)=>some (d,μ)
  | _=>none
noncomputable def vC (d:D):EV:=fun _ μ=>some (d,μ)
noncomputable def v2 (f:D→D→M→Option (D×M)) (ea eb:EV):EV:=fun Γ μ=>(ea Γ μ).bind fun p=>(eb Γ p.2).bind fun q=>f p.1 q.1 q.2
noncomputable def v1 (f:D→M→Option (D×M)) (ea:EV):EV:=fun Γ μ=>(ea Γ μ).bind fun p=>f p.1 p.2
def R2A (K:PySem.W.Frag) (r:R2) (f:D→D→M→Option (D×M)):Prop:=∀ (W:Wd) (x y:V) (d e z:D) (μ':M) (Q:VK),Ok K W→DR K W d x→DR K W e y→f d e W.μ=some (z,μ') →
  (∀ v W',W'.μ=μ'→Ok K W'→Step W W'→DR K W' z v→Q v W'.H)→r x y W.H Q
def R1A (K:PySem.W.Frag) (r:V→Hp→VK→Prop) (f:D→M→Option (D×M)):Prop:=∀ (W:Wd) (x:V) (d z:D) (μ':M) (Q:VK),Ok K W→DR K W d x→f d W.μ=some (z,μ') →
  (∀ v W',W'.μ=μ'→Ok K W'→Step W W'→DR K W' z v→Q v W'.H)→r x W.H Q
noncomputable def vT (ev:EV):BV:=fun Γ μ=>(ev Γ μ).bind fun p=>match p.1 with
  | .bl b=>some (b,p.2)
  | _=>none
section
variable {X:Cx} {K:PySem.W.Frag} {a b c:Expr} {ea eb ec:EV} {pos:Pos}
theorem z03 (i:Nat) {x:Str} (hN:X.N[i]?=some x:=by rfl) (hv:Vis X.env.scope x:=by first | exact Or.inl rfl | exact Or.inr (Or.inl rfl) | exact Or.inr (Or.inr rfl)) (hd:(x==("__debug__" : Str))=false:=by decide)
    (hcd:(x==("__classdict__" : Str))=false:=by decide):PE X (.Name x pos) (tD K (z01 i)):=z0l (zly hN hv hd hcd) fun σ H Q h=>by
  refine el4 h fun W Γ d μ' eH ok en e q=>?_;subst eH
  unfold z01 at e
  split at e
  · rename_i d' hd
    cases e
    refine bq fun bG=>?_
    obtain ⟨v,hv,r⟩:=en.at_ i _ hd
    exact bG (⟨v,hv,q v W rfl ok .refl r⟩)
  · cases e
theorem zae {d:D} {v:V} (h:∀ W,DR K W d v):∀ σ H Q,tD K (vC d) σ H Q→tC v σ H Q:=fun σ H Q hh=>by
  refine bq fun bG=>?_
  obtain ⟨W,Γ,d,μ',rfl,ok,en,e,q⟩:=hh
  cases e
  exact bG (q v W rfl ok .refl (h W))
theorem z0q {i j}:PE X (.Constant (.int i) j pos) (tD K (vC (.int i))):=z0l zr1 (zae fun _=>.int i)
theorem zja {b j}:PE X (.Constant (.bool b) j pos) (tD K (vC (.bl b))):=z0l ztv (zae fun _=>.bl b)
theorem zmn {j}:PE X (.Constant .none j pos) (tD K (vC .non)):=z0l zr0 (zae fun _=>.non)
theorem z8w {x j}:PE X (.Constant (.str x) j pos) (tD K (vC (.str x))):=z0l zlz (zae fun _=>.str x)
theorem zfm {x:Str} {d:D} {v:V} {u:Value} (hm:X.mg x=some u) (r:RelV v u) (h:∀ W,DR K W d v) (hg:Gl X x:=by rfl) (hd:(x==("__debug__" : Str))=false:=by decide):PE X (.Name x pos) (tD K (vC d)):=z0l (z3m hg hm r hd) (zae h)
theorem z8h {r:R2} {f:D→D→M→Option (D×M)} (ra:R2A K r f):∀ σ H Q,tD K (v2 f ea eb) σ H Q→tOp r (tD K ea) (tD K eb) σ H Q:=fun σ H Q h=>by
  refine el4 h fun W Γ d μ' eH ok en e q=>?_;subst eH
  refine z05 e fun p1 e1 e=>?_
  refine z05 e fun p2 e2 e=>?_
  refine ⟨W,Γ,p1.1,p1.2,rfl,ok,en,e1,fun x W1 hμ ok1 s1 r1=>⟨W1,Γ,p2.1,p2.2,rfl,ok1,en.step ok s1,by rw [hμ];exact e2,fun y W2 hμ2 ok2 s2 r2=>?_⟩⟩
  exact ra W2 x y _ _ _ _ Q ok2 (r1.step ok1 s2) r2 (by rw [hμ2];exact e) fun v W3 hμ3 ok3 s3 r3=>q v W3 hμ3 ok3 ((s1.trans s2).trans s3) r3
theorem z2v {r:V→Hp→VK→Prop} {f:D→M→Option (D×M)} (ra:R1A K r f):∀ σ H Q,tD K (v1 f ea) σ H Q→(fun σ H Q=>tD K ea σ H fun x H1=>r x H1 Q:TE) σ H Q:=fun σ H Q h=>by
  refine el4 h fun W Γ d μ' eH ok en e q=>?_;subst eH
  refine z05 e fun p1 e1 e=>?_
  refine ⟨W,Γ,p1.1,p1.2,rfl,ok,en,e1,fun x W1 hμ ok1 s1 r1=>?_⟩
  exact ra W1 x _ _ _ Q ok1 r1 (by rw [hμ];exact e) fun v W3 hμ3 ok3 s3 r3=>q v W3 hμ3 ok3 (s1.trans s3) r3
theorem zp6 {op:Operator} {r:R2} {f:D→D→M→Option (D×M)} (ho:OpR X (binaryOp op) r) (ra:R2A K r f) (ha:PE X a (tD K ea)) (hb:PE X b (tD K eb)):PE X (.BinOp a op b pos) (tD K (v2 f ea eb)):=z0l (ztt ho ha hb) (z8h ra)
theorem zj9 {op:CmpOp} {r:R2} {f:D→D→M→Option (D×M)} (ho:OpR X (compareOp op) r) (ra:R2A K r f) (ha:PE X a (tD K ea)) (hb:PE X b (tD K eb)) (hm:behindInMarks op b=false):PE X (.Compare a [op] [b] pos) (tD K (v2 f ea eb)):=z0l (znu ho ha hb hm) (z8h ra)
theorem zlk {t:TE} (h:∀ σ H Q,tD K ea σ H Q→t σ H Q):∀ σ H Q,tDB K (vT ea) σ H Q→zn2 t σ H Q:=fun σ H Q hh=>by
  refine bq fun bG=>?_
  obtain ⟨W,Γ,k,μ',rfl,ok,en,e,q⟩:=hh
  refine z05 e fun p1 e1 e=>?_
  refine bG (h σ _ _ ⟨W,Γ,p1.1,p1.2,rfl,ok,en,e1,fun x W1 hμ ok1 s1 r1=>?_⟩)
  split at e
  · rename_i k' hk
    cases e
    rw [hk] at r1
    cases r1
    exact ⟨_,rfl,q W1 hμ ok1 s1⟩
  · cases e
theorem zaa {op:CmpOp} {r:R2} {f:D→D→M→Option (D×M)} (ho:OpR X (compareOp op) r) (ra:R2A K r f) (ha:PE X a (tD K ea)) (hb:PE X b (tD K eb)) (hm:behindInMarks op b=false):PT X (.Compare a [op] [b] pos) (tDB K (vT (v2 f ea eb))):=z7w (znh ho ha hb hm) (zlk (z8h ra))
end
noncomputable def fI0 (g:Int→Int→D):D→D→M→Option (D×M)
  | .int i,.int j,μ=>some (g i j,μ)
  | _,_,_=>none
noncomputable def fI (C:Int→Int→Prop) [∀ i j,Decidable (C i j)] (g:Int→Int→D):D→D→M→Option (D×M)
  | .int i,.int j,μ=>if C i j then some (g i j,μ) else none
  | _,_,_=>none
section
variable {K:PySem.W.Frag}
theorem z96 {g:Int→Int→V} {h:Int→Int→D} (hh:∀ W i j,DR K W (h i j) (g i j)):R2A K (rI0 g) (fI0 h):=by
  intro W x y d e z μ' Q ok r1 r2 hf q
  unfold fI0 at hf
  split at hf
  · cases hf;cases r1;cases r2;exact ⟨_,_,rfl,rfl,q _ W rfl ok .refl (hh W _ _)⟩
  · cases hf
theorem zss {C:Int→Int→Prop} [∀ i j,Decidable (C i j)] {g:Int→Int→V} {h:Int→Int→D} (hh:∀ W i j,DR K W (h i j) (g i j)):R2A K (rI C g) (fI C h):=by
  intro W x y d e z μ' Q ok r1 r2 hf q
  unfold fI at hf
  split at hf
  · split at hf
    · rename_i hc;cases hf;cases r1;cases r2;exact ⟨_,_,rfl,rfl,hc,q _ W rfl ok .refl (hh W _ _)⟩
    · cases hf
  · cases hf
end
noncomputable instance {i j:Int}:Decidable (CMul i j):=by unfold CMul;infer_instance
noncomputable instance {i j:Int}:Decidable (zsp i j):=by unfold zsp;infer_instance
def zbn (_ j:Int):Prop:=0<j∧j<2 ^ 200
def za4 (_ j:Int):Prop:=0<j
noncomputable instance {i j:Int}:Decidable (zbn i j):=by unfold zbn;infer_instance
noncomputable instance {i j:Int}:Decidable (za4 i j):=by unfold za4;infer_instance
section
variable {X:Cx} {K:PySem.W.Frag} {a b c:Expr} {ea eb ec:EV} {pos:Pos}
noncomputable abbrev zpa:=fI0 fun i j=>.int (i - j)
noncomputable abbrev zvk:=fI CMul fun i j=>.int (i*j)
noncomputable abbrev zua:=fI zbn fun i j=>.int (i / j)
noncomputable abbrev zhz:=fI za4 fun i j=>.int (i % j)
noncomputable abbrev zuv:=fI zsp fun i j=>.int (i ^ j.toNat)
noncomputable abbrev fLt:=fI0 fun i j=>.bl (decide (i<j))
noncomputable abbrev fLe:=fI0 fun i j=>.bl (decide (i≤j))
noncomputable abbrev fGt:=fI0 fun i j=>.bl (decide (j<i))
theorem zpi (ha:PE X a (tD K ea)) (hb:PE X b (tD K eb)):PE X (.BinOp a .Sub b pos) (tD K (v2 zpa ea eb)):=zp6 zr5 (z96 fun _ _ _=>.int _) ha hb
theorem zlg (ha:PE X a (tD K ea)) (hb:PE X b (tD K eb)):PE X (.BinOp a .FloorDiv b pos) (tD K (v2 zua ea eb)):=zp6 zkf (zss (C:=zbn) fun _ _ _=>.int _) ha hb
theorem za7 (ha:PE X a (tD K ea)) (hb:PE X b (tD K eb)):PE X (.BinOp a .Mod b pos) (tD K (v2 zhz ea eb)):=zp6 zr8 (zss (C:=za4) fun _ _ _=>.int _) ha hb
theorem zt7 (ha:PE X a (tD K ea)) (hb:PE X b (tD K eb)):PE X (.BinOp a .Pow b pos) (tD K (v2 zuv ea eb)):=zp6 zr7 (zss fun _ _ _=>.int _) ha hb
theorem zuk (ha:PE X a (tD K ea)) (hb:PE X b (tD K eb)):PE X (.Compare a [.Gt] [b] pos) (tD K (v2 fGt ea eb)):=zj9 zrc (z96 fun _ _ _=>.bl _) ha hb (z60 _)
theorem zmo (ha:PE X a (tD K ea)) (hb:PE X b (tD K eb)):PT X (.Compare a [.Lt] [b] pos) (tDB K (vT (v2 fLt ea eb))):=zaa zny (z96 fun _ _ _=>.bl _) ha hb (z60 _)
theorem zpm (ha:PE X a (tD K ea)) (hb:PE X b (tD K eb)):PT X (.Compare a [.Gt] [b] pos) (tDB K (vT (v2 fGt ea eb))):=zaa zrc (z96 fun _ _ _=>.bl _) ha hb (z60 _)
noncomputable def zof:D→M→Option (D×M)
  | .int i,μ=>some (.int (-i),μ)
  | _,_=>none
theorem zt8 (ha:PE X a (tD K ea)):PE X (.UnaryOp .USub a pos) (tD K (v1 zof ea)):=z0l (ztr zpp ha) (z2v (by
  intro W x d z μ' Q ok r1 hf q
  unfold zof at hf
  split at hf
  · cases hf;cases r1;exact ⟨_,rfl,q _ W rfl ok .refl (.int _)⟩
  · cases hf))
noncomputable def zim (t u:BV):BV:=fun Γ μ=>(t Γ μ).bind fun p=>if p.1=true then u Γ p.2 else some (false,p.2)
noncomputable def bOr (t u:BV):BV:=fun Γ μ=>(t Γ μ).bind fun p=>if p.1=true then some (true,p.2) else u Γ p.2
noncomputable def zfd (t:BV):BV:=fun Γ μ=>(t Γ μ).bind fun p=>some (!p.1,p.2)
variable {ba bb:BV} {z1y:List Expr}
theorem zl7:∀ σ H Q,tDB K (zim ba bb) σ H Q→zum (tDB K ba) (tDB K bb) σ H Q:=fun σ H Q h=>by
  refine el4 h fun W Γ k μ' eH ok en e q=>?_;subst eH
  refine z05 e fun p1 e1 e=>?_
  refine ⟨W,Γ,p1.1,p1.2,rfl,ok,en,e1,fun W1 hμ ok1 s1=>?_⟩
  split at e
  · rename_i hp;rw [if_pos hp];exact ⟨W1,Γ,k,μ',rfl,ok1,en.step ok s1,by rw [hμ];exact e,fun W2 hμ2 ok2 s2=>q W2 hμ2 ok2 (s1.trans s2)⟩
  · rename_i hp;cases e;rw [if_neg hp];exact q W1 hμ ok1 s1
theorem zp1:∀ σ H Q,tDB K (bOr ba bb) σ H Q→tOr (tDB K ba) (tDB K bb) σ H Q:=fun σ H Q h=>by
  refine el4 h fun W Γ k μ' eH ok en e q=>?_;subst eH
  refine z05 e fun p1 e1 e=>?_
  refine ⟨W,Γ,p1.1,p1.2,rfl,ok,en,e1,fun W1 hμ ok1 s1=>?_⟩
  split at e
  · rename_i hp;cases e;rw [if_pos hp];exact q W1 hμ ok1 s1
  · rename_i hp;rw [if_neg hp];exact ⟨W1,Γ,k,μ',rfl,ok1,en.step ok s1,by rw [hμ];exact e,fun W2 hμ2 ok2 s2=>q W2 hμ2 ok2 (s1.trans s2)⟩
theorem zfh (ha:PT X a (tDB K ba)):PW X (.BoolOp .And [a] pos) (tDB K ba):=zng ha
theorem zd5 (ha:PT X a (tDB K ba)):PW X (.BoolOp .Or [a] pos) (tDB K ba):=zqn ha
theorem zlc (ha:PT X a (tDB K ba)) (hb:PW X (.BoolOp .And (b::z1y) pos) (tDB K bb)):PW X (.BoolOp .And (a::b::z1y) pos) (tDB K (zim ba bb)):=zmh (zqo ha hb) zl7
theorem zfg (ha:PT X a (tDB K ba)) (hb:PW X (.BoolOp .Or (b::z1y) pos) (tDB K bb)):PW X (.BoolOp .Or (a::b::z1y) pos) (tDB K (bOr ba bb)):=zmh (ztp ha hb) zp1
theorem za6 (ha:PT X a (tDB K ba)):PT X (.UnaryOp .Not a pos) (tDB K (zfd ba)):=z7w (zlu ha) fun σ H Q h=>by
  refine el4 h fun W Γ k μ' eH ok en e q=>?_;subst eH
  refine z05 e fun p1 e1 e=>?_
  cases e
  exact ⟨W,Γ,p1.1,p1.2,rfl,ok,en,e1,fun W1 hμ ok1 s1=>q W1 hμ ok1 s1⟩
noncomputable def vIf (t:BV) (ea eb:EV):EV:=fun Γ μ=>(t Γ μ).bind fun p=>if p.1=true then ea Γ p.2 else eb Γ p.2
theorem zmu (hc:PT X c (tDB K ba)) (ha:PE X a (tD K ea)) (hb:PE X b (tD K eb)):PE X (.IfExp c a b pos) (tD K (vIf ba ea eb)):=z0l (zk8 hc ha hb) fun σ H Q h=>by
  refine el4 h fun W Γ d μ' eH ok en e q=>?_;subst eH
  refine z05 e fun p1 e1 e=>?_
  refine ⟨W,Γ,p1.1,p1.2,rfl,ok,en,e1,fun W1 hμ ok1 s1=>?_⟩
  split at e
  · rename_i hp;rw [if_pos hp];exact ⟨W1,Γ,d,μ',rfl,ok1,en.step ok s1,by rw [hμ];exact e,fun v W2 hμ2 ok2 s2 r2=>q v W2 hμ2 ok2 (s1.trans s2) r2⟩
  · rename_i hp;rw [if_neg hp];exact ⟨W1,Γ,d,μ',rfl,ok1,en.step ok s1,by rw [hμ];exact e,fun v W2 hμ2 ok2 s2 r2=>q v W2 hμ2 ok2 (s1.trans s2) r2⟩
noncomputable def zmx (ea eb:EV):EV:=fun Γ μ=>(ea Γ μ).bind fun p=>match p.1 with
  | .bl true=>eb Γ p.2
  | .bl false=>some (.bl false,p.2)
  | _=>none
noncomputable def vOr (ea eb:EV):EV:=fun Γ μ=>(ea Γ μ).bind fun p=>match p.1 with
  | .bl true=>some (.bl true,p.2)
  | .bl false=>eb Γ p.2
  | _=>none
noncomputable def zf2:D→M→Option (D×M)
  | .bl b,μ=>some (.bl (!b),μ)
  | _,_=>none
theorem zj5 {op} (h:PE X a (tD K ea)):PE X (.BoolOp op [a] pos) (tD K ea):=zqy h
theorem zjc (ha:PE X a (tD K ea)) (hb:PE X (.BoolOp .And (b::z1y) pos) (tD K eb)):PE X (.BoolOp .And (a::b::z1y) pos) (tD K (zmx ea eb)):=z0l (zr4 ha hb) fun σ H Q h=>by
  refine el4 h fun W Γ d μ' eH ok en e q=>?_;subst eH
  refine z05 e fun p1 e1 e=>?_
  refine ⟨W,Γ,p1.1,p1.2,rfl,ok,en,e1,fun x W1 hμ ok1 s1 r1=>?_⟩
  split at e
  · rename_i hp;rw [hp] at r1;cases r1;exact ⟨true,rfl,zu4 ⟨W1,Γ,d,μ',rfl,ok1,en.step ok s1,by rw [hμ];exact e,fun v W2 hμ2 ok2 s2 r2=>q v W2 hμ2 ok2 (s1.trans s2) r2⟩⟩
  · rename_i hp;rw [hp] at r1;cases r1;cases e;exact ⟨false,rfl,zu5 (q _ W1 hμ ok1 s1 (.bl _))⟩
  · cases e
theorem zv0 (ha:PE X a (tD K ea)) (hb:PE X (.BoolOp .Or (b::z1y) pos) (tD K eb)):PE X (.BoolOp .Or (a::b::z1y) pos) (tD K (vOr ea eb)):=z0l (zts ha hb) fun σ H Q h=>by
  refine el4 h fun W Γ d μ' eH ok en e q=>?_;subst eH
  refine z05 e fun p1 e1 e=>?_
  refine ⟨W,Γ,p1.1,p1.2,rfl,ok,en,e1,fun x W1 hμ ok1 s1 r1=>?_⟩
  split at e
  · rename_i hp;rw [hp] at r1;cases r1;cases e;exact ⟨true,rfl,zu4 (q _ W1 hμ ok1 s1 (.bl _))⟩
  · rename_i hp;rw [hp] at r1;cases r1;exact ⟨false,rfl,zu5 ⟨W1,Γ,d,μ',rfl,ok1,en.step ok s1,by rw [hμ];exact e,fun v W2 hμ2 ok2 s2 r2=>q v W2 hμ2 ok2 (s1.trans s2) r2⟩⟩
  · cases e
theorem zmm (ha:PE X a (tD K ea)):PE X (.UnaryOp .Not a pos) (tD K (v1 zf2 ea)):=z0l (zqz ha) (z2v (by
  intro W x d z μ' Q ok r1 hf q
  unfold zf2 at hf
  split at hf
  · cases hf;cases r1;exact ⟨_,rfl,q _ W rfl ok .refl (.bl _)⟩
  · cases hf))
end
noncomputable def optAll {α β:Type} (f:α→Option β):List α→Option (List β)
  | []=>some []
  | x::r=>(f x).bind fun y=>(optAll f r).bind fun ys=>some (y::ys)
section
variable {X:Cx} {K:PySem.W.Frag} {a b c e:Expr} {ea eb ec:EV} {pos p:Pos} {es:List Expr} {el:LV}
noncomputable def z0b:LV:=fun _ μ=>some ([],μ)
noncomputable def z02 (ea:EV) (el:LV):LV:=fun Γ μ=>(ea Γ μ).bind fun p=>(el Γ p.2).bind fun q=>some (p.1::q.1,q.2)
theorem z0c:PA X [] (tDL K z0b):=zed z16 fun σ H Q h=>by
  refine el4 h fun W Γ ds μ' eH ok en e q=>?_;subst eH
  cases e
  exact q [] W rfl ok .refl .nil
theorem zhd:∀ σ H Q,tDL K (z02 ea el) σ H Q→z5m (tD K ea) (tDL K el) σ H Q:=fun σ H Q h=>by
  refine el4 h fun W Γ ds μ' eH ok en e q=>?_;subst eH
  refine z05 e fun p1 e1 e=>?_
  refine z05 e fun p2 e2 e=>?_
  cases e
  exact ⟨W,Γ,p1.1,p1.2,rfl,ok,en,e1,fun x W1 hμ ok1 s1 r1=>⟨W1,Γ,p2.1,p2.2,rfl,ok1,en.step ok s1,by rw [hμ];exact e2,fun vs W2 hμ2 ok2 s2 r2=>q _ W2 hμ2 ok2 (s1.trans s2) (.cons (r1.step ok1 s2) r2)⟩⟩
theorem z06 (ha:PE X e (tD K ea)) (hr:PA X es (tDL K el)) (hs:starEach (e::es) X.env=(false,eval e X.env)::starEach es X.env:=by rfl):PA X (e::es) (tDL K (z02 ea el)):=zed (z0n ha hr hs) zhd
def RLA (K:PySem.W.Frag) (r:List V→Hp→VK→Prop) (f:List D→M→Option (D×M)):Prop:=∀ (W:Wd) (xs:List V) (ds:List D) (z:D) (μ':M) (Q:VK),Ok K W→DRs K W ds xs→f ds W.μ=some (z,μ') →
  (∀ v W',W'.μ=μ'→Ok K W'→Step W W'→DR K W' z v→Q v W'.H)→r xs W.H Q
noncomputable def vL (f:List D→M→Option (D×M)) (el:LV):EV:=fun Γ μ=>(el Γ μ).bind fun p=>f p.1 p.2
theorem zda {r:List V→Hp→VK→Prop} {f:List D→M→Option (D×M)} (ra:RLA K r f):∀ σ H Q,tD K (vL f el) σ H Q→(fun σ H Q=>tDL K el σ H fun vs H1=>r vs H1 Q:TE) σ H Q:=fun σ H Q h=>by
  refine el4 h fun W Γ d μ' eH ok en e q=>?_;subst eH
  refine z05 e fun p1 e1 e=>?_
  exact ⟨W,Γ,p1.1,p1.2,rfl,ok,en,e1,fun vs W1 hμ ok1 s1 r1=>ra W1 vs _ _ _ Q ok1 r1 (by rw [hμ];exact e) fun v W3 hμ3 ok3 s3 r3=>q v W3 hμ3 ok3 (s1.trans s3) r3⟩
noncomputable def z3j (ds:List D) (μ:M):Option (D×M):=if ds.length≤1000 then some (.lst ds,μ) else none
noncomputable def za3 (ds:List D) (μ:M):Option (D×M):=if ds.length≤1000 then some (.tup ds,μ) else none
noncomputable def z7g (ds:List D) (μ:M):Option (D×M):=if ds.length≤1000 then some (.ref μ.length,μ++[some (.lst ds)]) else none
theorem zqd:RLA K (fun xs H1 Q=>xs.length≤sizeLine∧∀ p,H1 p=none→Q (.ref p) (upd H1 p (.lst xs))) z3j:=by
  intro W xs ds z μ' Q ok r hf q
  unfold z3j at hf
  split at hf
  · rename_i hl
    cases hf
    exact ⟨z39 (by rw [← r.length];omega),fun p hp=>q _ (W.lay p (.lst xs)) rfl (z1v ok hp) (z0m hp) (z64 ok hp r)⟩
  · cases hf
theorem zq8:RLA K (fun xs H1 Q=>xs.length≤sizeLine∧∀ p,H1 p=none→Q (.ref p) (upd H1 p (.tup xs))) za3:=by
  intro W xs ds z μ' Q ok r hf q
  unfold za3 at hf
  split at hf
  · rename_i hl
    cases hf
    exact ⟨z39 (by rw [← r.length];omega),fun p hp=>q _ (W.lay p (.tup xs)) rfl (z1v ok hp) (z0m hp) (zb5 ok hp r)⟩
  · cases hf
theorem zqa:RLA K (fun xs H1 Q=>xs.length≤sizeLine∧∀ p,H1 p=none→Q (.ref p) (upd H1 p (.lst xs))) z7g:=by
  intro W xs ds z μ' Q ok r hf q
  unfold z7g at hf
  split at hf
  · rename_i hl
    cases hf
    exact ⟨z39 (by rw [← r.length];omega),fun p hp=>q _ (W.new p (.lst xs) (.lst ds)) rfl (zam ok hp ⟨xs,rfl,r⟩) (z27 ok hp) (zb6 ok)⟩
  · cases hf
theorem z5d (h:PA X es (tDL K el)):PE X (.List es pos) (tD K (vL z3j el)):=z0l (zm0 h) (zda zqd)
theorem zef (h:PA X es (tDL K el)):PE X (.List es pos) (tD K (vL z7g el)):=z0l (zm0 h) (zda zqa)
theorem zfl {k} (h:PA X es (tDL K el)):PE X (.Tuple es k pos) (tD K (vL za3 el)):=z0l (zgy h) (zda zq8)
noncomputable def fIx (x y:D) (μ:M):Option (D×M):=match y with
  | .int i=>match z2h μ x with
    | some ds=>(atI ds i).bind fun d=>some (d,μ)
    | none=>match zlo x with
      | some ds=>(atI ds i).bind fun d=>some (d,μ)
      | none=>none
  | _=>none
theorem ztm:R2A K (rIx K) fIx:=by
  intro W x y d e z μ' Q ok r1 r2 hf q
  unfold fIx at hf
  split at hf
  · cases r2
    split at hf
    · rename_i ds hd
      refine z05 hf fun u hu hf=>?_
      cases hf
      refine bq fun bG=>?_
      obtain ⟨a,vs,rfl,hs,hv⟩:=z2x ok hd r1
      obtain ⟨v,hv1,hv2⟩:=zin hv hu
      exact bG (.inl ⟨a,vs,_,v,rfl,rfl,hs,hv1,q v W rfl ok .refl hv2⟩)
    · split at hf
      · rename_i ds hd
        refine z05 hf fun u hu hf=>?_
        cases hf
        refine bq fun bG=>?_
        obtain ⟨a,vs,rfl,hs,hv⟩:=z4u hd r1
        obtain ⟨v,hv1,hv2⟩:=zin hv hu
        exact bG (.inr (.inl ⟨a,vs,_,v,rfl,rfl,hs,hv1,q v W rfl ok .refl hv2⟩))
      · cases hf
  · cases hf
theorem z66 (ha:PE X a (tD K ea)) (hb:PE X b (tD K eb)) (hs:zis b:=by exact fun _ _=>rfl) (hK:X.K=K:=by rfl):PE X (.Subscript a b pos) (tD K (v2 fIx ea eb)):=by
  subst hK;exact z0l (ztu zru ha hb hs) (z8h ztm)
noncomputable abbrev OV:=G→M→Option (Option Int×M)
noncomputable def z5f:OV:=fun _ μ=>some (none,μ)
noncomputable def z4g (ea:EV):OV:=fun Γ μ=>(ea Γ μ).bind fun p=>match p.1 with
  | .int i=>some (some i,p.2)
  | _=>none
noncomputable def tDO (K:PySem.W.Frag) (ev:OV):TO:=fun σ H Q=>∃ (W:Wd) (Γ:G) (b:Option Int) (μ':M),W.H=H∧Ok K W∧EnvR K W Γ σ∧ev Γ W.μ=some (b,μ')∧∀ W',W'.μ=μ'→Ok K W'→Step W W'→Q b W'.H
theorem zmi {o:Option Expr} {t t':TO} (h:PO X o t) (hi:∀ σ H Q,t' σ H Q→t σ H Q):PO X o t':=fun pins s σ H Q I hw=>h pins s σ H Q I (hi _ _ _ hw)
theorem zbs:PO X none (tDO K z5f):=zmi znk fun σ H Q h=>by
  refine el4 h fun W Γ b μ' eH ok en e q=>?_;subst eH
  cases e
  exact q W rfl ok .refl
theorem zbr (h:PE X e (tD K ea)):PO X (some e) (tDO K (z4g ea)):=zmi (znj h) fun σ H Q h=>by
  refine el4 h fun W Γ b μ' eH ok en e q=>?_;subst eH
  refine z05 e fun p1 e1 e=>?_
  refine ⟨W,Γ,p1.1,p1.2,rfl,ok,en,e1,fun x W1 hμ ok1 s1 r1=>?_⟩
  split at e
  · rename_i i hi
    cases e
    rw [hi] at r1
    cases r1
    exact ⟨_,rfl,q W1 hμ ok1 s1⟩
  · cases e
noncomputable def ze6 (xs:List D) (lo hi:Option Int):List D:=(xs.drop (HT.sIx xs.length 0 lo)).take (HT.sIx xs.length xs.length hi - HT.sIx xs.length 0 lo)
theorem ze5 {W:Wd} {ds:List D} {vs:List V} (r:DRs K W ds vs) (lo hi:Option Int):DRs K W (ze6 ds lo hi) (zj1 vs lo hi):=by
  unfold ze6 zj1;rw [r.length];exact (r.drop _).take _
noncomputable def fSl (x:D) (lo hi:Option Int) (μ:M):Option (D×M):=match z2h μ x with
  | some ds=>some (.lst (ze6 ds lo hi),μ)
  | none=>match zlo x with
    | some ds=>if HT.sIx ds.length 0 lo=0∧HT.sIx ds.length ds.length hi=ds.length then none else some (.tup (ze6 ds lo hi),μ)
    | none=>none
noncomputable def vSl (ea:EV) (lo hi:OV):EV:=fun Γ μ=>(ea Γ μ).bind fun p=>(lo Γ p.2).bind fun l=>(hi Γ l.2).bind fun h=>fSl p.1 l.1 h.1 h.2
theorem zt6 {lo hi:Option Expr} {ol oh:OV} {p2:Pos} (he:PE X e (tD K ea)) (hl:PO X lo (tDO K ol)) (hu:PO X hi (tDO K oh)) (hK:X.K=K:=by rfl):PE X (.Subscript e (.Slice lo hi none p2) pos) (tD K (vSl ea ol oh)):=by
  subst hK
  refine z0l (zk7 (sl_list.or zpy) he hl hu) fun σ H Q h=>?_
  refine el4 h fun W Γ d μ' eH ok en e q=>?_;subst eH
  refine z05 e fun p1 e1 e=>?_
  refine z05 e fun p2 e2 e=>?_
  refine z05 e fun p3 e3 e=>?_
  refine ⟨W,Γ,p1.1,p1.2,rfl,ok,en,e1,fun x W1 hμ ok1 s1 r1=>⟨W1,Γ,p2.1,p2.2,rfl,ok1,en.step ok s1,by rw [hμ];exact e2,fun W2 hμ2 ok2 s2=>⟨W2,Γ,p3.1,p3.2,rfl,ok2,(en.step ok s1).step ok1 s2,by rw [hμ2];exact e3,fun W3 hμ3 ok3 s3=>?_⟩⟩⟩
  have r3:=(r1.step ok1 s2).step ok2 s3
  have st:=(s1.trans s2).trans s3
  unfold fSl at e
  rw [← hμ3] at e
  split at e
  · rename_i ds hd
    cases e
    refine bq fun bG=>?_
    obtain ⟨a,vs,rfl,hs,hv⟩:=z2x ok3 hd r3
    exact bG (.inl ⟨a,vs,rfl,hs,fun p hp=>q _ (W3.lay p (.lst (zj1 vs p2.1 p3.1))) rfl (z1v ok3 hp) (st.trans (z0m hp)) (z64 ok3 hp (ze5 hv _ _))⟩)
  · split at e
    · rename_i ds hd
      split at e
      · cases e
      · rename_i hn
        cases e
        refine bq fun bG=>?_
        obtain ⟨a,vs,rfl,hs,hv⟩:=z4u hd r3
        rw [hv.length] at hn
        exact bG (.inr ⟨a,vs,rfl,hs,hn,fun p hp=>q _ (W3.lay p (.tup (zj1 vs p2.1 p3.1))) rfl (z1v ok3 hp) (st.trans (z0m hp)) (zb5 ok3 hp (ze5 hv _ _))⟩)
    · cases e
noncomputable def zog (x y:D) (μ:M):Option (D×M):=(zeg μ x).bind fun xs=>(zeg μ y).bind fun ys=>if xs.length+ys.length≤1000000 then some (.lst (xs++ys),μ) else none
noncomputable def zt2 (x y:D) (μ:M):Option (D×M):=(zeg μ x).bind fun xs=>match y with
  | .int k=>if -1000000≤k∧k≤1000000∧xs.length*k.toNat≤1000000 then some (.lst (List.replicate k.toNat xs).flatten,μ) else none
  | _=>none
noncomputable def z6b (x:D) (μ:M):Option (D×M):=match z2h μ x with
  | some ds=>some (.int ds.length,μ)
  | none=>match zlo x with
    | some ds=>some (.int ds.length,μ)
    | none=>none
theorem zbv (ml:X.mg "len" = none) (ha:PE X a (tD K ea)) (hg:Gl X "len" := by rfl) (hs:starEach [a] X.env=[(false,eval a X.env)]:=by rfl) (hK:X.K=K:=by rfl):PE X (.Call (.Name "len" p) [a] [] pos) (tD K (v1 z6b ea)):=z0l (zvo K ml ha hg hs hK) (z2v (by
  intro W x d z μ' Q ok r1 hf q
  unfold z6b at hf
  split at hf
  · rename_i ds hd
    cases hf
    obtain ⟨a,vs,rfl,hs,hv⟩:=z2x ok hd r1
    exact ⟨a,vs,rfl,.inl hs,by rw [← hv.length];exact q _ W rfl ok .refl (.int _)⟩
  · split at hf
    · rename_i ds hd
      cases hf
      obtain ⟨a,vs,rfl,hs,hv⟩:=z4u hd r1
      exact ⟨a,vs,rfl,.inr hs,by rw [← hv.length];exact q _ W rfl ok .refl (.int _)⟩
    · cases hf))
noncomputable def zp7 (μ:M) (x:D):Option (List D):=match z2h μ x with
  | some ds=>some ds
  | none=>zlo x
theorem zg1 {W:Wd} {d:D} {ds:List D} {v:V} (ok:Ok K W) (h:zp7 W.μ d=some ds) (r:DR K W d v):∃ a vs,v=.ref a∧(SqL K W.H a vs∨SqT K W.H a vs)∧DRs K W ds vs:=by
  unfold zp7 at h
  split at h
  · rename_i ds' hd
    cases h
    refine bq fun bG=>?_
    obtain ⟨a,vs,e,hs,hv⟩:=z2x ok hd r
    exact bG (⟨a,vs,e,.inl hs,hv⟩)
  · obtain ⟨a,vs,e,hs,hv⟩:=z4u h r
    exact ⟨a,vs,e,.inr hs,hv⟩
noncomputable def z7h (x:D) (μ:M):Option (D×M):=(zp7 μ x).bind fun ds=>some (.lst ds,μ)
noncomputable def zaz (x:D) (μ:M):Option (D×M):=(zp7 μ x).bind fun ds=>some (.ref μ.length,μ++[some (.lst ds)])
theorem zpk (ml:X.mg "list" = none) (ha:PE X a (tD K ea)) (hg:Gl X "list" := by rfl) (hs:starEach [a] X.env=[(false,eval a X.env)]:=by rfl) (hK:X.K=K:=by rfl):PE X (.Call (.Name "list" p) [a] [] pos) (tD K (v1 z7h ea)):=z0l (zsc K ml ha hg hs hK) (z2v (by
  intro W x d z μ' Q ok r1 hf q
  refine z05 hf fun ds hd hf=>?_
  cases hf
  obtain ⟨a,vs,rfl,hs,hv⟩:=zg1 ok hd r1
  exact ⟨a,vs,rfl,hs,fun p hp=>q _ (W.lay p (.lst vs)) rfl (z1v ok hp) (z0m hp) (z64 ok hp hv)⟩))
theorem zmr (ml:X.mg "list" = none) (ha:PE X a (tD K ea)) (hg:Gl X "list" := by rfl) (hs:starEach [a] X.env=[(false,eval a X.env)]:=by rfl) (hK:X.K=K:=by rfl):PE X (.Call (.Name "list" p) [a] [] pos) (tD K (v1 zaz ea)):=z0l (zsc K ml ha hg hs hK) (z2v (by
  intro W x d z μ' Q ok r1 hf q
  refine z05 hf fun ds hd hf=>?_
  cases hf
  obtain ⟨a,vs,rfl,hs,hv⟩:=zg1 ok hd r1
  exact ⟨a,vs,rfl,hs,fun p hp=>q _ (W.new p (.lst vs) (.lst ds)) rfl (zam ok hp ⟨vs,rfl,hv⟩) (z27 ok hp) (zb6 ok)⟩))
noncomputable abbrev zt3:=fI0 fun i j=>.int (if j<i then j else i)
noncomputable abbrev zuw:=fI0 fun i j=>.int (if j > i then j else i)
theorem zfz {t:TE} {r:R2} {f:D→D→M→Option (D×M)} (ra:R2A K r f) (ht:∀ σ H Q,tOp r (tD K ea) (tD K eb) σ H Q→t σ H Q):∀ σ H Q,tD K (v2 f ea eb) σ H Q→t σ H Q:=fun σ H Q h=>ht σ H Q (z8h ra σ H Q h)
theorem zrj {x y:V} {g:Int→Int→V} {Q:VK} {H:Hp}:(∃ i j,[x,y]=[V.int i,V.int j]∧Q (g i j) H)=(∃ i j,x=V.int i∧y=V.int j∧Q (g i j) H):=propext ⟨fun ⟨i,j,e,q⟩=>by cases e;exact ⟨i,j,rfl,rfl,q⟩,fun ⟨i,j,e1,e2,q⟩=>by cases e1;cases e2;exact ⟨i,j,rfl,q⟩⟩
theorem zt9 (ml:X.mg "min" = none) (ha:PE X a (tD K ea)) (hb:PE X b (tD K eb)) (hc:X.calm=true:=by rfl) (hg:Gl X "min" := by rfl) (hs:starEach [a,b] X.env=[(false,eval a X.env),(false,eval b X.env)]:=by rfl) (hs2:starEach [b] X.env=[(false,eval b X.env)]:=by rfl) :
    PE X (.Call (.Name "min" p) [a,b] [] pos) (tD K (v2 zt3 ea eb)):=z0l (zvm ml ha hb hc hg hs hs2) (zfz (z96 fun _ _ _=>.int _) fun σ H Q h=>by simp only [zrj (g:=fun i j=>V.int (if j<i then j else i))];exact h)
theorem zta (ml:X.mg "max" = none) (ha:PE X a (tD K ea)) (hb:PE X b (tD K eb)) (hc:X.calm=true:=by rfl) (hg:Gl X "max" := by rfl) (hs:starEach [a,b] X.env=[(false,eval a X.env),(false,eval b X.env)]:=by rfl) (hs2:starEach [b] X.env=[(false,eval b X.env)]:=by rfl) :
    PE X (.Call (.Name "max" p) [a,b] [] pos) (tD K (v2 zuw ea eb)):=z0l (zvn ml ha hb hc hg hs hs2) (zfz (z96 fun _ _ _=>.int _) fun σ H Q h=>by simp only [zrj (g:=fun i j=>V.int (if j > i then j else i))];exact h)
noncomputable def z7k:D→M→Option (D×M)
  | .bl k,μ=>some (.int (if k then 1 else 0),μ)
  | _,_=>none
theorem zlf (ml:X.mg "int" = none) (ha:PE X a (tD K ea)) (hg:Gl X "int" := by rfl) (hs:starEach [a] X.env=[(false,eval a X.env)]:=by rfl):PE X (.Call (.Name "int" p) [a] [] pos) (tD K (v1 z7k ea)):=z0l (zvq ml ha hg hs) (z2v (by
  intro W x d z μ' Q ok r1 hf q
  unfold z7k at hf
  split at hf
  · cases hf;cases r1;exact ⟨_,rfl,q _ W rfl ok .refl (.int _)⟩
  · cases hf))
end
noncomputable def py:Nat→M→D→Option PyData
  | 0,_,_=>none
  | n+1,μ,d=>match d with
    | .non=>some .none
    | .bl b=>some (.bool b)
    | .int i=>some (.int i)
    | .str x=>some (.str x)
    | .lst xs=>(optAll (py n μ) xs).bind fun ys=>some (.list ys)
    | .scr xs=>(optAll (py n μ) xs).bind fun ys=>some (.list ys)
    | .tup xs=>(optAll (py n μ) xs).bind fun ys=>some (.tuple ys)
    | .gt xs=>(optAll (py n μ) xs).bind fun ys=>some (.tuple ys)
    | .ref k=>match μ[k]? with
      | some (some (.lst xs))=>(optAll (py n μ) xs).bind fun ys=>some (.list ys)
      | _=>none
theorem z5a {K:PySem.W.Frag} {W:Wd} {f:D→Option PyData} (h:∀ d v pd,DR K W d v→f d=some pd→Dp K W.H v pd):∀ {xs:List D} {vs:List V} {ys:List PyData},DRs K W xs vs→optAll f xs=some ys→Dps K W.H vs ys
  | _,_,_,.nil,e=>by cases e;exact .nil
  | _,_,_,.cons r t,e=>by
    refine z05 e fun y e1 e=>?_
    refine z05 e fun ys e2 e=>?_
    cases e
    exact .cons (h _ _ _ r e1) (z5a h t e2)
theorem z97 {K:PySem.W.Frag} {W:Wd} (ok:Ok K W):∀ (n:Nat) (d:D) (v:V) (pd:PyData),DR K W d v→py n W.μ d=some pd→Dp K W.H v pd
  | 0,_,_,_,_,e=>by cases e
  | n+1,d,v,pd,r,e=>by
    cases d with
    | non=>cases e;cases r;exact .non
    | bl b=>cases e;cases r;exact .bl b
    | int i=>cases e;cases r;exact .int i
    | str x=>cases e;cases r;exact .str x
    | lst xs =>
      refine z05 e fun ys e1 e=>?_
      cases e
      cases r with
      | lst h _ hs=>exact .lst (SqL.of h) (z5a (z97 ok n) hs e1)
    | scr xs =>
      refine z05 e fun ys e1 e=>?_
      cases e
      cases r with
      | scr h hs=>exact .lst h.seq (z5a (z97 ok n) hs e1)
    | tup xs =>
      refine z05 e fun ys e1 e=>?_
      cases e
      cases r with
      | tup h hs=>exact .tup (SqT.of h) (z5a (z97 ok n) hs e1)
    | gt xs =>
      refine z05 e fun ys e1 e=>?_
      cases e
      cases r with
      | gt h hs=>exact .tup h (z5a (z97 ok n) hs e1)
    | ref k =>
      simp only [py] at e
      split at e
      · rename_i xs hk
        refine z05 e fun ys e1 e=>?_
        cases e
        refine bq fun bG=>?_
        obtain ⟨a,vs,rfl,_,h,hs⟩:=z72 ok hk r
        exact bG (.lst (SqL.of h) (z5a (z97 ok n) hs e1))
      · cases e
noncomputable def eqD (x y:D) (μ:M):Option Bool:=match x,y with
  | .int i,.int j=>some (decide (i=j))
  | .str a,.str b=>if PyData.strOk a&&PyData.strOk b then some (decide (a=b)) else none
  | x,y=>(py 65 μ x).bind fun d=>(py 65 μ y).bind fun e=>if (d.canLay0&&e.canLay0&&decide (d.depth≤64))=true then some (PyData.eqv d e) else none
theorem zmc {K:PySem.W.Frag} {W:Wd} {x y:D} {v u:V} {b:Bool} (ok:Ok K W) (rx:DR K W x v) (ry:DR K W y u) (h:eqD x y W.μ=some b):∃ d e,Dp K W.H v d∧Dp K W.H u e∧(d.canLay0&&e.canLay0&&decide (d.depth≤64))=true∧PyData.eqv d e=b:=by
  unfold eqD at h
  split at h
  · cases h
    cases rx;cases ry
    exact ⟨_,_,.int _,.int _,by simp [PyData.canLay0,PyData.depth],by simp [PyData.eqv];rw [Bool.eq_iff_iff];simp⟩
  · split at h
    · rename_i hs
      cases h
      cases rx;cases ry
      refine ⟨_,_,.str _,.str _,by simpa [PyData.canLay0,PyData.depth] using hs,by simp [PyData.eqv];rw [Bool.eq_iff_iff];simp⟩
    · cases h
  · refine z05 h fun d e1 h=>?_
    refine z05 h fun e e2 h=>?_
    split at h
    · rename_i hc
      cases h
      exact ⟨d,e,z97 ok _ _ _ _ rx e1,z97 ok _ _ _ _ ry e2,hc,rfl⟩
    · cases h
noncomputable def fEq (x y:D) (μ:M):Option (D×M):=(eqD x y μ).bind fun b=>some (.bl b,μ)
noncomputable def fNe (x y:D) (μ:M):Option (D×M):=(eqD x y μ).bind fun b=>some (.bl (!b),μ)
section
variable {X:Cx} {K:PySem.W.Frag} {a b c e:Expr} {ea eb ec:EV} {ba bb:BV} {pos p:Pos} {es:List Expr} {el:LV} {k:Nat}
theorem zqh:R2A K (fun x y H Q=>∃ d e,Dp K H x d∧Dp K H y e∧(d.canLay0&&e.canLay0&&decide (d.depth≤64))=true∧Q (.bl (PyData.eqv d e)) H) fEq:=by
  intro W x y d e z μ' Q ok r1 r2 hf q
  refine z05 hf fun b hb hf=>?_
  cases hf
  obtain ⟨d',e',h1,h2,h3,h4⟩:=zmc ok r1 r2 hb
  exact ⟨d',e',h1,h2,h3,by rw [h4];exact q _ W rfl ok .refl (.bl _)⟩
theorem zqb:R2A K (fun x y H Q=>∃ d e,Dp K H x d∧Dp K H y e∧(d.canLay0&&e.canLay0&&decide (d.depth≤64))=true∧Q (.bl (!PyData.eqv d e)) H) fNe:=by
  intro W x y d e z μ' Q ok r1 r2 hf q
  refine z05 hf fun b hb hf=>?_
  cases hf
  obtain ⟨d',e',h1,h2,h3,h4⟩:=zmc ok r1 r2 hb
  exact ⟨d',e',h1,h2,h3,by rw [h4];exact q _ W rfl ok .refl (.bl _)⟩
theorem zmv (hr:Room k X.A) (ha:PE X a (tD K ea)) (hb:PE X b (tD K eb)) (hK:X.K=K:=by rfl):PE X (.Compare a [.Eq] [b] pos) (tD K (v2 fEq ea eb)):=by
  subst hK;exact zj9 (zm3 hr.units) zqh ha hb (z60 _)
theorem zv1 (hr:Room k X.A) (ha:PE X a (tD K ea)) (hb:PE X b (tD K eb)) (hK:X.K=K:=by rfl):PE X (.Compare a [.NotEq] [b] pos) (tD K (v2 fNe ea eb)):=by
  subst hK;exact zj9 (zm2 hr.units) zqb ha hb (z60 _)
theorem za9 (hr:Room k X.A) (ha:PE X a (tD K ea)) (hb:PE X b (tD K eb)) (hK:X.K=K:=by rfl):PT X (.Compare a [.Eq] [b] pos) (tDB K (vT (v2 fEq ea eb))):=by
  subst hK;exact zaa (zm3 hr.units) zqh ha hb (z60 _)
theorem zbu (hr:Room k X.A) (ha:PE X a (tD K ea)) (hb:PE X b (tD K eb)) (hK:X.K=K:=by rfl):PT X (.Compare a [.NotEq] [b] pos) (tDB K (vT (v2 fNe ea eb))):=by
  subst hK;exact zaa (zm2 hr.units) zqb ha hb (z60 _)
noncomputable def zpb (x y:D) (μ:M):Option (D×M):=match y with
  | .non=>some (.bl (match x with | .non=>true | _=>false),μ)
  | _=>none
theorem zqf:R2A K (fun x y H Q=>y=.non∧Q (.bl (decide (x=.non))) H) zpb:=by
  intro W x y d e z μ' Q ok r1 r2 hf q
  unfold zpb at hf
  split at hf
  · cases hf;cases r2
    refine ⟨rfl,?_⟩
    have h:=q _ W rfl ok .refl (.bl _)
    cases r1 <;> exact h
  · cases hf
theorem zpl (ha:PE X a (tD K ea)) (hb:PE X b (tD K eb)):PT X (.Compare a [.Is] [b] pos) (tDB K (vT (v2 zpb ea eb))):=zaa zra zqf ha hb (z60 _)
noncomputable def tru (μ:M):D→Option Bool
  | .non=>some false
  | .bl b=>some b
  | .int i=>some (i != 0)
  | .tup ds=>some (!ds.isEmpty)
  | .gt ds=>some (!ds.isEmpty)
  | .lst ds=>some (!ds.isEmpty)
  | .scr ds=>some (!ds.isEmpty)
  | .ref k=>match μ[k]? with
    | some (some (.lst ds))=>some (!ds.isEmpty)
    | some (some (.dK kvs))=>some (!kvs.isEmpty)
    | _=>none
  | .str _=>none
theorem DRs.empty {W:Wd} {ds:List D} {vs:List V} (r:DRs K W ds vs):ds.isEmpty=vs.isEmpty:=by cases r <;> rfl
theorem zpt {W:Wd} {d:D} {v:V} {b:Bool} (ok:Ok K W) (h:tru W.μ d=some b) (r:DR K W d v):zuh K v W.H b:=by
  cases d with
  | non=>cases h;cases r;rfl
  | bl k=>cases h;cases r;rfl
  | int i=>cases h;cases r;rfl
  | str x=>cases h
  | tup ds =>
    cases h
    cases r with
    | tup h hs=>exact .inr (.inl ⟨_,SqT.of h,by rw [DRs.empty hs]⟩)
  | gt ds =>
    cases h
    cases r with
    | gt h hs=>exact .inr (.inl ⟨_,h,by rw [DRs.empty hs]⟩)
  | lst ds =>
    cases h
    cases r with
    | lst h _ hs=>exact .inl ⟨_,SqL.of h,by rw [DRs.empty hs]⟩
  | scr ds =>
    cases h
    cases r with
    | scr h hs=>exact .inl ⟨_,h.seq,by rw [DRs.empty hs]⟩
  | ref k =>
    simp only [tru] at h
    split at h
    · rename_i ds hk
      cases h
      refine bq fun bG=>?_
      obtain ⟨a,vs,rfl,_,hh,hs⟩:=z72 ok hk r
      exact bG (.inl ⟨_,SqL.of hh,by rw [DRs.empty hs]⟩)
    · rename_i kvs hk
      cases h
      cases r with
      | ref ha =>
        obtain ⟨a',ho,h1,h2,vs,rfl,r⟩:=ok.at_ k _ hk
        rw [ha] at h1
        cases h1
        exact .inr (.inr ⟨vs,h2,by cases r <;> rfl⟩)
    · cases h
noncomputable def z65 (ea:EV):BV:=fun Γ μ=>(ea Γ μ).bind fun p=>(tru p.2 p.1).bind fun b=>some (b,p.2)
theorem z2d (ha:PE X a (tD K ea)) (he:∀ whole,isTrue a X.env whole=(do let v ← whole;standAt a.pos;holding [v] (truthy v)):=by intro _;rfl) (hK:X.K=K:=by rfl):PT X a (tDB K (z65 ea)):=by
  subst hK
  refine z7w (zk2 ha he) fun σ H Q h=>?_
  refine el4 h fun W Γ b μ' eH ok en e q=>?_;subst eH
  refine z05 e fun p1 e1 e=>?_
  refine z05 e fun b1 e2 e=>?_
  cases e
  exact ⟨W,Γ,p1.1,p1.2,rfl,ok,en,e1,fun x W1 hμ ok1 s1 r1=>⟨b,zpt ok1 (by rw [hμ];exact e2) r1,q W1 hμ ok1 s1⟩⟩
noncomputable def tyD (μ:M):D→Option String
  | .non=>some "NoneType"
  | .bl _=>some "bool"
  | .int _=>some "int"
  | .str _=>some "str"
  | .tup _=>some "tuple"
  | .gt _=>some "tuple"
  | .lst _=>some "list"
  | .scr _=>some "list"
  | .ref k=>match μ[k]? with
    | some (some (.lst _))=>some "list"
    | some (some (.dK _))=>some "dict"
    | _=>none
theorem zlm {W:Wd} {d:D} {v:V} {t:String} (ok:Ok K W) (h:tyD W.μ d=some t) (r:DR K W d v):TyN K W.H v t:=by
  cases d with
  | non=>cases h;cases r;exact .non
  | bl k=>cases h;cases r;exact .bl _
  | int i=>cases h;cases r;exact .int _
  | str x=>cases h;cases r;exact .str _
  | tup ds =>
    cases h
    cases r with
    | tup h hs=>exact .tup (SqT.of h)
  | gt ds =>
    cases h
    cases r with
    | gt h hs=>exact .tup h
  | lst ds =>
    cases h
    cases r with
    | lst h _ hs=>exact .lst (SqL.of h)
  | scr ds =>
    cases h
    cases r with
    | scr h hs=>exact .lst h.seq
  | ref k =>
    simp only [tyD] at h
    split at h
    · rename_i ds hk
      cases h
      refine bq fun bG=>?_
      obtain ⟨a,vs,rfl,_,hh,hs⟩:=z72 ok hk r
      exact bG (.lst (SqL.of hh))
    · rename_i kvs hk
      cases h
      cases r with
      | ref ha =>
        refine bq fun bG=>?_
        obtain ⟨a',ho,h1,h2,vs,rfl,r⟩:=ok.at_ k _ hk
        rw [ha] at h1
        cases h1
        exact bG (.dK h2)
    · cases h
noncomputable def z9q (c:String) (x:D) (μ:M):Option (D×M):=(tyD μ x).bind fun t=>some (.bl (zg0 t c),μ)
theorem za8 (c:String) (ml:X.mg "isinstance" = none) (ha:PE X a (tD K ea)) (hb:PE X b (tC (.ty c))) (hc:clNames.contains c=true:=by decide) (hg:Gl X "isinstance" := by rfl) (hs:starEach [a,b] X.env=[(false,eval a X.env),(false,eval b X.env)]:=by rfl) (hs2:starEach [b] X.env=[(false,eval b X.env)]:=by rfl) (hK:X.K=K:=by rfl) :
    PE X (.Call (.Name "isinstance" p) [a,b] [] pos) (tD K (v1 (z9q c) ea)):=z0l (zvp K ml ha hb hg hs hs2 hK) (z2v (by
  intro W x d z μ' Q ok r1 hf q
  refine z05 hf fun t ht hf=>?_
  cases hf
  exact ⟨x,t,c,rfl,zlm ok ht r1,hc,q _ W rfl ok .refl (.bl _)⟩))
noncomputable def vFrz (ea:EV):EV:=fun Γ μ=>(ea Γ μ).bind fun p=>match p.1 with
  | .ref k=>match p.2[k]? with
    | some (some (.lst ds))=>some (.lst ds,p.2.set k none)
    | _=>none
  | _=>none
noncomputable def spM (K:PySem.W.Frag) (f:List D→M→Option (D×M)):Sp:=fun vs H Q _=>∃ (W:Wd) (ds:List D) (d:D) (μ':M),W.H=H∧Ok K W∧DRs K W ds vs∧f ds W.μ=some (d,μ')∧∀ v W',W'.μ=μ'→Ok K W'→Step W W'→DR K W' d v→Q v W'.H
theorem z4e {x:Str} {ps:List Str} {f:List D→M→Option (D×M)} {e:Expr} (Df':Df X.prog X.w X.K X.mg X.base k x ps (spM K f)) (hr:Room k X.A) (ha:PA X (e::es) (tDL K el)) (hg:Gl X x:=by rfl) (hdb:(x==("__debug__" : Str))=false:=by decide)
    (he:starEach (e::es) X.env=(false,eval e X.env)::starEach es X.env:=by rfl) (hpl:(backTo pos (starEach es X.env)).any (·.1)=false:=by rfl):PE X (.Call (.Name x p) (e::es) [] pos) (tD K (vL f el)):=z0l (zr3 Df' hr ha hg hdb he hpl) (zda (by
  intro W xs ds z μ' Q ok r hf q
  exact ⟨W,ds,z,μ',rfl,ok,r,hf,q⟩))
noncomputable def v2l (f:D→D→M→Option (D×M)) (ea eb:EV):EV:=fun Γ μ=>(ea Γ μ).bind fun p=>(z2h p.2 p.1).bind fun _=>(eb Γ p.2).bind fun q=>f p.1 q.1 q.2
theorem zn0 {W:Wd} {d:D} {ds:List D} {v:V} (ok:Ok K W) (h:z2h W.μ d=some ds) (r:DR K W d v):tyV K "list" v W.H:=by
  refine bq fun bG=>?_
  obtain ⟨a,vs,rfl,hs,_⟩:=z2x ok h r
  exact bG (.inl ⟨rfl,vs,hs⟩)
def RMA (K:PySem.W.Frag) (r:V→List V→Hp→VK→Prop) (f:D→D→M→Option (D×M)):Prop:=∀ (W:Wd) (x y:V) (d e z:D) (μ':M) (Q:VK),Ok K W→DR K W d x→DR K W e y→f d e W.μ=some (z,μ') →
  (∀ v W',W'.μ=μ'→Ok K W'→Step W W'→DR K W' z v→Q v W'.H)→r x [y] W.H Q
theorem zfx {eo:EV} {r:V→List V→Hp→VK→Prop} {f:D→D→M→Option (D×M)} (ra:RMA K r f):∀ σ H Q,tD K (v2l f eo ea) σ H Q→tBM K "list" r (tD K eo) (z5m (tD K ea) zfw) σ H Q:=fun σ H Q h=>by
  refine el4 h fun W Γ d μ' eH ok en e q=>?_;subst eH
  refine z05 e fun p1 e1 e=>?_
  refine z05 e fun ds e0 e=>?_
  refine z05 e fun p2 e2 e=>?_
  refine ⟨W,Γ,p1.1,p1.2,rfl,ok,en,e1,fun x W1 hμ ok1 s1 r1=>⟨zn0 ok1 (by rw [hμ];exact e0) r1,W1,Γ,p2.1,p2.2,rfl,ok1,en.step ok s1,by rw [hμ];exact e2,fun y W2 hμ2 ok2 s2 r2=>?_⟩⟩
  exact ra W2 x y _ _ _ _ Q ok2 (r1.step ok1 s2) r2 (by rw [hμ2];exact e) fun v W3 hμ3 ok3 s3 r3=>q v W3 hμ3 ok3 ((s1.trans s2).trans s3) r3
noncomputable def onL (x:D) (μ:M) (g:List D→Option (D×List D)):Option (D×M):=match x with
  | .ref k=>match μ[k]? with
    | some (some (.lst ds))=>(g ds).bind fun r=>some (r.1,μ.set k (some (.lst r.2)))
    | _=>none
  | _=>none
theorem zm4 {W:Wd} {x z:D} {v:V} {μ':M} {g:List D→Option (D×List D)} (ok:Ok K W) (h:onL x W.μ g=some (z,μ')) (r:DR K W x v) :
    ∃ k a ds vs ds',x=.ref k∧v=.ref a∧W.μ[k]?=some (some (.lst ds))∧W.ρ[k]?=some a∧W.H a=some (.lst vs)∧DRs K W ds vs∧g ds=some (z,ds')∧μ'=W.μ.set k (some (.lst ds')):=by
  unfold onL at h
  split at h
  · rename_i k
    split at h
    · rename_i ds hk
      refine z05 h fun p e1 e=>?_
      cases e
      refine bq fun bG=>?_
      obtain ⟨a,vs,rfl,ha,hh,hs⟩:=z72 ok hk r
      exact bG (⟨k,a,ds,vs,p.2,rfl,rfl,hk,ha,hh,hs,e1,rfl⟩)
    · cases h
  · cases h
theorem zgr {W:Wd} {k:Nat} {a:Addr} {ds ds':List D} {vs vs':List V} (ok:Ok K W) (hk:W.μ[k]?=some (some (.lst ds))) (ha:W.ρ[k]?=some a) (hs:DRs K W ds' vs') :
    Ok K (W.put k a (.lst vs') (.lst ds'))∧Step W (W.put k a (.lst vs') (.lst ds')):=⟨zm5 ok hk ha ⟨vs',rfl,hs⟩,z4a hk ha⟩
noncomputable def z8b (x y:D) (μ:M):Option (D×M):=onL x μ fun ds=>if ds.length<1000000 then some (.non,ds++[y]) else none
theorem zjb {o:Expr} {eo:EV} {apos:Pos} (ho:PE X o (tD K eo)) (ha:PE X a (tD K ea)) (hs:starEach [a] X.env=[(false,eval a X.env)]:=by rfl)
    (hbase:attributeBase o "append" X.env (eval o X.env)=eval o X.env:=by rfl) (hline:(apos.endLine==pos.line)=true:=by rfl) (hK:X.K=K:=by rfl)
    (hfew:((backTo pos (starEach [a] X.env)).all (fun x=>!x.1)&&(backToKw pos (keywordEach [] X.env)).all (fun x=>x.1.isSome)
      && decide ([a].length+([]:List Keyword).length+(if ([]:List Keyword).isEmpty then 0 else 1)<30))=true:=by rfl) :
    PE X (.Call (.Attribute o "append" apos) [a] [] pos) (tD K (v2l z8b eo ea)):=z0l (zvr K ho ha hs hbase hline hK hfew) (zfx (by
  intro W x y d e z μ' Q ok r1 r2 hf q
  obtain ⟨k,a,ds,vs,ds',rfl,rfl,hk,ha,hh,hs,hg,rfl⟩:=zm4 ok hf r1
  split at hg
  · rename_i hl
    cases hg
    obtain ⟨o1,s1⟩:=zgr (vs:=vs) (vs':=vs++[y]) ok hk ha (hs.append (.cons r2 .nil))
    exact ⟨a,vs,y,rfl,rfl,hh,z79 (by rw [← hs.length];omega),q _ _ rfl o1 s1 .non⟩
  · cases hg))
end
open Classical in
noncomputable def chk {α:Type} (c:Prop) (x:Option α):Option α:=if c then x else none
theorem za0 {α:Type} {c:Prop} {x:Option α} {a:α} (h:chk c x=some a):c∧x=some a:=by
  unfold chk at h
  split at h
  · exact ⟨by assumption,h⟩
  · cases h
theorem z3x {α:Type} {c:Prop} {x:Option α} {a:α} {Z:Prop} (h:chk c x=some a) (k:c→x=some a→Z):Z:=k (za0 h).1 (za0 h).2
theorem z26 {α:Type} {c:Prop} {x:Option α} (h:c):chk c x=x:=by unfold chk;rw [if_pos h]
noncomputable abbrev GV:=D→G→M→Option (G×M)
noncomputable abbrev GsV:=List D→G→M→Option (G×M)
def tDG (K:PySem.W.Frag) (gv:GV):TG:=fun v σ H Q=>∃ (W:Wd) (Γ:G) (d:D) (Γ':G) (μ':M),W.H=H∧Ok K W∧EnvR K W Γ σ∧DR K W d v∧gv d Γ W.μ=some (Γ',μ')∧∀ W' σ',W'.μ=μ'→Ok K W'→Step W W'→EnvR K W' Γ' σ'→Q σ' W'.H
noncomputable def zsq (K:PySem.W.Frag) (gv:GsV):TGs:=fun vs σ H Q=>∃ (W:Wd) (Γ:G) (ds:List D) (Γ':G) (μ':M),W.H=H∧Ok K W∧EnvR K W Γ σ∧DRs K W ds vs∧gv ds Γ W.μ=some (Γ',μ')∧∀ W' σ',W'.μ=μ'→Ok K W'→Step W W'→EnvR K W' Γ' σ'→Q σ' W'.H
section
variable {X:Cx} {K:PySem.W.Frag} {pos:Pos}
theorem ziu {tg:Expr} {t t':TG} (h:PG X tg t) (hi:∀ v σ H Q,t' v σ H Q→t v σ H Q):PG X tg t':=fun pins s σ H v u Q I r hw=>h pins s σ H v u Q I r (hi _ _ _ _ hw)
theorem zit {tg:List Expr} {t t':TGs} (h:PGs X tg t) (hi:∀ v σ H Q,t' v σ H Q→t v σ H Q):PGs X tg t':=fun pins s σ H v u Q I r hw=>h pins s σ H v u Q I r (hi _ _ _ _ hw)
theorem EnvR.set {W:Wd} {Γ:G} {σ:St} (e:EnvR K W Γ σ) {d:D} {v:V} (r:DR K W d v) (i:Nat):EnvR K W (Γ.set i (some d)) (σ.set i (some v)) where
  len:=by simp [e.len]
  at_ j d' h:=by
    by_cases hj:j=i
    · subst hj
      have hlt:j<Γ.length:=by have:=(List.getElem?_eq_some_iff.mp h).1;simpa using this
      simp [hlt] at h
      subst h
      exact ⟨v,by have:=e.len;simp [show j<σ.length by omega],r⟩
    · rw [List.getElem?_set_ne (Ne.symm hj)] at h
      obtain ⟨u,hu,q⟩:=e.at_ j d' h
      exact ⟨u,by rw [List.getElem?_set_ne (Ne.symm hj)];exact hu,q⟩
noncomputable def z00 (i:Nat):GV:=fun d Γ μ=>some (Γ.set i (some d),μ)
theorem zf1 {i:Nat}:∀ v σ H Q,tDG K (z00 i) v σ H Q→zob i v σ H Q:=fun v σ H Q h=>by
  refine bq fun bG=>?_
  obtain ⟨W,Γ,d,Γ',μ',rfl,ok,en,r,e,q⟩:=h
  cases e
  exact bG (q W _ rfl ok .refl (en.set r i))
theorem z0g {i:Nat} {x:Str} (hN:X.N.Nodup) (hi:X.N[i]?=some x) (hx:Loc X.env.scope x) (hf:X.fn x=true∨X.env.scope.names.lookup x=some .local:=by first | exact .inl rfl | exact .inr rfl | assumption):PG X (.Name x pos) (tDG K (z00 i)):=ziu (znq hN hi hx hf) zf1
noncomputable def z2q:GsV:=fun ds Γ μ=>match ds with
  | []=>some (Γ,μ)
  | _::_=>none
noncomputable def z0e (g:GV) (gs:GsV):GsV:=fun ds Γ μ=>match ds with
  | []=>none
  | d::r=>(g d Γ μ).bind fun p=>gs r p.1 p.2
theorem z4s:PGs X [] (zsq K z2q):=zit znp fun v σ H Q h=>by
  obtain ⟨W,Γ,d,Γ',μ',rfl,ok,en,r,e,q⟩:=h
  cases r with
  | nil=>cases e;exact ⟨rfl,q W _ rfl ok .refl en⟩
  | cons _ _=>cases e
theorem z0x {e:Expr} {es:List Expr} {g:GV} {gs:GsV} (h1:PG X e (tDG K g)) (h2:PGs X es (zsq K gs))
    (hs:(assignEach (e::es) X.env).map (·.2)=assign e X.env::(assignEach es X.env).map (·.2):=by rfl):PGs X (e::es) (zsq K (z0e g gs)):=zit (zk6 h1 h2 hs) fun v σ H Q h=>by
  obtain ⟨W,Γ,d,Γ',μ',rfl,ok,en,r,e,q⟩:=h
  cases r with
  | nil=>cases e
  | cons r rs =>
    refine z05 e fun p1 e1 e=>?_
    exact ⟨_,_,rfl,W,Γ,_,p1.1,p1.2,rfl,ok,en,r,e1,fun W1 σ1 hμ ok1 s1 en1=>⟨W1,p1.1,_,Γ',μ',rfl,ok1,en1,rs.step ok s1,by rw [hμ];exact e,fun W2 σ2 hμ2 ok2 s2 en2=>q W2 σ2 hμ2 ok2 (s1.trans s2) en2⟩⟩
noncomputable def z2p (n:Nat) (gs:GsV):GV:=fun d Γ μ=>(zlo d).bind fun ds=>if ds.length=n then gs ds Γ μ else none
theorem z6r {es:List Expr} {k:Nat} {gs:GsV} {n:Nat} (h:PGs X es (zsq K gs)) (hc:X.calm=true:=by rfl) (hn:(assignEach es X.env).length=n:=by rfl) (hst:(assignEach es X.env).findIdx? (·.1)=none:=by rfl) (hK:X.K=K:=by rfl):PG X (.Tuple es k pos) (tDG K (z2p n gs)):=ziu (gT K h hc hn hst hK) fun v σ H Q hh=>by
  obtain ⟨W,Γ,d,Γ',μ',rfl,ok,en,r,e,q⟩:=hh
  refine z05 e fun ds e1 e=>?_
  split at e
  · rename_i hl
    obtain ⟨a,vs,rfl,hs,hv⟩:=z4u e1 r
    exact ⟨a,vs,rfl,hs,by rw [← hv.length];exact hl,W,Γ,ds,Γ',μ',rfl,ok,en,hv,e,q⟩
  · cases e
noncomputable def z89 (eo ei:EV):GV:=fun d Γ μ=>(eo Γ μ).bind fun p=>(ei Γ p.2).bind fun q=>match q.1 with
  | .int j=>(onL p.1 q.2 fun ds=>(ixN ds.length j).bind fun jj=>some (.non,ds.set jj d)).bind fun r=>some (Γ,r.2)
  | _=>none
theorem zfk {o i:Expr} {eo ei:EV} (ho:PE X o (tD K eo)) (hi:PE X i (tD K ei)) (ha:∀ v,assign (.Subscript o i pos) X.env v=(do
      let ov ← holding [v] (eval o X.env)
      let iv ← holding [v,ov] (eval i X.env)
      standAt pos
      holding [v,ov,iv] (setItem ov iv v)
      release [v,ov,iv] []):=by intro _;rfl):PG X (.Subscript o i pos) (tDG K (z89 eo ei)):=ziu (zqx ho hi zjk ha) fun v σ H Q hh=>by
  obtain ⟨W,Γ,d,Γ',μ',rfl,ok,en,r,e,q⟩:=hh
  refine z05 e fun p1 e1 e=>?_
  refine z05 e fun p2 e2 e=>?_
  refine ⟨W,Γ,p1.1,p1.2,rfl,ok,en,e1,fun x W1 hμ ok1 s1 r1=>⟨W1,Γ,p2.1,p2.2,rfl,ok1,en.step ok s1,by rw [hμ];exact e2,fun y W2 hμ2 ok2 s2 r2=>?_⟩⟩
  split at e
  · rename_i j hj
    rw [hj] at r2
    cases r2
    obtain ⟨⟨z3,μ3⟩,e3,e⟩:=bnd e
    cases e
    rw [← hμ2] at e3
    obtain ⟨k,a,ds,vs,ds',h1,rfl,hk,ha,hh,hs,hg,h2⟩:=zm4 ok2 e3 (r1.step ok1 s2)
    refine z05 hg fun jj hjj hg=>?_
    cases hg
    obtain ⟨o1,st1⟩:=zgr (vs:=vs) (vs':=vs.set jj v) ok2 hk ha (hs.set ((r.step ok s1).step ok1 s2) jj)
    exact ⟨a,vs,j,jj,rfl,rfl,hh,by rw [← hs.length];exact hjj,q _ _ h2.symm o1 ((s1.trans s2).trans st1) (((en.step ok s1).step ok1 s2).step ok2 st1)⟩
  · cases e
end
section
variable {X:Cx} {K:PySem.W.Frag} {pos:Pos} {e:Expr} {ea:EV} {st:Stmt} {z1y:List Stmt} {sa sb:SV}
noncomputable def sNx:SV:=fun Γ μ=>some (.nx,Γ,μ)
noncomputable def z0v (a b:SV):SV:=fun Γ μ=>(a Γ μ).bind fun o=>match o.1 with
  | .nx=>b o.2.1 o.2.2
  | .bk=>some (.bk,o.2)
  | .ct=>some (.ct,o.2)
  | .rt d=>some (.rt d,o.2)
theorem z1m:PSs X [] (tDS K sNx):=z7x zni fun D σ H h=>by
  refine el5 h fun W Γ o Γ' μ' eH ok en e q=>?_;subst eH
  cases e
  exact q W σ rfl ok .refl en
theorem z0j (h1:PS X st (tDS K sa)):PSs X [st] (tDS K sa):=zgs h1
theorem z08 (h1:PS X st (tDS K sa)) (h2:PSs X z1y (tDS K sb)):PSs X (st::z1y) (tDS K (z0v sa sb)):=z7x (zdk h1 h2) fun D σ H h=>by
  refine el5 h fun W Γ o Γ' μ' eH ok en e q=>?_;subst eH
  refine bq fun bG=>?_
  obtain ⟨⟨o1,Γ1,μ1⟩,e1,e⟩:=bnd e
  refine bG (⟨W,Γ,o1,Γ1,μ1,rfl,ok,en,e1,fun W1 σ1 hμ ok1 s1 en1=>?_⟩)
  cases o1 with
  | nx=>exact ⟨W1,Γ1,o,Γ',μ',rfl,ok1,en1,by rw [hμ];exact e,fun W2 σ2 hμ2 ok2 s2 en2=>q W2 σ2 hμ2 ok2 (s1.trans s2) en2⟩
  | bk=>cases e;exact q W1 σ1 hμ ok1 s1 en1
  | ct=>cases e;exact q W1 σ1 hμ ok1 s1 en1
  | rt d=>cases e;exact q W1 σ1 hμ ok1 s1 en1
noncomputable def z43 (ea:EV):SV:=fun Γ μ=>(ea Γ μ).bind fun p=>some (.nx,Γ,p.2)
theorem z5k (he:PE X e (tD K ea)) (hs:swapsWith e none pos.line X.env=pure false:=by rfl):PS X (.Expr e pos) (tDS K (z43 ea)):=z2j (zgt he hs) fun D σ H h=>by
  refine el5 h fun W Γ o Γ' μ' eH ok en e q=>?_;subst eH
  refine z05 e fun p1 e1 e=>?_
  cases e
  exact ⟨W,Γ,p1.1,p1.2,rfl,ok,en,e1,fun v W1 hμ ok1 s1 r1=>q W1 σ hμ ok1 s1 (en.step ok s1)⟩
noncomputable def z32 (ea:EV):SV:=fun Γ μ=>(ea Γ μ).bind fun p=>some (.rt p.1,Γ,p.2)
theorem z0t (he:PE X e (tD K ea)):PS X (.Return (some e) pos) (tDS K (z32 ea)):=z2j (zlw he) fun D σ H h=>by
  refine el5 h fun W Γ o Γ' μ' eH ok en e q=>?_;subst eH
  refine z05 e fun p1 e1 e=>?_
  cases e
  exact ⟨W,Γ,p1.1,p1.2,rfl,ok,en,e1,fun v W1 hμ ok1 s1 r1=>q W1 σ hμ ok1 s1 (en.step ok s1) v r1⟩
noncomputable def sIf (t:BV) (a b:SV):SV:=fun Γ μ=>(t Γ μ).bind fun p=>if p.1=true then a Γ p.2 else b Γ p.2
theorem z3e {c:Expr} {a b:List Stmt} {bc:BV} (hc:PT X c (tDB K bc)) (ha:PSs X a (tDS K sa)) (hb:PSs X b (tDS K sb)):PS X (.If c a b pos) (tDS K (sIf bc sa sb)):=z2j (zqr hc ha hb) fun D σ H h=>by
  refine el5 h fun W Γ o Γ' μ' eH ok en e q=>?_;subst eH
  refine z05 e fun p1 e1 e=>?_
  refine ⟨W,Γ,p1.1,p1.2,rfl,ok,en,e1,fun W1 hμ ok1 s1=>?_⟩
  split at e
  · rename_i hp;rw [if_pos hp];exact ⟨W1,Γ,o,Γ',μ',rfl,ok1,en.step ok s1,by rw [hμ];exact e,fun W2 σ2 hμ2 ok2 s2 en2=>q W2 σ2 hμ2 ok2 (s1.trans s2) en2⟩
  · rename_i hp;rw [if_neg hp];exact ⟨W1,Γ,o,Γ',μ',rfl,ok1,en.step ok s1,by rw [hμ];exact e,fun W2 σ2 hμ2 ok2 s2 en2=>q W2 σ2 hμ2 ok2 (s1.trans s2) en2⟩
noncomputable def z10 (ea:EV) (g:GV):SV:=fun Γ μ=>(ea Γ μ).bind fun p=>(g p.1 Γ p.2).bind fun q=>some (.nx,q.1,q.2)
theorem zjo {g:GV}:∀ D σ H,tDS K (z10 ea g) D σ H→ztk (tD K ea) (tDG K g) D σ H:=fun D σ H h=>by
  refine el5 h fun W Γ o Γ' μ' eH ok en e q=>?_;subst eH
  refine z05 e fun p1 e1 e=>?_
  refine z05 e fun p2 e2 e=>?_
  cases e
  exact ⟨W,Γ,p1.1,p1.2,rfl,ok,en,e1,fun v W1 hμ ok1 s1 r1=>⟨W1,Γ,p1.1,p2.1,p2.2,rfl,ok1,en.step ok s1,r1,by rw [hμ];exact e2,fun W2 σ2 hμ2 ok2 s2 en2=>q W2 σ2 hμ2 ok2 (s1.trans s2) en2⟩⟩
theorem zfi {tg:Expr} {g:GV} (he:PE X e (tD K ea)) (hg:PG X tg (tDG K g)) (hs:swapsWithSole [tg] e pos.line X.env=pure false:=by rfl) (hw:swappedStores [tg] e X.env=pure none:=by rfl)
    (h1:(assignEach [tg] X.env).map (·.2)=[assign tg X.env]:=by rfl):PS X (.Assign [tg] e pos) (tDS K (z10 ea g)):=z2j (zqs he hg hs hw h1) zjo
theorem z0s {i:Nat} {x:Str} {pos':Pos} (hN:X.N.Nodup) (hi:X.N[i]?=some x) (hx:Loc X.env.scope x) (he:PE X e (tD K ea)) (hs:swapsWith e (some (.Name x pos')) pos.line X.env=pure false:=by rfl) (hf:X.fn x=true∨X.env.scope.names.lookup x=some .local:=by first | exact .inl rfl | exact .inr rfl | assumption) :
    PS X (.Assign [.Name x pos'] e pos) (tDS K (z10 ea (z00 i))):=z2j (zlv hN hi hx he hs hf) fun D σ H h=>by
  refine el5 h fun W Γ o Γ' μ' eH ok en e q=>?_;subst eH
  refine z05 e fun p1 e1 e=>?_
  cases e
  exact ⟨W,Γ,p1.1,p1.2,rfl,ok,en,e1,fun v W1 hμ ok1 s1 r1=>q W1 _ hμ ok1 s1 ((en.step ok s1).set r1 i)⟩
noncomputable def sAug (i:Nat) (f:D→D→M→Option (D×M)) (ea:EV):SV:=fun Γ μ=>match Γ[i]? with
  | some (some x)=>(ea Γ μ).bind fun p=>(f x p.1 p.2).bind fun q=>some (.nx,Γ.set i (some q.1),q.2)
  | _=>none
noncomputable def zlj (c:BV) (body:SV):Nat→SV
  | 0,_,_=>none
  | n+1,Γ,μ=>(c Γ μ).bind fun p=>if p.1=true then (body Γ p.2).bind fun o=>match o.1 with
      | .nx=>zlj c body n o.2.1 o.2.2
      | .ct=>zlj c body n o.2.1 o.2.2
      | .bk=>some (.nx,o.2)
      | .rt d=>some (.rt d,o.2)
    else some (.nx,Γ,p.2)
noncomputable abbrev Ck:=Option (Nat×List D)
def z33:Ck→M→Prop
  | none,_=>True
  | some (k,raw),μ=>μ[k]?=some (some (.lst raw))
noncomputable abbrev IV:=G→M→Option ((List D×Ck)×M)
def JR (K:PySem.W.Frag) (W:Wd) (J:It) (its:List D) (c:Ck):Prop:=z33 c W.μ∧∃ ds vs,DRs K W ds vs∧∀ (W2:Wd) (i:Nat),Ok K W2→z33 c W2.μ→DRs K W2 ds vs →
  (its.length≤i→J.stop i W2.H)∧∀ d,its[i]?=some d→J.go i W2.H∧∀ x H',J.yld i W2.H x H'→∃ W3,W3.H=H'∧W3.μ=W2.μ∧Ok K W3∧Step W2 W3∧DR K W3 d x
def tDI (K:PySem.W.Frag) (iv:IV):TI:=fun σ H R=>∃ (W:Wd) (Γ:G) (its:List D) (c:Ck) (μ':M),W.H=H∧Ok K W∧EnvR K W Γ σ∧iv Γ W.μ=some ((its,c),μ')∧∀ J W',W'.μ=μ'→Ok K W'→Step W W'→JR K W' J its c→R J W'.H
theorem zec {tg iter:Expr} {t t':TI} (h:PI X tg iter t) (hi:∀ σ H R,t' σ H R→t σ H R):PI X tg iter t':=fun pins s σ H R I hw=>h pins s σ H R I (hi _ _ _ hw)
noncomputable def lsC (μ:M):D→Option (List D×Ck)
  | .lst ds=>some (ds,none)
  | .scr ds=>some (ds,none)
  | .ref k=>match μ[k]? with
    | some (some (.lst ds))=>some (ds,some (k,ds))
    | _=>none
  | _=>none
theorem zh9 {W:Wd} {d:D} {ds:List D} {c:Ck} {v:V} (ok:Ok K W) (h:lsC W.μ d=some (ds,c)) (r:DR K W d v) :
    z33 c W.μ∧∃ a,v=.ref a∧∀ W2,Ok K W2→z33 c W2.μ→DR K W2 d v→∃ vs,SqL K W2.H a vs∧DRs K W2 ds vs:=by
  cases d with
  | lst xs =>
    cases h
    cases r with
    | lst h n hs =>
      refine ⟨trivial,_,rfl,fun W2 _ _ r2=>?_⟩
      cases r2 with
      | lst h n hs=>exact ⟨_,SqL.of h,hs⟩
  | scr xs =>
    cases h
    cases r with
    | scr h hs =>
      refine ⟨trivial,_,rfl,fun W2 _ _ r2=>?_⟩
      cases r2 with
      | scr h hs=>exact ⟨_,h.seq,hs⟩
  | ref k =>
    simp only [lsC] at h
    split at h
    · rename_i xs hk
      cases h
      refine ⟨hk,?_⟩
      cases r with
      | ref ha =>
        refine ⟨_,rfl,fun W2 ok2 c2 r2=>?_⟩
        refine bq fun bG=>?_
        obtain ⟨a',vs,e,_,hh,hs⟩:=z72 ok2 c2 r2
        cases e
        exact bG (⟨vs,SqL.of hh,hs⟩)
    · cases h
  | _=>cases h
noncomputable def ivL (ea:EV):IV:=fun Γ μ=>(ea Γ μ).bind fun p=>(lsC p.2 p.1).bind fun s=>some (s,p.2)
theorem z15 {tg a:Expr} (ha:PE X a (tD K ea)) (hK:X.K=K:=by rfl):PI X tg a (tDI K (ivL ea)):=zec (iL K ha hK) fun σ H R h=>by
  refine el5 h fun W Γ its c μ' eH ok en e q=>?_;subst eH
  refine z05 e fun p1 e1 e=>?_
  refine z05 e fun s e2 e=>?_
  cases e
  refine ⟨W,Γ,p1.1,p1.2,rfl,ok,en,e1,fun v W1 hμ ok1 s1 r1=>?_⟩
  refine bq fun bG=>?_
  obtain ⟨c0,a,rfl,hh⟩:=zh9 ok1 (by rw [hμ];exact e2) r1
  obtain ⟨vs0,h0,_⟩:=hh W1 ok1 c0 r1
  refine bG (⟨a,rfl,⟨_,h0⟩,q (Itl K a) W1 hμ ok1 s1 ⟨c0,[p1.1],[.ref a],.cons r1 .nil,fun W2 i ok2 c2 r2=>?_⟩⟩)
  cases r2 with
  | cons r2 _ =>
    obtain ⟨vs,hs,hv⟩:=hh W2 ok2 c2 r2
    refine ⟨fun hi=>⟨vs,hs,by rw [← hv.length];exact hi⟩,fun d hd=>?_⟩
    refine bq fun bG=>?_
    obtain ⟨v,hv1,hv2⟩:=hv.get hd
    refine bG (⟨⟨vs,v,hs,hv1⟩,fun x H' y=>?_⟩)
    obtain ⟨rfl,y⟩:=y
    have:=y vs hs
    rw [hv1] at this
    cases this
    exact ⟨W2,rfl,rfl,ok2,.refl,hv2⟩
noncomputable def z4w (lo:Int) (n:Nat):List D:=(List.range n).map fun k:Nat=>D.int (lo+k)
theorem zdt {W:Wd} {lo:Int} {n:Nat}:JR K W (Itr lo n) (z4w lo n) none:=by
  refine ⟨trivial,[],[],.nil,fun W2 i ok2 _ _=>⟨fun hi=>?_,fun d hd=>?_⟩⟩
  · show n≤i
    simpa [z4w] using hi
  · have hlt:=(List.getElem?_eq_some_iff.mp hd).1
    simp [z4w] at hlt
    simp [z4w,hlt] at hd
    subst hd
    refine ⟨hlt,fun x H' y=>?_⟩
    refine bq fun bG=>?_
    obtain ⟨rfl,rfl⟩:=y
    exact bG (⟨W2,rfl,rfl,ok2,.refl,.int _⟩)
noncomputable def ivR (ea:EV):IV:=fun Γ μ=>(ea Γ μ).bind fun p=>match p.1 with
  | .int j=>if -1000000000≤j∧j≤1000000000 then some ((z4w 0 j.toNat,none),p.2) else none
  | _=>none
theorem z3k (mr:X.mg "range" = none) {tg a:Expr} {p:Pos} (ha:PE X a (tD K ea)) (hg:Gl X "range" := by rfl) (hs:starEach [a] X.env=[(false,eval a X.env)]:=by rfl):PI X tg (.Call (.Name "range" p) [a] [] pos) (tDI K (ivR ea)):=zec (iR mr ha hg hs) fun σ H R h=>by
  refine el5 h fun W Γ its c μ' eH ok en e q=>?_;subst eH
  refine z05 e fun p1 e1 e=>?_
  split at e
  · rename_i j hj
    split at e
    · rename_i hb
      cases e
      refine ⟨W,Γ,p1.1,p1.2,rfl,ok,en,e1,fun v W1 hμ ok1 s1 r1=>?_⟩
      rw [hj] at r1
      cases r1
      exact ⟨j,rfl,by omega,by omega,q _ W1 hμ ok1 s1 zdt⟩
    · cases e
  · cases e
noncomputable def z5b (c:Ck) (g:GV) (body:SV):List D→SV
  | [],Γ,μ=>some (.nx,Γ,μ)
  | d::r,Γ,μ=>(g d Γ μ).bind fun p=>(body p.1 p.2).bind fun o=>match o.1 with
    | .nx=>chk (z33 c o.2.2) (z5b c g body r o.2.1 o.2.2)
    | .ct=>chk (z33 c o.2.2) (z5b c g body r o.2.1 o.2.2)
    | .bk=>some (.nx,o.2)
    | .rt d=>some (.rt d,o.2)
noncomputable def z82 (iv:IV) (g:GV) (body:SV):SV:=fun Γ μ=>(iv Γ μ).bind fun s=>z5b s.1.2 g body s.1.1 Γ s.2
theorem z3f {tg iter:Expr} {body:List Stmt} {iv:IV} {g:GV} (hp:PassesOwn (model X.prog X.w) X.A X.env X.xe) (hc:X.calm=true) (hi:PI X tg iter (tDI K iv)) (hg:PG X tg (tDG K g)) (hb:PSs X body (tDS K sb))
    (hs:∀ x,foldedSetIterable iter X.env x=pure x:=by intro _;rfl):PS X (.For tg iter body [] pos) (tDS K (z82 iv g sb)):=z2j (zlx hp hc hi hg hb hs) fun D σ H h=>by
  refine el5 h fun W Γ o Γ' μ' eH ok en e q=>?_;subst eH
  refine bq fun bG=>?_
  obtain ⟨⟨⟨its,c⟩,μ1⟩,e1,e⟩:=bnd e
  refine bG (⟨W,Γ,its,c,μ1,rfl,ok,en,e1,fun J W1 hμ1 ok1 s1 jr=>?_⟩)
  obtain ⟨c1,ds,vs,r1,hj⟩:=jr
  obtain ⟨P,hP⟩:∃ P:Nat→St→Hp→Prop,∀ i σ2 H2,P i σ2 H2↔(i≤its.length∧∃ W2 Γ2,W2.H=H2∧Ok K W2∧Step W1 W2∧EnvR K W2 Γ2 σ2∧z33 c W2.μ∧z5b c g sb (its.drop i) Γ2 W2.μ=some (o,Γ',μ')):=⟨_,fun _ _ _=>Iff.rfl⟩
  refine ⟨fun i m σ2 H2=>m=its.length - i∧P i σ2 H2,⟨its.length,by simp,(hP _ _ _).2 ⟨Nat.zero_le _,W1,Γ,rfl,ok1,.refl,en.step ok s1,c1,by rw [hμ1];exact e⟩⟩,?_⟩
  rintro i m σ2 H2 ⟨rfl,hi⟩
  refine bq fun hG=>?_
  obtain ⟨hi,W2,Γ2,rfl,ok2,s2,en2,c2,e2⟩:=(hP _ _ _).1 hi
  obtain ⟨hstop,hgo⟩:=hj W2 i ok2 c2 (r1.step ok1 s2)
  by_cases hlt:i<its.length
  · have hd:its[i]?=some its[i]:=List.getElem?_eq_getElem hlt
    refine bq fun bG=>?_
    obtain ⟨h1,h2⟩:=hgo _ hd
    rw [List.drop_eq_getElem_cons hlt] at e2
    refine z05 e2 fun p e3 e2=>?_
    obtain ⟨⟨o4,Γ4,μ4⟩,e4,e2⟩:=bnd e2
    refine bG (hG (.inr ⟨h1,P (i+1),fun σ' H' hN=>⟨its.length - (i+1),by omega,rfl,hN⟩,fun x H' hy=>?_⟩))
    refine bq fun hF=>?_
    obtain ⟨W3,rfl,hμ3,ok3,s3,r3⟩:=h2 x H' hy
    refine hF ⟨W3,Γ2,its[i],p.1,p.2,rfl,ok3,en2.step ok2 s3,r3,by rw [hμ3];exact e3,fun W4 σ4 hμ4 ok4 s4 en4=>⟨W4,p.1,o4,Γ4,μ4,rfl,ok4,en4,by rw [hμ4];exact e4,fun W5 σ5 hμ5 ok5 s5 en5=>?_⟩⟩
    have st:=s2.trans (s3.trans (s4.trans s5))
    cases o4 with
    | nx=>refine z3x e2 fun hc5 e2=>?_;exact (hP _ _ _).2 ⟨hlt,W5,Γ4,rfl,ok5,st,en5,by rw [hμ5];exact hc5,by rw [hμ5];exact e2⟩
    | ct=>refine z3x e2 fun hc5 e2=>?_;exact (hP _ _ _).2 ⟨hlt,W5,Γ4,rfl,ok5,st,en5,by rw [hμ5];exact hc5,by rw [hμ5];exact e2⟩
    | bk=>cases e2;exact q W5 σ5 hμ5 ok5 (s1.trans st) en5
    | rt d=>cases e2;exact q W5 σ5 hμ5 ok5 (s1.trans st) en5
  · have e':i=its.length:=by omega
    subst e'
    rw [List.drop_eq_nil_of_le (Nat.le_refl _)] at e2
    cases e2
    exact hG (.inl ⟨hstop (Nat.le_refl _),q W2 σ2 rfl ok2 (s1.trans s2) en2⟩)
end
structure StepB (p:Addr) (W W':Wd):Prop where
  ρ:∀ (k:Nat) a,W.ρ[k]?=some a→W'.ρ[k]?=some a
  live:∀ a,RL W' a→RL W a∨W.H a=none
  keep:∀ a o,a≠p→W.H a=some o→¬ RL W a→W'.H a=some o
  hid:W'.hid=W.hid
  still:∀ a,W.H a≠none→W'.H a≠none
section
variable {K:PySem.W.Frag} {W W' W'':Wd} {p:Addr}
theorem Step.b (s:Step W W'):StepB p W W':=⟨s.ρ,s.live,fun a o _ h n=>s.keep a o h n,s.hid,s.still⟩
theorem StepB.nlive (s:StepB p W W') {a:Addr} {o:HO} (h:W.H a=some o) (n:¬ RL W a):¬ RL W' a:=fun z=>by
  rcases s.live a z with z | z
  · exact n z
  · rw [h] at z;cases z
theorem StepB.trans (s:StepB p W W') (t:StepB p W' W''):StepB p W W'' where
  ρ k a h:=t.ρ k a (s.ρ k a h)
  live a h:=by
    rcases t.live a h with z | z
    · exact s.live a z
    · exact .inr (Classical.byContradiction fun n=>s.still a n z)
  keep a o hp h n:=t.keep a o hp (s.keep a o hp h n) (s.nlive h n)
  hid:=t.hid.trans s.hid
  still a h:=t.still a (s.still a h)
mutual
theorem DR.stepB (ok:Ok K W) (hp:W.hid p) (hl:∃ ys,W.H p=some (.lst ys)) (s:StepB p W W'):∀ {d:D} {v:V},DR K W d v→DR K W' d v
  | _,_,.non=>.non
  | _,_,.bl b=>.bl b
  | _,_,.int i=>.int i
  | _,_,.str x=>.str x
  | _,_,.ref h=>.ref (s.ρ _ _ h)
  | _,_,.lst r n h=>.lst (s.keep _ _ (fun z=>n (.inr (by rw [z];exact hp))) r (fun z=>n (.inl z))) (fun z=>z.elim (s.nlive r (fun z=>n (.inl z))) (fun z=>n (.inr (by rw [s.hid] at z;exact z)))) (DRs.stepB ok hp hl s h)
  | _,_,.scr r h=>.scr (by
      rcases r with ⟨o,r⟩ | r
      · obtain ⟨ys,hl⟩:=hl
        exact .inl ⟨o,s.keep _ _ (fun z=>by rw [z,hl] at r;cases r) r (ok.nofrz r)⟩
      · exact .inr r) (DRs.stepB ok hp hl s h)
  | _,_,.tup r h=>.tup (by
      obtain ⟨ys,hl⟩:=hl
      exact s.keep _ _ (fun z=>by rw [z,hl] at r;cases r) r (ok.notup (.inl r))) (DRs.stepB ok hp hl s h)
  | _,_,.gt r h=>.gt (by
      rcases r with r | r
      · have n:=ok.notup r
        obtain ⟨ys,hl⟩:=hl
        rcases r with r | ⟨o,r⟩
        · exact .inl (.inl (s.keep _ _ (fun z=>by rw [z,hl] at r;cases r) r n))
        · exact .inl (.inr ⟨o,s.keep _ _ (fun z=>by rw [z,hl] at r;cases r) r n⟩)
      · exact .inr r) (DRs.stepB ok hp hl s h)
theorem DRs.stepB (ok:Ok K W) (hp:W.hid p) (hl:∃ ys,W.H p=some (.lst ys)) (s:StepB p W W'):∀ {ds:List D} {vs:List V},DRs K W ds vs→DRs K W' ds vs
  | _,_,.nil=>.nil
  | _,_,.cons h t=>.cons (h.stepB ok hp hl s) (DRs.stepB ok hp hl s t)
end
theorem OR.stepB (ok:Ok K W) (hp:W.hid p) (hl:∃ ys,W.H p=some (.lst ys)) (s:StepB p W W') {a:Addr} {o:O} {ho:HO} (h:OR K W a o ho):OR K W' a o ho:=by
  cases o with
  | lst ds=>obtain ⟨vs,e,q⟩:=h;exact ⟨vs,e,q.stepB ok hp hl s⟩
  | dK kvs=>obtain ⟨vs,e,q⟩:=h;exact ⟨vs,e,Paired.mapP q fun _ _ ⟨e,q⟩=>⟨e,q.stepB ok hp hl s⟩⟩
  | ins C fs=>obtain ⟨vs,e,q⟩:=h;exact ⟨vs,e,Paired.mapP q fun _ _ ⟨e,q⟩=>⟨e,q.stepB ok hp hl s⟩⟩
  | exc C=>exact h
theorem EnvR.stepB {Γ:G} {σ:St} (e:EnvR K W Γ σ) (ok:Ok K W) (hp:W.hid p) (hl:∃ ys,W.H p=some (.lst ys)) (s:StepB p W W'):EnvR K W' Γ σ:=⟨e.len,fun i d h=>let ⟨v,a,b⟩:=e.at_ i d h;⟨v,a,b.stepB ok hp hl s⟩⟩
noncomputable def Wd.re (W:Wd) (p:Addr) (o:HO):Wd:={ W with H:=upd W.H p o }
theorem z2k {o:HO}:StepB p W (W.re p o) where
  ρ _ _ h:=h
  live _ h:=.inl h
  keep a u hp e _:=by show upd W.H p o a=_;rw [z0h hp];exact e
  hid:=rfl
  still a n:=by
    show upd W.H p o a≠none
    by_cases e:a=p
    · subst e;rw [z0k];simp
    · rw [z0h e];exact n
theorem zrd (ok:Ok K W) (hp:W.hid p) (hl:∃ ys,W.H p=some (.lst ys)) {o:HO}:Ok K (W.re p o) where
  len:=ok.len
  nd:=ok.nd
  rs a m:=(z2k (W:=W) (p:=p) (o:=o)).still a (ok.rs a m)
  at_ k u e:=by
    obtain ⟨a,ho,h1,h2,h3⟩:=ok.at_ k u e
    have hne:a≠p:=fun z=>(ok.hd p hp).2 (z ▸ ⟨k,u,e,h1⟩)
    exact ⟨a,ho,h1,by show upd W.H p o a=_;rw [z0h hne];exact h2,h3.stepB ok hp hl z2k⟩
  hd0 a z:=⟨(z2k (W:=W) (p:=p) (o:=o)).still a (ok.hd a z).1,(ok.hd0 a z).2⟩
mutual
theorem DR.hide (hp:W.H p=none) (ok:Ok K W) {o:HO}:∀ {d:D} {v:V},DR K W d v→DR K (W.hide p o) d v
  | _,_,.non=>.non
  | _,_,.bl b=>.bl b
  | _,_,.int i=>.int i
  | _,_,.str x=>.str x
  | _,_,.ref h=>.ref h
  | _,_,.lst r n h=>.lst (by show upd W.H p o _=_;rw [z0h (z0o r hp)];exact r) (fun z=>z.elim (fun z=>n (.inl z)) (fun z=>z.elim (fun z=>by rw [z,hp] at r;cases r) (fun z=>n (.inr z)))) (DRs.hide hp ok h)
  | _,_,.scr r h=>.scr (zg3 ok (z0m hp) r) (DRs.hide hp ok h)
  | _,_,.tup r h=>.tup (by show upd W.H p o _=_;rw [z0h (z0o r hp)];exact r) (DRs.hide hp ok h)
  | _,_,.gt r h=>.gt (zfv ok (z0m hp) r) (DRs.hide hp ok h)
theorem DRs.hide (hp:W.H p=none) (ok:Ok K W) {o:HO}:∀ {ds:List D} {vs:List V},DRs K W ds vs→DRs K (W.hide p o) ds vs
  | _,_,.nil=>.nil
  | _,_,.cons h t=>.cons (h.hide hp ok) (DRs.hide hp ok t)
end
theorem OR.hide (hp:W.H p=none) (ok:Ok K W) {o:HO} {a:Addr} {x:O} {ho:HO} (h:OR K W a x ho):OR K (W.hide p o) a x ho:=by
  cases x with
  | lst ds=>obtain ⟨vs,e,q⟩:=h;exact ⟨vs,e,q.hide hp ok⟩
  | dK kvs=>obtain ⟨vs,e,q⟩:=h;exact ⟨vs,e,Paired.mapP q fun _ _ ⟨e,q⟩=>⟨e,q.hide hp ok⟩⟩
  | ins C fs=>obtain ⟨vs,e,q⟩:=h;exact ⟨vs,e,Paired.mapP q fun _ _ ⟨e,q⟩=>⟨e,q.hide hp ok⟩⟩
  | exc C=>exact h
theorem EnvR.hide {Γ:G} {σ:St} (e:EnvR K W Γ σ) (hp:W.H p=none) (ok:Ok K W) {o:HO}:EnvR K (W.hide p o) Γ σ:=⟨e.len,fun i d h=>let ⟨v,a,b⟩:=e.at_ i d h;⟨v,a,b.hide hp ok⟩⟩
theorem z99 (ok:Ok K W) (hp:W.H p=none) {o:HO}:Ok K (W.hide p o) where
  len:=ok.len
  nd:=ok.nd
  rs a m:=(z0m (o:=o) hp).still a (ok.rs a m)
  at_ k u e:=by
    obtain ⟨a,ho,h1,h2,h3⟩:=ok.at_ k u e
    exact ⟨a,ho,h1,by show upd W.H p o a=_;rw [z0h (z0o h2 hp)];exact h2,h3.hide hp ok⟩
  hd0 a z:=by
    rcases z with rfl | z
    · exact ⟨by show upd W.H a o a≠none;rw [z0k];simp,fun m=>ok.rs a m hp⟩
    · exact ⟨(z0m (o:=o) hp).still a (ok.hd a z).1,(ok.hd0 a z).2⟩
noncomputable def Wd.show (W:Wd) (h:Addr→Prop):Wd:={ W with hid:=h }
mutual
theorem DR.show {h:Addr→Prop} (hs:∀ a,h a→W.hid a):∀ {d:D} {v:V},DR K W d v→DR K (W.show h) d v
  | _,_,.non=>.non
  | _,_,.bl b=>.bl b
  | _,_,.int i=>.int i
  | _,_,.str x=>.str x
  | _,_,.ref h=>.ref h
  | _,_,.lst r n h=>.lst r (fun z=>n (z.elim .inl (fun z=>.inr (hs _ z)))) (DRs.show hs h)
  | _,_,.scr r h=>.scr r (DRs.show hs h)
  | _,_,.tup r h=>.tup r (DRs.show hs h)
  | _,_,.gt r h=>.gt r (DRs.show hs h)
theorem DRs.show {h:Addr→Prop} (hs:∀ a,h a→W.hid a):∀ {ds:List D} {vs:List V},DRs K W ds vs→DRs K (W.show h) ds vs
  | _,_,.nil=>.nil
  | _,_,.cons h t=>.cons (h.show hs) (DRs.show hs t)
end
theorem zo0 (ok:Ok K W) {h:Addr→Prop} (hs:∀ a,h a→W.hid a):Ok K (W.show h) where
  len:=ok.len
  nd:=ok.nd
  rs:=ok.rs
  at_ k u e:=by
    refine bq fun bG=>?_
    obtain ⟨a,ho,h1,h2,h3⟩:=ok.at_ k u e
    refine bG (⟨a,ho,h1,h2,?_⟩)
    cases u with
    | lst ds=>obtain ⟨vs,e,q⟩:=h3;exact ⟨vs,e,q.show hs⟩
    | dK kvs=>obtain ⟨vs,e,q⟩:=h3;exact ⟨vs,e,Paired.mapP q fun _ _ ⟨e,q⟩=>⟨e,q.show hs⟩⟩
    | ins C fs=>obtain ⟨vs,e,q⟩:=h3;exact ⟨vs,e,Paired.mapP q fun _ _ ⟨e,q⟩=>⟨e,q.show hs⟩⟩
    | exc C=>exact h3
  hd0 a z:=ok.hd0 a (hs a z)
theorem zbz {o:HO} (hp:W.H p=none) (s:StepB p (W.hide p o) W'):Step W (W'.show W.hid) where
  ρ k a h:=s.ρ k a h
  live a z:=by
    rcases s.live a z with z | z
    · exact .inl z
    · have z:upd W.H p o a=none:=z
      by_cases e:a=p
      · subst e;rw [z0k] at z;cases z
      · rw [z0h e] at z;exact .inr z
  keep a u e n:=s.keep a u (z0o e hp) (by show upd W.H p o a=_;rw [z0h (z0o e hp)];exact e) n
  hid:=rfl
  still a n:=s.still a (by
    show upd W.H p o a≠none
    by_cases e:a=p
    · subst e;rw [z0k];simp
    · rw [z0h e];exact n)
theorem z4y (ok:Ok K W) (hp:W.hid p):¬ RL W p:=(ok.hd p hp).2
end
noncomputable def z4r (own:List Str) (cap:List (Str×Nat)) (Γ:G):G:=own.map (fun _=>none)++cap.map fun p=>(Γ[p.2]?).join
theorem EnvR.cap {K:PySem.W.Frag} {W:Wd} {Γ:G} {σ:St} (e:EnvR K W Γ σ) (own:List Str) (cap:List (Str×Nat)):EnvR K W (z4r own cap Γ) (z3c own cap σ) where
  len:=by simp [z4r,z3c]
  at_ i d h:=by
    unfold z4r at h
    unfold z3c
    by_cases hi:i<own.length
    · rw [List.getElem?_append_left (by simpa using hi)] at h
      simp [hi] at h
    · rw [List.getElem?_append_right (by simpa using hi)] at h ⊢
      simp only [List.length_map,List.getElem?_map] at h ⊢
      cases hc:cap[i - own.length]? with
      | none=>rw [hc] at h;cases h
      | some p =>
        rw [hc] at h
        simp only [Option.map_some] at h ⊢
        cases hg:Γ[p.2]? with
        | none=>rw [hg] at h;cases h
        | some x =>
          rw [hg] at h
          cases x with
          | none=>cases h
          | some d' =>
            cases h
            obtain ⟨v,hv,r⟩:=e.at_ _ _ hg
            exact ⟨v,by rw [hv];rfl,r⟩
noncomputable def z2s (c:Ck) (g:GV) (tc:BV) (te:EV):List D→G→M→Option (List D×M)
  | [],_,μ=>some ([],μ)
  | d::r,Γ,μ=>(g d Γ μ).bind fun p=>(tc p.1 p.2).bind fun t=>if t.1=true then (te p.1 t.2).bind fun v=>chk (z33 c v.2) ((z2s c g tc te r p.1 v.2).bind fun q=>some (v.1::q.1,q.2)) else chk (z33 c t.2) (z2s c g tc te r p.1 t.2)
noncomputable def z1i:BV:=fun _ μ=>some (true,μ)
section
variable {X:Cx} {K:PySem.W.Frag} {N' own:List Str} {cap:List (Str×Nat)} {scope:Scope} {tg iter elt:Expr} {ifs:List Expr} {pos:Pos} {iv:IV} {g:GV} {tc:BV} {te:EV}
theorem zp4 {t t':TT} (h:PIf X ifs t) (hi:∀ σ H Q,t' σ H Q→t σ H Q):PIf X ifs t':=fun pins s σ H Q I hw=>h pins s σ H Q I (hi _ _ _ hw)
theorem z1o:PIf X [] (tDB K z1i):=zp4 znn fun σ H Q h=>by
  refine el4 h fun W Γ b μ' eH ok en e q=>?_;subst eH
  cases e
  exact q W rfl ok .refl
theorem zbt {c:Expr} (h:PT X c (tDB K tc)):PIf X [c] (tDB K tc):=znm h
theorem z8t {W1:Wd} {J:It} {its:List D} {c:Ck} {Γ0:G} {σ0:St} {rs:List D} {μ':M} {p:Addr} {Z:Hp→Prop} (ok1:Ok K W1) (hp:W1.H p=none) (jr:JR K W1 J its c) (en:EnvR K W1 Γ0 σ0) (hl:its.length≤1000000)
    (e:z2s c g tc te its Γ0 W1.μ=some (rs,μ')) (hZ:∀ W' ys,W'.μ=μ'→Ok K W'→StepB p (W1.hide p (.lst [])) W'→W'.hid p→W'.H p=some (.lst ys)→DRs K W' rs ys→Z W'.H) :
    z3i J (tDG K g) (tDB K tc) (tD K te) p σ0 W1.H Z:=by
  obtain ⟨c1,ds,vs,r1,hj⟩:=jr
  obtain ⟨P,hP⟩:∃ P:Nat→St→Hp→Prop,∀ i σ2 H2,P i σ2 H2↔(i≤its.length∧∃ W2 Γ2 done z1y ys,W2.H=H2∧Ok K W2∧StepB p (W1.hide p (.lst [])) W2∧W2.hid p∧W2.H p=some (.lst ys)∧DRs K W2 done ys∧ys.length≤i∧EnvR K W2 Γ2 σ2∧z33 c W2.μ∧z2s c g tc te (its.drop i) Γ2 W2.μ=some (z1y,μ')∧done++z1y=rs):=⟨_,fun _ _ _=>Iff.rfl⟩
  refine ⟨fun i m σ2 H2=>m=its.length - i∧P i σ2 H2,?_,?_⟩
  · exact ⟨its.length,by simp,(hP _ _ _).2 ⟨Nat.zero_le _,W1.hide p (.lst []),Γ0,[],rs,[],rfl,z99 ok1 hp,⟨fun _ _ h=>h,fun _ h=>.inl h,fun _ _ _ h _=>h,rfl,fun _ h=>h⟩,.inl rfl,z0k,.nil,Nat.le_refl _,en.hide hp ok1,c1,e,rfl⟩⟩
  rintro i m σ2 H2 ⟨rfl,hi⟩
  refine bq fun hG=>?_
  obtain ⟨hi,W2,Γ2,done,z1y,ys,rfl,ok2,s2,hp2,hy2,rd,hyl,en2,c2,e2,ed⟩:=(hP _ _ _).1 hi
  have rj:DRs K W2 ds vs:=(r1.hide hp ok1).stepB (z99 ok1 hp) (.inl rfl) ⟨[],z0k⟩ s2
  obtain ⟨hstop,hgo⟩:=hj W2 i ok2 c2 rj
  by_cases hlt:i<its.length
  · have hd:its[i]?=some its[i]:=List.getElem?_eq_getElem hlt
    refine bq fun bG=>?_
    obtain ⟨h1,h2⟩:=hgo _ hd
    rw [List.drop_eq_getElem_cons hlt] at e2
    refine z05 e2 fun pg e3 e2=>?_
    refine z05 e2 fun pt e4 e2=>?_
    refine bG (hG (.inr ⟨h1,P (i+1),fun σ' H' hN=>⟨its.length - (i+1),by omega,rfl,hN⟩,fun x H' hy=>?_⟩))
    refine bq fun hF=>?_
    obtain ⟨W3,rfl,hμ3,ok3,s3,r3⟩:=h2 x H' hy
    refine hF ⟨W3,Γ2,its[i],pg.1,pg.2,rfl,ok3,en2.step ok2 s3,r3,by rw [hμ3];exact e3,fun W4 σ4 hμ4 ok4 s4 en4=>⟨W4,pg.1,pt.1,pt.2,rfl,ok4,en4,by rw [hμ4];exact e4,fun W5 hμ5 ok5 s5=>?_⟩⟩
    have s25:=s3.trans (s4.trans s5)
    split at e2
    · rename_i ht
      refine z05 e2 fun pv e5 e2=>?_
      refine z3x e2 fun c5 e2=>?_
      refine z05 e2 fun pq e6 e2=>?_
      cases e2
      refine zma (fun _=>?_) (fun n=>absurd ht n)
      refine ⟨W5,pg.1,pv.1,pv.2,rfl,ok5,en4.step ok4 s5,by rw [hμ5];exact e5,fun v W6 hμ6 ok6 s6 r6=>?_⟩
      have s26:=s25.trans s6
      have hp6:W6.hid p:=by rw [s26.hid];exact hp2
      have hy6:W6.H p=some (.lst ys):=s26.keep _ _ hy2 (z4y ok2 hp2)
      have rd6:=rd.step ok2 s26
      refine ⟨ys,hy6,z79 (by omega),(hP _ _ _).2 ⟨hlt,W6.re p (.lst (ys++[v])),pg.1,done++[pv.1],pq.1,ys++[v],rfl,zrd ok6 hp6 ⟨_,hy6⟩,(s2.trans s26.b).trans z2k,hp6,z0k,?_,by simp;omega,(((en4.step ok4 s5).step ok5 s6).stepB ok6 hp6 ⟨_,hy6⟩ z2k),by show z33 c W6.μ;rw [hμ6];exact c5,by show z2s c g tc te _ _ W6.μ=_;rw [hμ6];exact e6,by simpa using ed⟩⟩
      exact (rd6.append (.cons r6 .nil)).stepB ok6 hp6 ⟨_,hy6⟩ z2k
    · rename_i ht
      refine z3x e2 fun c5 e2=>?_
      refine zma (fun n=>absurd n ht) (fun _=>?_)
      exact (hP _ _ _).2 ⟨hlt,W5,pg.1,done,z1y,ys,rfl,ok5,s2.trans s25.b,by rw [s25.hid];exact hp2,s25.keep _ _ hy2 (z4y ok2 hp2),rd.step ok2 s25,by omega,en4.step ok4 s5,by rw [hμ5];exact c5,by rw [hμ5];exact e2,ed⟩
  · have e':i=its.length:=by omega
    subst e'
    rw [List.drop_eq_nil_of_le (Nat.le_refl _)] at e2
    cases e2
    rw [List.append_nil] at ed
    subst ed
    exact hG (.inl ⟨hstop (Nat.le_refl _),hZ W2 ys rfl ok2 s2 hp2 hy2 rd⟩)
noncomputable def z1d (own:List Str) (cap:List (Str×Nat)) (iv:IV) (g:GV) (tc:BV) (te:EV):EV:=fun Γ μ=>(iv Γ μ).bind fun s=>if s.1.1.length≤1000000 then (z2s s.1.2 g tc te s.1.1 (z4r own cap Γ) s.2).bind fun q=>some (.lst q.1,q.2) else none
theorem z7r {W W1 W':Wd} {p:Addr} {rs:List D} {ys:List V} (s1:Step W W1) (hp:W1.H p=none) (ok1:Ok K W1) (ok':Ok K W') (s:StepB p (W1.hide p (.lst [])) W') (hp':W'.hid p) (hy:W'.H p=some (.lst ys)) (r:DRs K W' rs ys) :
    Ok K (W'.show W1.hid)∧Step W (W'.show W1.hid)∧DR K (W'.show W1.hid) (.lst rs) (.ref p):=by
  have hs:∀ a,W1.hid a→W'.hid a:=fun a z=>by rw [s.hid];exact .inr z
  refine ⟨zo0 ok' hs,s1.trans (zbz hp s),.lst hy (fun z=>?_) (r.show hs)⟩
  rcases z with z | z
  · exact z4y ok' hp' z
  · exact z8r ok1 hp z
theorem zd9 {W:Wd} {Γ:G} {σ:St} {d:D} {μ':M} (ok:Ok K W) (en:EnvR K W Γ σ) (e:z1d own cap iv g tc te Γ W.μ=some (d,μ')) {Z:Addr→Hp→Prop} (q:∀ v W',W'.μ=μ'→Ok K W'→Step W W'→DR K W' d v→∀ p,v=.ref p→Z p W'.H) :
    tDI K iv σ W.H fun J H1=>∀ p,H1 p=none→z3i J (tDG K g) (tDB K tc) (tD K te) p (z3c own cap σ) H1 (Z p):=by
  refine bq fun bG=>?_
  obtain ⟨⟨⟨its,c⟩,μ1⟩,e1,e⟩:=bnd e
  refine bG (⟨W,Γ,its,c,μ1,rfl,ok,en,e1,fun J W1 hμ1 ok1 s1 jr p hp=>?_⟩)
  split at e
  · rename_i hl
    obtain ⟨⟨rs,μ2⟩,e2,e⟩:=bnd e
    cases e
    refine z8t ok1 hp jr ((en.step ok s1).cap own cap) hl (by rw [hμ1];exact e2) fun W' ys hμ' ok' s' hp' hy r=>?_
    refine bq fun bG=>?_
    obtain ⟨a1,a2,a3⟩:=z7r s1 hp ok1 ok' s' hp' hy r
    exact bG (q _ (W'.show W1.hid) hμ' a1 a2 a3 p rfl)
  · cases e
theorem z5e (S:CompScope X N' own cap scope) (hi:PI X tg iter (tDI K iv))
    (hg:∀ cl C s₀ H₀ ex,PG (z0a X N' scope cl C s₀ H₀ ex) tg (tDG K g)) (ht:∀ cl C s₀ H₀ ex,PIf (z0a X N' scope cl C s₀ H₀ ex) ifs (tDB K tc)) (he:∀ cl C s₀ H₀ ex,PE (z0a X N' scope cl C s₀ H₀ ex) elt (tD K te))
    (hx:∀ e s,X.xe e s→False:=by exact fun _ _ z=>z) (hc:X.calm=true:=by rfl) (hs:∀ x,foldedSetIterable iter X.env x=pure x:=by intro _;rfl) :
    PE X (.ListComp elt [⟨tg,iter,ifs,0⟩] scope pos) (tD K (z1d own cap iv g tc te)):=z0l (znt S hi hg ht he hx hc hs) fun σ H Q h=>by
  refine el4 h fun W Γ d μ' eH ok en e q=>?_;subst eH
  exact zd9 ok en e fun v W' h1 h2 h3 h4 p hv=>by subst hv;exact q _ W' h1 h2 h3 h4
theorem z8e {i:Nat} {y:Str} {py spos:Pos} (hN:X.N.Nodup) (hi':X.N[i]?=some y) (hy:X.env.scope.names.lookup y=some .local) (S:CompScope X N' own cap scope) (hi:PI X tg iter (tDI K iv))
    (hg:∀ cl C s₀ H₀ ex,PG (z0a X N' scope cl C s₀ H₀ ex) tg (tDG K g)) (ht:∀ cl C s₀ H₀ ex,PIf (z0a X N' scope cl C s₀ H₀ ex) ifs (tDB K tc)) (he:∀ cl C s₀ H₀ ex,PE (z0a X N' scope cl C s₀ H₀ ex) elt (tD K te))
    (hsw:swapsWith (.ListComp elt [⟨tg,iter,ifs,0⟩] scope pos) (some (.Name y py)) spos.line X.env=pure true:=by rfl)
    (hx:∀ e s,X.xe e s→False:=by exact fun _ _ z=>z) (hc:X.calm=true:=by rfl) (hs:∀ x,foldedSetIterable iter X.env x=pure x:=by intro _;rfl) :
    PS X (.Assign [.Name y py] (.ListComp elt [⟨tg,iter,ifs,0⟩] scope pos) spos) (tDS K (z10 (z1d own cap iv g tc te) (z00 i))):=z2j (zer hN hi' hy S hi hg ht he hsw hx hc hs) fun D σ H h=>by
  refine el5 h fun W Γ o Γ' μ' eH ok en e q=>?_;subst eH
  refine z05 e fun p1 e1 e=>?_
  cases e
  exact zd9 (Z:=fun p H2=>D.nx (σ.set i (some (.ref p))) H2) ok en e1 fun v W' h1 h2 h3 h4 p hv=>by subst hv;exact q W' _ h1 h2 h3 ((en.step ok h3).set h4 i)
end
open PyProof.Rows (envOfC)
noncomputable def z6j (n m:Nat) (es:SV):List D→M→Option (D×M):=fun ds μ=>if ds.length=m then (es (ds.map some++List.replicate (n - ds.length) none) μ).bind fun o=>match o.1 with
    | .rt d=>some (d,o.2.2)
    | .nx=>some (.non,o.2.2)
    | _=>none
  else none
section
variable {P:Program} {w:World} {K:PySem.W.Frag} {mg:Str→Option Value} {base:Heap}
theorem zb3 {W:Wd} {ds:List D} {vs:List V} {n:Nat} (r:DRs K W ds vs):EnvR K W (ds.map some++List.replicate (n - ds.length) none) (vs.map some++List.replicate (n - vs.length) none) where
  len:=by simp [r.length]
  at_ i d h:=by
    by_cases hi:i<ds.length
    · rw [List.getElem?_append_left (by simpa using hi)] at h
      rw [List.getElem?_append_left (by simpa using r.length ▸ hi)]
      simp only [List.getElem?_map] at h ⊢
      cases hd:ds[i]? with
      | none=>rw [hd] at h;cases h
      | some d' =>
        rw [hd] at h
        cases h
        obtain ⟨v,hv,q⟩:=r.get hd
        exact ⟨v,by rw [hv];rfl,q⟩
    · rw [List.getElem?_append_right (by simpa using hi)] at h
      simp [List.getElem?_replicate] at h
theorem z9k {x qual:Str} {st:Stmt} {f:Addr} {fd:FuncData} {N ps:List Str} {k:Nat} {es:SV} (F:Fun K x qual st f fd) (S:FnScope N ps (z07 st))
    (hb:∀ (cdv:Value) (A:Around) (outer:List Env) (s:Shared) (H:Hp) (E:XK),Room k (A.deeper (envOfC qual (z07 st) s.heap.objs.size f cdv))→PSs (z3w CX0 P w K mg base N qual (z07 st) f cdv A outer s H E).nox (z0p st) (tDS K es)) :
    FnOk P w K mg base CX0 (k+1) f fd ps (spM K (z6j N.length ps.length es)):=by
  refine F.ok S (fun vs H Q E h=>?_) (fun cdv A outer s H vs Q E hr h=>?_)
  · obtain ⟨W,ds,d,μ',_,_,r,e,_⟩:=h
    unfold z6j at e
    split at e
    · rename_i hl;rw [← r.length];exact hl
    · cases e
  · obtain ⟨W,ds,d,μ',rfl,ok,r,e,q⟩:=h
    refine ⟨_,hb cdv A outer s W.H E hr,?_⟩
    unfold z6j at e
    split at e
    · obtain ⟨⟨o,Γ',μ2⟩,e1,e⟩:=bnd e
      refine ⟨W,_,o,Γ',μ2,rfl,ok,zb3 r,e1,fun W' σ' hμ ok' s' en'=>?_⟩
      cases o with
      | rt z=>cases e;exact fun v rv=>q v W' hμ ok' s' rv
      | nx=>cases e;exact q _ W' hμ ok' s' .non
      | bk=>cases e
      | ct=>cases e
    · cases e
end
section
variable {K:PySem.W.Frag} {W W':Wd} {n:Nat}
end
section
variable {X:Cx} {K:PySem.W.Frag} {a b c e:Expr} {ea eb ec:EV} {pos p:Pos}
theorem R2A.or {r r':R2} {f g h:D→D→M→Option (D×M)} (ra:R2A K r f) (rb:R2A K r' g) (hh:∀ x y μ z,h x y μ=some z→f x y μ=some z∨g x y μ=some z):R2A K (fun x y H Q=>r x y H Q∨r' x y H Q) h:=by
  intro W x y d e z μ' Q ok r1 r2 hf q
  rcases hh _ _ _ _ hf with hf | hf
  · exact .inl (ra W x y d e z μ' Q ok r1 r2 hf q)
  · exact .inr (rb W x y d e z μ' Q ok r1 r2 hf q)
theorem ra_cat:R2A K zur zog:=by
  intro W x y d e z μ' Q ok r1 r2 hf q
  refine z05 hf fun xs hx hf=>?_
  refine z05 hf fun ys hy hf=>?_
  split at hf
  · rename_i hl
    cases hf
    obtain ⟨a,vs,rfl,ha,hv⟩:=z6s ok hx r1
    obtain ⟨b,us,rfl,hb,hu⟩:=z6s ok hy r2
    exact ⟨a,b,vs,us,rfl,rfl,ha,hb,z39 (by rw [← hv.length,← hu.length];omega),fun p hp=>q _ (W.lay p (.lst (vs++us))) rfl (z1v ok hp) (z0m hp) (z64 ok hp (hv.append hu))⟩
  · cases hf
theorem zq9:R2A K zun zt2:=by
  intro W x y d e z μ' Q ok r1 r2 hf q
  refine z05 hf fun xs hx hf=>?_
  split at hf
  · split at hf
    · rename_i hl
      cases hf
      cases r2
      obtain ⟨a,vs,rfl,ha,hv⟩:=z6s ok hx r1
      exact ⟨a,_,vs,rfl,rfl,ha,by omega,by omega,z39 (by rw [← hv.length];omega),fun p hp=>q _ (W.lay p _) rfl (z1v ok hp) (z0m hp) (z64 ok hp (hv.rep _))⟩
    · cases hf
  · cases hf
noncomputable def zkw (x y:D) (μ:M):Option (D×M):=match x with
  | .tup xs=>(zlo y).bind fun ys=>if xs≠[]∧xs.length+ys.length≤1000000 then some (.tup (xs++ys),μ) else none
  | _=>none
noncomputable instance {α:Type} {xs:List α}:Decidable (xs≠[]):=by cases xs <;> simp <;> infer_instance
theorem znb:R2A K (zqi K) zkw:=by
  intro W x y d e z μ' Q ok r1 r2 hf q
  unfold zkw at hf
  split at hf
  · rename_i xs
    refine z05 hf fun ys hy hf=>?_
    split at hf
    case isFalse=>cases hf
    rename_i hl
    cases hf
    have rr:=r1
    obtain ⟨a,vs,rfl,ha,hv⟩:=z4u (ds:=xs) rfl r1
    obtain ⟨b,us,rfl,hb,hu⟩:=z4u hy r2
    refine ⟨a,b,vs,us,rfl,rfl,ha,hb,fun z=>?_,z39 (by rw [← hv.length,← hu.length];omega),fun z=>?_,fun _ p hp=>q _ (W.lay p (.tup (vs++us))) rfl (z1v ok hp) (z0m hp) (zb5 ok hp (hv.append hu))⟩
    · have:=hv.length
      rw [z] at this
      exact hl.1 (List.length_eq_zero_iff.mp this)
    · have h0:=hu.length
      rw [z] at h0
      have h1:=List.length_eq_zero_iff.mp h0
      subst h1
      refine q _ W rfl ok .refl ?_
      rw [List.append_nil]
      exact rr
  · cases hf
noncomputable def z0w (x y:D) (μ:M):Option (D×M):=match x with
  | .int i=>match y with
    | .int j=>some (.int (i+j),μ)
    | _=>none
  | .tup _=>zkw x y μ
  | _=>zog x y μ
theorem z34 (ha:PE X a (tD K ea)) (hb:PE X b (tD K eb)) (hK:X.K=K:=by rfl):PE X (.BinOp a .Add b pos) (tD K (v2 z0w ea eb)):=by
  subst hK
  refine zp6 (op_add.or (op_cat.or znz)) ((z96 (h:=fun i j=>.int (i+j)) fun _ _ _=>.int _).or (ra_cat.or znb (h:=fun x y μ=>match x with | .tup _=>zkw x y μ | _=>zog x y μ) fun x y μ z h=>?_) fun x y μ z h=>?_) ha hb
  · split at h
    · exact .inr h
    · exact .inl h
  · unfold z0w at h
    split at h
    · split at h
      · exact .inl h
      · cases h
    · exact .inr h
    · rename_i h1 h2
      refine .inr ?_
      split
      · exact absurd rfl (h2 _)
      · exact h
noncomputable def z20 (x y:D) (μ:M):Option (D×M):=match x with
  | .int i=>match y with
    | .int j=>if CMul i j then some (.int (i*j),μ) else none
    | _=>none
  | _=>zt2 x y μ
theorem z4t (ha:PE X a (tD K ea)) (hb:PE X b (tD K eb)):PE X (.BinOp a .Mult b pos) (tD K (v2 z20 ea eb)):=by
  refine zp6 (op_mul.or zr6) ((zss (C:=CMul) (h:=fun i j=>.int (i*j)) fun _ _ _=>.int _).or zq9 fun x y μ z h=>?_) ha hb
  unfold z20 at h
  split at h
  · split at h
    · exact .inl h
    · cases h
  · exact .inr h
noncomputable def z4k (f g:D→D→M→Option (D×M)) (ea eb ec:EV):EV:=fun Γ μ=>(ea Γ μ).bind fun p=>(eb Γ p.2).bind fun q=>(f p.1 q.1 q.2).bind fun t=>match t.1 with
  | .bl true=>(ec Γ t.2).bind fun r=>g q.1 r.1 r.2
  | .bl false=>some (.bl false,t.2)
  | _=>none
theorem zej {r r':R2} {f g:D→D→M→Option (D×M)} (ra:R2A K r f) (rb:R2A K r' g):∀ σ H Q,tD K (z4k f g ea eb ec) σ H Q→zlp r r' (tD K ea) (tD K eb) (tD K ec) σ H Q:=fun σ H Q h=>by
  refine el4 h fun W Γ d μ' eH ok en e q=>?_;subst eH
  refine z05 e fun p1 e1 e=>?_
  refine z05 e fun p2 e2 e=>?_
  refine z05 e fun p3 e3 e=>?_
  refine ⟨W,Γ,p1.1,p1.2,rfl,ok,en,e1,fun x W1 hμ ok1 s1 r1=>⟨W1,Γ,p2.1,p2.2,rfl,ok1,en.step ok s1,by rw [hμ];exact e2,fun y W2 hμ2 ok2 s2 r2=>?_⟩⟩
  refine ra W2 x y _ _ _ _ _ ok2 (r1.step ok1 s2) r2 (by rw [hμ2];exact e3) fun v W3 hμ3 ok3 s3 r3=>?_
  split at e
  · rename_i hp;rw [hp] at r3;cases r3
    refine z05 e fun p4 e4 e=>?_
    refine ⟨true,rfl,zu4 ⟨W3,Γ,p4.1,p4.2,rfl,ok3,((en.step ok s1).step ok1 s2).step ok2 s3,by rw [hμ3];exact e4,fun z W4 hμ4 ok4 s4 r4=>?_⟩⟩
    exact rb W4 y z _ _ _ _ _ ok4 ((r2.step ok2 s3).step ok3 s4) r4 (by rw [hμ4];exact e) fun v5 W5 hμ5 ok5 s5 r5=>q v5 W5 hμ5 ok5 (s1.trans (s2.trans (s3.trans (s4.trans s5)))) r5
  · rename_i hp;rw [hp] at r3;cases r3;cases e
    exact ⟨false,rfl,zu5 (q _ W3 hμ3 ok3 (s1.trans (s2.trans s3)) (.bl _))⟩
  · cases e
theorem zd8 {op op':CmpOp} {r r':R2} {f g:D→D→M→Option (D×M)} (ho:OpR X (compareOp op) r) (ra:R2A K r f) (ho':OpR X (compareOp op') r') (rb:R2A K r' g) (ha:PE X a (tD K ea)) (hb:PE X b (tD K eb)) (hc:PE X c (tD K ec))
    (hm:lastMarks [op,op'] [b,c]=false:=by with_unfolding_all rfl):PT X (.Compare a [op,op'] [b,c] pos) (tDB K (vT (z4k f g ea eb ec))):=z7w (zk3 ho ho' ha hb hc hm) (zlk (zej ra rb))
theorem zqc:R2A K (rI0 fun i j=>.bl (decide (i<j))) fLt:=z96 fun _ _ _=>.bl _
theorem zqe:R2A K (rI0 fun i j=>.bl (decide (i≤j))) fLe:=z96 fun _ _ _=>.bl _
end
section
variable {X:Cx} {K:PySem.W.Frag} {ea eb:EV} {pos p:Pos}
noncomputable def zb4 (ds:List D):List D:=ds.zipIdx.map fun x=>D.tup [.int (x.2:Nat),x.1]
theorem zi6 {ds:List D} {i:Nat} {d:D} (h:(zb4 ds)[i]?=some d):∃ x,ds[i]?=some x∧d=.tup [.int (i:Nat),x]:=by
  unfold zb4 at h
  rw [List.getElem?_map] at h
  simp only [List.getElem?_zipIdx] at h
  cases hx:ds[i]? with
  | none=>rw [hx] at h;cases h
  | some x=>rw [hx] at h;simp at h;exact ⟨x,rfl,h.symm⟩
noncomputable def zu3 (ea:EV):IV:=fun Γ μ=>(ea Γ μ).bind fun p=>(lsC p.2 p.1).bind fun s=>some ((zb4 s.1,s.2),p.2)
theorem zml (ml:X.mg "enumerate" = none) {a:Expr} {elts:List Expr} {k:Nat} {tpos:Pos} (ha:PE X a (tD K ea)) (hg:Gl X "enumerate" := by rfl) (hs:starEach [a] X.env=[(false,eval a X.env)]:=by rfl) (hK:X.K=K:=by rfl) :
    PI X (.Tuple elts k tpos) (.Call (.Name "enumerate" p) [a] [] pos) (tDI K (zu3 ea)):=zec (iEn K ml ha hg hs hK) fun σ H R h=>by
  refine el5 h fun W Γ its c μ' eH ok en e q=>?_;subst eH
  refine z05 e fun p1 e1 e=>?_
  refine bq fun bG=>?_
  obtain ⟨⟨ds,c'⟩,e2,e⟩:=bnd e
  cases e
  refine bG (⟨W,Γ,p1.1,p1.2,rfl,ok,en,e1,fun v W1 hμ ok1 s1 r1=>?_⟩)
  refine bq fun bG=>?_
  obtain ⟨c0,a,rfl,hh⟩:=zh9 ok1 (by rw [hμ];exact e2) r1
  obtain ⟨vs0,h0,_⟩:=hh W1 ok1 c0 r1
  refine bG (⟨a,rfl,⟨_,h0⟩,q (Ite K a) W1 hμ ok1 s1 ⟨c0,[p1.1],[.ref a],.cons r1 .nil,fun W2 i ok2 c2 r2=>?_⟩⟩)
  cases r2 with
  | cons r2 _ =>
    obtain ⟨vs,hs,hv⟩:=hh W2 ok2 c2 r2
    refine ⟨fun hi=>⟨vs,hs,by rw [← hv.length];simpa [zb4] using hi⟩,fun d hd=>?_⟩
    refine bq fun bG=>?_
    obtain ⟨x,hx,rfl⟩:=zi6 hd
    obtain ⟨v,hv1,hv2⟩:=hv.get hx
    refine bG (⟨⟨vs,v,hs,hv1⟩,fun y H' hy=>?_⟩)
    obtain ⟨p,u,rfl,hp,rfl,hu⟩:=hy
    have:=hu vs hs
    rw [hv1] at this
    cases this
    exact ⟨W2.lay p _,rfl,rfl,z1v ok2 hp,z0m hp,zb5 ok2 hp (.cons (.int _) (.cons hv2 .nil))⟩
end
noncomputable def z4p (c:Ck) (g:GV) (tc:BV) (te:EV):List D→G→M→Option (List D×G×M)
  | [],Γ,μ=>some ([],Γ,μ)
  | d::r,Γ,μ=>(g d Γ μ).bind fun p=>(tc p.1 p.2).bind fun t=>if t.1=true then (te p.1 t.2).bind fun v=>chk (z33 c v.2) ((z4p c g tc te r p.1 v.2).bind fun q=>some (v.1::q.1,q.2)) else chk (z33 c t.2) (z4p c g tc te r p.1 t.2)
noncomputable def z36 (c:Ck) (g:GV) (tc:BV) (iv2:IV) (g2:GV) (tc2:BV) (te:EV):List D→G→M→Option (List D×M)
  | [],_,μ=>some ([],μ)
  | d::r,Γ,μ=>(g d Γ μ).bind fun p=>(tc p.1 p.2).bind fun t=>if t.1=true then (iv2 p.1 t.2).bind fun s=>(z4p s.1.2 g2 tc2 te s.1.1 p.1 s.2).bind fun q=>chk (z33 c q.2.2) ((z36 c g tc iv2 g2 tc2 te r q.2.1 q.2.2).bind fun z=>some (q.1++z.1,z.2)) else chk (z33 c t.2) (z36 c g tc iv2 g2 tc2 te r p.1 t.2)
section
variable {X:Cx} {K:PySem.W.Frag} {N' own:List Str} {cap:List (Str×Nat)} {scope:Scope} {tg iter elt tg2 iter2:Expr} {ifs ifs2:List Expr} {pos:Pos} {iv iv2:IV} {g g2:GV} {tc tc2:BV} {te:EV}
theorem zcp {W:Wd} {J:It} {its:List D} {c:Ck} {Γ0:G} {σ0:St} {done0 rs:List D} {ys0:List V} {Γ':G} {μ':M} {p:Addr} {Z:St→Hp→Prop} (ok:Ok K W) (hp:W.hid p) (hy:W.H p=some (.lst ys0)) (rd0:DRs K W done0 ys0) (jr:JR K W J its c) (en:EnvR K W Γ0 σ0)
    (e:z4p c g tc te its Γ0 W.μ=some (rs,Γ',μ')) (hl:done0.length+rs.length≤1000000) (hZ:∀ W' σ' ys,W'.μ=μ'→Ok K W'→StepB p W W'→W'.hid p→W'.H p=some (.lst ys)→DRs K W' (done0++rs) ys→EnvR K W' Γ' σ'→Z σ' W'.H) :
    zd4 J (tDG K g) (tDB K tc) (tD K te) p σ0 W.H Z:=by
  obtain ⟨c1,ds,vs,r1,hj⟩:=jr
  obtain ⟨P,hP⟩:∃ P:Nat→St→Hp→Prop,∀ i σ2 H2,P i σ2 H2↔(i≤its.length∧∃ W2 Γ2 done z1y ys,W2.H=H2∧Ok K W2∧StepB p W W2∧W2.hid p∧W2.H p=some (.lst ys)∧DRs K W2 done ys∧EnvR K W2 Γ2 σ2∧z33 c W2.μ∧z4p c g tc te (its.drop i) Γ2 W2.μ=some (z1y,Γ',μ')∧done++z1y=done0++rs):=⟨_,fun _ _ _=>Iff.rfl⟩
  refine ⟨fun i m σ2 H2=>m=its.length - i∧P i σ2 H2,?_,?_⟩
  · exact ⟨its.length,by simp,(hP _ _ _).2 ⟨Nat.zero_le _,W,Γ0,done0,rs,ys0,rfl,ok,Step.refl.b,hp,hy,rd0,en,c1,e,rfl⟩⟩
  rintro i m σ2 H2 ⟨rfl,hi⟩
  refine bq fun hG=>?_
  obtain ⟨hi,W2,Γ2,done,z1y,ys,rfl,ok2,s2,hp2,hy2,rd,en2,c2,e2,ed⟩:=(hP _ _ _).1 hi
  have rj:DRs K W2 ds vs:=r1.stepB ok hp ⟨_,hy⟩ s2
  obtain ⟨hstop,hgo⟩:=hj W2 i ok2 c2 rj
  by_cases hlt:i<its.length
  · have hd:its[i]?=some its[i]:=List.getElem?_eq_getElem hlt
    refine bq fun bG=>?_
    obtain ⟨h1,h2⟩:=hgo _ hd
    rw [List.drop_eq_getElem_cons hlt] at e2
    refine z05 e2 fun pg e3 e2=>?_
    refine z05 e2 fun pt e4 e2=>?_
    refine bG (hG (.inr ⟨h1,P (i+1),fun σ' H' hN=>⟨its.length - (i+1),by omega,rfl,hN⟩,fun x H' hy=>?_⟩))
    refine bq fun hF=>?_
    obtain ⟨W3,rfl,hμ3,ok3,s3,r3⟩:=h2 x H' hy
    refine hF ⟨W3,Γ2,its[i],pg.1,pg.2,rfl,ok3,en2.step ok2 s3,r3,by rw [hμ3];exact e3,fun W4 σ4 hμ4 ok4 s4 en4=>⟨W4,pg.1,pt.1,pt.2,rfl,ok4,en4,by rw [hμ4];exact e4,fun W5 hμ5 ok5 s5=>?_⟩⟩
    have s25:=s3.trans (s4.trans s5)
    split at e2
    · rename_i ht
      refine z05 e2 fun pv e5 e2=>?_
      refine z3x e2 fun c5 e2=>?_
      refine bq fun bG=>?_
      obtain ⟨⟨q1,Γq,μq⟩,e6,e2⟩:=bnd e2
      cases e2
      refine bG (zma (fun _=>?_) (fun n=>absurd ht n))
      refine ⟨W5,pg.1,pv.1,pv.2,rfl,ok5,en4.step ok4 s5,by rw [hμ5];exact e5,fun v W6 hμ6 ok6 s6 r6=>?_⟩
      have s26:=s25.trans s6
      have hp6:W6.hid p:=by rw [s26.hid];exact hp2
      have hy6:W6.H p=some (.lst ys):=s26.keep _ _ hy2 (z4y ok2 hp2)
      have rd6:=rd.step ok2 s26
      have hlen:ys.length<1000000:=by
        have h1:=congrArg List.length ed
        simp only [List.length_append,List.length_cons] at h1
        rw [← rd.length];omega
      refine ⟨ys,hy6,z79 (by omega),(hP _ _ _).2 ⟨hlt,W6.re p (.lst (ys++[v])),pg.1,done++[pv.1],q1,ys++[v],rfl,zrd ok6 hp6 ⟨_,hy6⟩,(s2.trans s26.b).trans z2k,hp6,z0k,?_,(((en4.step ok4 s5).step ok5 s6).stepB ok6 hp6 ⟨_,hy6⟩ z2k),by show z33 c W6.μ;rw [hμ6];exact c5,by show z4p c g tc te _ _ W6.μ=_;rw [hμ6];exact e6,by simpa using ed⟩⟩
      exact (rd6.append (.cons r6 .nil)).stepB ok6 hp6 ⟨_,hy6⟩ z2k
    · rename_i ht
      refine z3x e2 fun c5 e2=>?_
      refine zma (fun n=>absurd n ht) (fun _=>?_)
      exact (hP _ _ _).2 ⟨hlt,W5,pg.1,done,z1y,ys,rfl,ok5,s2.trans s25.b,by rw [s25.hid];exact hp2,s25.keep _ _ hy2 (z4y ok2 hp2),rd.step ok2 s25,en4.step ok4 s5,by rw [hμ5];exact c5,by rw [hμ5];exact e2,ed⟩
  · have e':i=its.length:=by omega
    subst e'
    rw [List.drop_eq_nil_of_le (Nat.le_refl _)] at e2
    cases e2
    rw [List.append_nil] at ed
    subst ed
    exact hG (.inl ⟨hstop (Nat.le_refl _),hZ W2 σ2 ys rfl ok2 s2 hp2 hy2 rd en2⟩)
theorem zd0 {W1:Wd} {J:It} {its:List D} {c:Ck} {Γ0:G} {σ0:St} {rs:List D} {μ':M} {p:Addr} {Z:Hp→Prop} (ok1:Ok K W1) (hp:W1.H p=none) (jr:JR K W1 J its c) (en:EnvR K W1 Γ0 σ0) (hl:rs.length≤1000000)
    (e:z36 c g tc iv2 g2 tc2 te its Γ0 W1.μ=some (rs,μ')) (hZ:∀ W' ys,W'.μ=μ'→Ok K W'→StepB p (W1.hide p (.lst [])) W'→W'.hid p→W'.H p=some (.lst ys)→DRs K W' rs ys→Z W'.H) :
    z2u J (tDG K g) (tDB K tc) (tDI K iv2) (tDG K g2) (tDB K tc2) (tD K te) p σ0 W1.H Z:=by
  obtain ⟨c1,ds,vs,r1,hj⟩:=jr
  obtain ⟨P,hP⟩:∃ P:Nat→St→Hp→Prop,∀ i σ2 H2,P i σ2 H2↔(i≤its.length∧∃ W2 Γ2 done z1y ys,W2.H=H2∧Ok K W2∧StepB p (W1.hide p (.lst [])) W2∧W2.hid p∧W2.H p=some (.lst ys)∧DRs K W2 done ys∧EnvR K W2 Γ2 σ2∧z33 c W2.μ∧z36 c g tc iv2 g2 tc2 te (its.drop i) Γ2 W2.μ=some (z1y,μ')∧done++z1y=rs):=⟨_,fun _ _ _=>Iff.rfl⟩
  refine ⟨fun i m σ2 H2=>m=its.length - i∧P i σ2 H2,?_,?_⟩
  · exact ⟨its.length,by simp,(hP _ _ _).2 ⟨Nat.zero_le _,W1.hide p (.lst []),Γ0,[],rs,[],rfl,z99 ok1 hp,⟨fun _ _ h=>h,fun _ h=>.inl h,fun _ _ _ h _=>h,rfl,fun _ h=>h⟩,.inl rfl,z0k,.nil,en.hide hp ok1,c1,e,rfl⟩⟩
  rintro i m σ2 H2 ⟨rfl,hi⟩
  refine bq fun hG=>?_
  obtain ⟨hi,W2,Γ2,done,z1y,ys,rfl,ok2,s2,hp2,hy2,rd,en2,c2,e2,ed⟩:=(hP _ _ _).1 hi
  have rj:DRs K W2 ds vs:=(r1.hide hp ok1).stepB (z99 ok1 hp) (.inl rfl) ⟨[],z0k⟩ s2
  obtain ⟨hstop,hgo⟩:=hj W2 i ok2 c2 rj
  by_cases hlt:i<its.length
  · have hd:its[i]?=some its[i]:=List.getElem?_eq_getElem hlt
    refine bq fun bG=>?_
    obtain ⟨h1,h2⟩:=hgo _ hd
    rw [List.drop_eq_getElem_cons hlt] at e2
    refine z05 e2 fun pg e3 e2=>?_
    refine z05 e2 fun pt e4 e2=>?_
    refine bG (hG (.inr ⟨h1,P (i+1),fun σ' H' hN=>⟨its.length - (i+1),by omega,rfl,hN⟩,fun x H' hy=>?_⟩))
    refine bq fun hF=>?_
    obtain ⟨W3,rfl,hμ3,ok3,s3,r3⟩:=h2 x H' hy
    refine hF ⟨W3,Γ2,its[i],pg.1,pg.2,rfl,ok3,en2.step ok2 s3,r3,by rw [hμ3];exact e3,fun W4 σ4 hμ4 ok4 s4 en4=>⟨W4,pg.1,pt.1,pt.2,rfl,ok4,en4,by rw [hμ4];exact e4,fun W5 hμ5 ok5 s5=>?_⟩⟩
    have s25:=s3.trans (s4.trans s5)
    split at e2
    · rename_i ht
      refine bq fun bG=>?_
      obtain ⟨⟨⟨its2,k2⟩,μi⟩,e5,e2⟩:=bnd e2
      obtain ⟨⟨q1,Γq,μq⟩,e6,e2⟩:=bnd e2
      refine z3x e2 fun c6 e2=>?_
      refine z05 e2 fun z e7 e2=>?_
      cases e2
      refine bG (zma (fun _=>?_) (fun n=>absurd ht n))
      refine ⟨W5,pg.1,its2,k2,μi,rfl,ok5,en4.step ok4 s5,by rw [hμ5];exact e5,fun J2 W6 hμ6 ok6 s6 jr6=>?_⟩
      have s26:=s25.trans s6
      have hp6:W6.hid p:=by rw [s26.hid];exact hp2
      have hy6:W6.H p=some (.lst ys):=s26.keep _ _ hy2 (z4y ok2 hp2)
      have hlen:done.length+q1.length≤1000000:=by
        have h1:=congrArg List.length ed
        simp only [List.length_append] at h1
        omega
      refine zcp ok6 hp6 hy6 (rd.step ok2 s26) jr6 ((en4.step ok4 s5).step ok5 s6) (by rw [hμ6];exact e6) hlen fun W7 σ7 ys7 hμ7 ok7 s7 hp7 hy7 rd7 en7=>?_
      exact (hP _ _ _).2 ⟨hlt,W7,Γq,done++q1,z.1,ys7,rfl,ok7,(s2.trans s26.b).trans s7,hp7,hy7,rd7,en7,by rw [hμ7];exact c6,by rw [hμ7];exact e7,by simpa using ed⟩
    · rename_i ht
      refine z3x e2 fun c5 e2=>?_
      refine zma (fun n=>absurd n ht) (fun _=>?_)
      exact (hP _ _ _).2 ⟨hlt,W5,pg.1,done,z1y,ys,rfl,ok5,s2.trans s25.b,by rw [s25.hid];exact hp2,s25.keep _ _ hy2 (z4y ok2 hp2),rd.step ok2 s25,en4.step ok4 s5,by rw [hμ5];exact c5,by rw [hμ5];exact e2,ed⟩
  · have e':i=its.length:=by omega
    subst e'
    rw [List.drop_eq_nil_of_le (Nat.le_refl _)] at e2
    cases e2
    rw [List.append_nil] at ed
    subst ed
    exact hG (.inl ⟨hstop (Nat.le_refl _),hZ W2 ys rfl ok2 s2 hp2 hy2 rd⟩)
noncomputable def z4j (own:List Str) (cap:List (Str×Nat)) (iv:IV) (g:GV) (tc:BV) (iv2:IV) (g2:GV) (tc2:BV) (te:EV):EV:=fun Γ μ=>(iv Γ μ).bind fun s=>(z36 s.1.2 g tc iv2 g2 tc2 te s.1.1 (z4r own cap Γ) s.2).bind fun q=>if q.1.length≤1000000 then some (.lst q.1,q.2) else none
theorem zad {W:Wd} {Γ:G} {σ:St} {d:D} {μ':M} (ok:Ok K W) (en:EnvR K W Γ σ) (e:z4j own cap iv g tc iv2 g2 tc2 te Γ W.μ=some (d,μ')) {Z:Addr→Hp→Prop} (q:∀ v W',W'.μ=μ'→Ok K W'→Step W W'→DR K W' d v→∀ p,v=.ref p→Z p W'.H) :
    tDI K iv σ W.H fun J H1=>∀ p,H1 p=none→z2u J (tDG K g) (tDB K tc) (tDI K iv2) (tDG K g2) (tDB K tc2) (tD K te) p (z3c own cap σ) H1 (Z p):=by
  refine bq fun bG=>?_
  obtain ⟨⟨⟨its,c⟩,μ1⟩,e1,e⟩:=bnd e
  refine bG (⟨W,Γ,its,c,μ1,rfl,ok,en,e1,fun J W1 hμ1 ok1 s1 jr p hp=>?_⟩)
  obtain ⟨⟨rs,μ2⟩,e2,e⟩:=bnd e
  split at e
  · rename_i hl
    cases e
    refine zd0 ok1 hp jr ((en.step ok s1).cap own cap) hl (by rw [hμ1];exact e2) fun W' ys hμ' ok' s' hp' hy r=>?_
    refine bq fun bG=>?_
    obtain ⟨a1,a2,a3⟩:=z7r s1 hp ok1 ok' s' hp' hy r
    exact bG (q _ (W'.show W1.hid) hμ' a1 a2 a3 p rfl)
  · cases e
theorem zmw (S:CompScope X N' own cap scope) (hi:PI X tg iter (tDI K iv))
    (hg:∀ cl C s₀ H₀ ex,PG (z0a X N' scope cl C s₀ H₀ ex) tg (tDG K g)) (ht:∀ cl C s₀ H₀ ex,PIf (z0a X N' scope cl C s₀ H₀ ex) ifs (tDB K tc))
    (hi2:∀ cl C s₀ H₀ ex,PI (z0a X N' scope cl C s₀ H₀ ex) tg2 iter2 (tDI K iv2)) (hg2:∀ cl C s₀ H₀ ex,PG (z0a X N' scope cl C s₀ H₀ ex) tg2 (tDG K g2)) (ht2:∀ cl C s₀ H₀ ex,PIf (z0a X N' scope cl C s₀ H₀ ex) ifs2 (tDB K tc2))
    (he:∀ cl C s₀ H₀ ex,PE (z0a X N' scope cl C s₀ H₀ ex) elt (tD K te))
    (hx:∀ e s,X.xe e s→False:=by exact fun _ _ z=>z) (hc:X.calm=true:=by rfl) (hs:∀ x,foldedSetIterable iter X.env x=pure x:=by intro _;rfl) (hs2:∀ cl C x,foldedSetIterable iter2 (compEnvC scope cl C X.env) x=pure x:=by intro _ _ _;rfl) :
    PE X (.ListComp elt [⟨tg,iter,ifs,0⟩,⟨tg2,iter2,ifs2,0⟩] scope pos) (tD K (z4j own cap iv g tc iv2 g2 tc2 te)):=z0l (zkc S hi hg ht hi2 hg2 ht2 he hx hc hs hs2) fun σ H Q h=>by
  refine el4 h fun W Γ d μ' eH ok en e q=>?_;subst eH
  exact zad ok en e fun v W' h1 h2 h3 h4 p hv=>by subst hv;exact q _ W' h1 h2 h3 h4
theorem zbq {i:Nat} {y:Str} {py spos:Pos} (hN:X.N.Nodup) (hi':X.N[i]?=some y) (hy:X.env.scope.names.lookup y=some .local) (S:CompScope X N' own cap scope) (hi:PI X tg iter (tDI K iv))
    (hg:∀ cl C s₀ H₀ ex,PG (z0a X N' scope cl C s₀ H₀ ex) tg (tDG K g)) (ht:∀ cl C s₀ H₀ ex,PIf (z0a X N' scope cl C s₀ H₀ ex) ifs (tDB K tc))
    (hi2:∀ cl C s₀ H₀ ex,PI (z0a X N' scope cl C s₀ H₀ ex) tg2 iter2 (tDI K iv2)) (hg2:∀ cl C s₀ H₀ ex,PG (z0a X N' scope cl C s₀ H₀ ex) tg2 (tDG K g2)) (ht2:∀ cl C s₀ H₀ ex,PIf (z0a X N' scope cl C s₀ H₀ ex) ifs2 (tDB K tc2))
    (he:∀ cl C s₀ H₀ ex,PE (z0a X N' scope cl C s₀ H₀ ex) elt (tD K te))
    (hsw:swapsWith (.ListComp elt [⟨tg,iter,ifs,0⟩,⟨tg2,iter2,ifs2,0⟩] scope pos) (some (.Name y py)) spos.line X.env=pure true:=by rfl)
    (hx:∀ e s,X.xe e s→False:=by exact fun _ _ z=>z) (hc:X.calm=true:=by rfl) (hs:∀ x,foldedSetIterable iter X.env x=pure x:=by intro _;rfl) (hs2:∀ cl C x,foldedSetIterable iter2 (compEnvC scope cl C X.env) x=pure x:=by intro _ _ _;rfl) :
    PS X (.Assign [.Name y py] (.ListComp elt [⟨tg,iter,ifs,0⟩,⟨tg2,iter2,ifs2,0⟩] scope pos) spos) (tDS K (z10 (z4j own cap iv g tc iv2 g2 tc2 te) (z00 i))):=z2j (zc7 hN hi' hy S hi hg ht hi2 hg2 ht2 he hsw hx hc hs hs2) fun D σ H h=>by
  refine el5 h fun W Γ o Γ' μ' eH ok en e q=>?_;subst eH
  refine z05 e fun p1 e1 e=>?_
  cases e
  exact zad (Z:=fun p H2=>D.nx (σ.set i (some (.ref p))) H2) ok en e1 fun v W' h1 h2 h3 h4 p hv=>by subst hv;exact q W' _ h1 h2 h3 ((en.step ok h3).set h4 i)
end
section
variable {n:Nat} {μ:M}
theorem zqm {xs:List D}:py (n+1) μ (.lst xs)=(optAll (py n μ) xs).bind fun ys=>some (.list ys):=rfl
theorem zqj {xs:List D}:py (n+1) μ (.tup xs)=(optAll (py n μ) xs).bind fun ys=>some (.tuple ys):=rfl
theorem bs {α β:Type} {a:α} {f:α→Option β}:(some a).bind f=f a:=rfl
theorem z2t {α β γ:Type} {f:β→Option γ} {g:α→β} {h:α→γ}:∀ {l:List α},(∀ x∈l,f (g x)=some (h x))→optAll f (l.map g)=some (l.map h)
  | [],_=>rfl
  | x::r,e=>by
    have e1:=e x (by simp)
    have e2:=z2t (l:=r) fun y hy=>e y (by simp [hy])
    simp only [List.map_cons,optAll,e1,e2,bs]
end
section
variable {Γ:G} {μ μ1 μ2:M} {ea eb:EV} {x y d:D} {f:D→D→M→Option (D×M)} {f1:D→M→Option (D×M)} {sa sb:SV} {i:Nat}
theorem zs8 (h:Γ[i]?=some (some d)):z01 i Γ μ=some (d,μ):=by unfold z01;rw [h]
theorem e_2 (h1:ea Γ μ=some (x,μ1)) (h2:eb Γ μ1=some (y,μ2)):v2 f ea eb Γ μ=f x y μ2:=by unfold v2;rw [h1,bs,h2,bs]
theorem e_1 (h1:ea Γ μ=some (x,μ1)):v1 f1 ea Γ μ=f1 x μ1:=by unfold v1;rw [h1,bs]
end
noncomputable def zfc (b:SV):Option (Out×G×M)→Option (Out×G×M)
  | some (.nx,Γ,μ)=>b Γ μ
  | x=>x
@[simp] theorem z0d {b:SV} {Γ:G} {μ:M}:zfc b (some (.nx,Γ,μ))=b Γ μ:=rfl
@[simp] theorem kSeq_rt {b:SV} {d:D} {Γ:G} {μ:M}:zfc b (some (.rt d,Γ,μ))=some (.rt d,Γ,μ):=rfl
@[simp] theorem kSeq_bk {b:SV} {Γ:G} {μ:M}:zfc b (some (.bk,Γ,μ))=some (.bk,Γ,μ):=rfl
@[simp] theorem kSeq_ct {b:SV} {Γ:G} {μ:M}:zfc b (some (.ct,Γ,μ))=some (.ct,Γ,μ):=rfl
@[simp] theorem z09 {a b:SV} {Γ:G} {μ:M}:z0v a b Γ μ=zfc b (a Γ μ):=by
  unfold z0v zfc
  cases h:a Γ μ with
  | none=>rfl
  | some o=>obtain ⟨o1,Γ1,μ1⟩:=o;cases o1 <;> rfl
section
variable {Γ:G} {μ μ1:M} {ea eb ec:EV} {ba bb:BV} {el:LV} {sa sb:SV} {i j:Nat} {d x y:D} {ds:List D} {b:Bool}
@[simp] theorem vVar_eq:z01 i Γ μ=match Γ[i]? with
  | some (some d)=>some (d,μ)
  | _=>none:=rfl
@[simp] theorem vC_eq:vC d Γ μ=some (d,μ):=rfl
noncomputable def kV1 (f:D→M→Option (D×M)):Option (D×M)→Option (D×M)
  | some (x,μ)=>f x μ
  | none=>none
@[simp] theorem kV1_s {f:D→M→Option (D×M)}:kV1 f (some (x,μ))=f x μ:=rfl
@[simp] theorem v1_eq {f:D→M→Option (D×M)}:v1 f ea Γ μ=kV1 f (ea Γ μ):=by
  unfold v1 kV1;cases ea Γ μ <;> rfl
noncomputable def ziz (f:D→D→M→Option (D×M)) (x:D):Option (D×M)→Option (D×M)
  | some (y,μ)=>f x y μ
  | none=>none
@[simp] theorem kV2b_s {f:D→D→M→Option (D×M)}:ziz f x (some (y,μ))=f x y μ:=rfl
noncomputable def kV2 (f:D→D→M→Option (D×M)) (eb:EV) (Γ:G):Option (D×M)→Option (D×M)
  | some (x,μ)=>ziz f x (eb Γ μ)
  | none=>none
@[simp] theorem kV2_s {f:D→D→M→Option (D×M)}:kV2 f eb Γ (some (x,μ))=ziz f x (eb Γ μ):=rfl
@[simp] theorem v2_eq {f:D→D→M→Option (D×M)}:v2 f ea eb Γ μ=kV2 f eb Γ (ea Γ μ):=by
  unfold v2 kV2
  cases ea Γ μ with
  | none=>rfl
  | some p=>show (eb Γ p.2).bind _=ziz f p.1 (eb Γ p.2);cases eb Γ p.2 <;> rfl
noncomputable def kT:Option (D×M)→Option (Bool×M)
  | some (.bl b,μ)=>some (b,μ)
  | _=>none
@[simp] theorem kT_s:kT (some (.bl b,μ))=some (b,μ):=rfl
@[simp] theorem z7y:vT ea Γ μ=kT (ea Γ μ):=by
  unfold vT kT
  cases ea Γ μ with
  | none=>rfl
  | some p=>obtain ⟨p1,p2⟩:=p;cases p1 <;> rfl
noncomputable def zu2 (bb:BV) (Γ:G):Option (Bool×M)→Option (Bool×M)
  | some (c,μ)=>if c=true then bb Γ μ else some (false,μ)
  | none=>none
@[simp] theorem kAnd_s {c:Bool}:zu2 bb Γ (some (c,μ))=if c=true then bb Γ μ else some (false,μ):=rfl
@[simp] theorem zil:zim ba bb Γ μ=zu2 bb Γ (ba Γ μ):=by unfold zim zu2;cases ba Γ μ <;> rfl
noncomputable def kOr (bb:BV) (Γ:G):Option (Bool×M)→Option (Bool×M)
  | some (c,μ)=>if c=true then some (true,μ) else bb Γ μ
  | none=>none
@[simp] theorem kOr_s {c:Bool}:kOr bb Γ (some (c,μ))=if c=true then some (true,μ) else bb Γ μ:=rfl
@[simp] theorem zsg:bOr ba bb Γ μ=kOr bb Γ (ba Γ μ):=by unfold bOr kOr;cases ba Γ μ <;> rfl
noncomputable def zu0:Option (Bool×M)→Option (Bool×M)
  | some (c,μ)=>some (!c,μ)
  | none=>none
@[simp] theorem kNot_s {c:Bool}:zu0 (some (c,μ))=some (!c,μ):=rfl
@[simp] theorem zik:zfd ba Γ μ=zu0 (ba Γ μ):=by unfold zfd zu0;cases ba Γ μ <;> rfl
noncomputable def kIf (ea eb:EV) (Γ:G):Option (Bool×M)→Option (D×M)
  | some (c,μ)=>if c=true then ea Γ μ else eb Γ μ
  | none=>none
@[simp] theorem kIf_s {c:Bool}:kIf ea eb Γ (some (c,μ))=if c=true then ea Γ μ else eb Γ μ:=rfl
@[simp] theorem vIf_eq:vIf ba ea eb Γ μ=kIf ea eb Γ (ba Γ μ):=by unfold vIf kIf;cases ba Γ μ <;> rfl
noncomputable def zsy (sa sb:SV) (Γ:G):Option (Bool×M)→Option (Out×G×M)
  | some (c,μ)=>if c=true then sa Γ μ else sb Γ μ
  | none=>none
@[simp] theorem kSIf_s {c:Bool}:zsy sa sb Γ (some (c,μ))=if c=true then sa Γ μ else sb Γ μ:=rfl
@[simp] theorem z1n:sIf ba sa sb Γ μ=zsy sa sb Γ (ba Γ μ):=by unfold sIf zsy;cases ba Γ μ <;> rfl
noncomputable def zo7 (eb:EV) (Γ:G):Option (D×M)→Option (D×M)
  | some (.bl c,μ)=>if c=true then eb Γ μ else some (.bl false,μ)
  | _=>none
@[simp] theorem kVAnd_s {c:Bool}:zo7 eb Γ (some (.bl c,μ))=if c=true then eb Γ μ else some (.bl false,μ):=rfl
@[simp] theorem vAnd_eq:zmx ea eb Γ μ=zo7 eb Γ (ea Γ μ):=by
  unfold zmx zo7
  cases ea Γ μ with
  | none=>rfl
  | some p =>
    obtain ⟨p1,p2⟩:=p
    cases p1 with
    | bl c=>cases c <;> rfl
    | _=>rfl
noncomputable def zsu (eb:EV) (Γ:G):Option (D×M)→Option (D×M)
  | some (.bl c,μ)=>if c=true then some (.bl true,μ) else eb Γ μ
  | _=>none
@[simp] theorem kVOr_s {c:Bool}:zsu eb Γ (some (.bl c,μ))=if c=true then some (.bl true,μ) else eb Γ μ:=rfl
@[simp] theorem zpo:vOr ea eb Γ μ=zsu eb Γ (ea Γ μ):=by
  unfold vOr zsu
  cases ea Γ μ with
  | none=>rfl
  | some p =>
    obtain ⟨p1,p2⟩:=p
    cases p1 with
    | bl c=>cases c <;> rfl
    | _=>rfl
@[simp] theorem lNil_eq:z0b Γ μ=some ([],μ):=rfl
noncomputable def zm8 (x:D):Option (List D×M)→Option (List D×M)
  | some (r,μ)=>some (x::r,μ)
  | none=>none
@[simp] theorem kLc2_s {r:List D}:zm8 x (some (r,μ))=some (x::r,μ):=rfl
noncomputable def kLc (el:LV) (Γ:G):Option (D×M)→Option (List D×M)
  | some (x,μ)=>zm8 x (el Γ μ)
  | none=>none
@[simp] theorem kLc_s:kLc el Γ (some (x,μ))=zm8 x (el Γ μ):=rfl
@[simp] theorem z28:z02 ea el Γ μ=kLc el Γ (ea Γ μ):=by
  unfold z02 kLc
  cases ea Γ μ with
  | none=>rfl
  | some p=>show (el Γ p.2).bind _=zm8 p.1 (el Γ p.2);cases el Γ p.2 <;> rfl
noncomputable def kL (f:List D→M→Option (D×M)):Option (List D×M)→Option (D×M)
  | some (r,μ)=>f r μ
  | none=>none
@[simp] theorem kL_s {f:List D→M→Option (D×M)} {r:List D}:kL f (some (r,μ))=f r μ:=rfl
@[simp] theorem zei {f:List D→M→Option (D×M)}:vL f el Γ μ=kL f (el Γ μ):=by unfold vL kL;cases el Γ μ <;> rfl
@[simp] theorem sNx_eq:sNx Γ μ=some (.nx,Γ,μ):=rfl
noncomputable def kEx (Γ:G):Option (D×M)→Option (Out×G×M)
  | some (_,μ)=>some (.nx,Γ,μ)
  | none=>none
@[simp] theorem kEx_s:kEx Γ (some (x,μ))=some (.nx,Γ,μ):=rfl
@[simp] theorem z3l:z43 ea Γ μ=kEx Γ (ea Γ μ):=by unfold z43 kEx;cases ea Γ μ <;> rfl
noncomputable def kRt (Γ:G):Option (D×M)→Option (Out×G×M)
  | some (x,μ)=>some (.rt x,Γ,μ)
  | none=>none
@[simp] theorem kRt_s:kRt Γ (some (x,μ))=some (.rt x,Γ,μ):=rfl
@[simp] theorem z42:z32 ea Γ μ=kRt Γ (ea Γ μ):=by unfold z32 kRt;cases ea Γ μ <;> rfl
noncomputable def kG:Option (G×M)→Option (Out×G×M)
  | some (Γ,μ)=>some (.nx,Γ,μ)
  | none=>none
@[simp] theorem kG_s:kG (some (Γ,μ))=some (.nx,Γ,μ):=rfl
noncomputable def kAs (g:GV) (Γ:G):Option (D×M)→Option (Out×G×M)
  | some (x,μ)=>kG (g x Γ μ)
  | none=>none
@[simp] theorem kAs_s {g:GV}:kAs g Γ (some (x,μ))=kG (g x Γ μ):=rfl
@[simp] theorem z1l {g:GV}:z10 ea g Γ μ=kAs g Γ (ea Γ μ):=by
  unfold z10 kAs
  cases ea Γ μ with
  | none=>rfl
  | some p=>show (g p.1 Γ p.2).bind _=kG (g p.1 Γ p.2);cases g p.1 Γ p.2 <;> rfl
@[simp] theorem gvName_eq:z00 i d Γ μ=some (Γ.set i (some d),μ):=rfl
@[simp] theorem gvNil_eq:z2q [] Γ μ=some (Γ,μ):=rfl
noncomputable def kGs (gs:GsV) (ds:List D):Option (G×M)→Option (G×M)
  | some (Γ,μ)=>gs ds Γ μ
  | none=>none
@[simp] theorem kGs_s {gs:GsV}:kGs gs ds (some (Γ,μ))=gs ds Γ μ:=rfl
@[simp] theorem gvCons_eq {g:GV} {gs:GsV}:z0e g gs (d::ds) Γ μ=kGs gs ds (g d Γ μ):=by
  show (g d Γ μ).bind _=_
  unfold kGs;cases g d Γ μ <;> rfl
@[simp] theorem gvTup_eq {n:Nat} {gs:GsV}:z2p n gs (.tup ds) Γ μ=if ds.length=n then gs ds Γ μ else none:=rfl
noncomputable def kOn (μ:M) (k:Nat):Option (D×List D)→Option (D×M)
  | some (d,l)=>some (d,μ.set k (some (.lst l)))
  | none=>none
@[simp] theorem zo8 {l:List D}:kOn μ i (some (d,l))=some (d,μ.set i (some (.lst l))):=rfl
noncomputable def zrr (Γ:G):Option (D×M)→Option (G×M)
  | some (_,μ)=>some (Γ,μ)
  | none=>none
@[simp] theorem kSb3_s:zrr Γ (some (x,μ))=some (Γ,μ):=rfl
noncomputable def sbF (d:D) (j:Int) (ds:List D):Option (D×List D):=(ixN ds.length j).bind fun jj=>some (.non,ds.set jj d)
theorem zdb {j:Int} {jj:Nat} (h:ixN ds.length j=some jj):sbF d j ds=some (.non,ds.set jj d):=by unfold sbF;rw [h];rfl
@[simp] theorem sbF_0:sbF d 0 (x::ds)=some (.non,d::ds):=by
  refine zdb (jj:=0) ?_
  unfold ixN;rw [if_pos (by omega),if_pos (by simp only [List.length_cons];omega)];rfl
@[simp] theorem sbF_1:sbF d 1 (x::y::ds)=some (.non,x::d::ds):=by
  refine zdb (jj:=1) ?_
  unfold ixN;rw [if_pos (by omega),if_pos (by simp only [List.length_cons];omega)];rfl
@[simp] theorem sbF_2 {z:D}:sbF d 2 (x::y::z::ds)=some (.non,x::y::d::ds):=by
  refine zdb (jj:=2) ?_
  unfold ixN;rw [if_pos (by omega),if_pos (by simp only [List.length_cons];omega)];rfl
noncomputable def zsx (d:D) (Γ:G) (o:D):Option (D×M)→Option (G×M)
  | some (.int j,μ)=>zrr Γ (onL o μ (sbF d j))
  | _=>none
@[simp] theorem kSb2_s {j:Int}:zsx d Γ x (some (.int j,μ))=zrr Γ (onL x μ (sbF d j)):=rfl
noncomputable def kSb (d:D) (ei:EV) (Γ:G):Option (D×M)→Option (G×M)
  | some (o,μ)=>zsx d Γ o (ei Γ μ)
  | none=>none
@[simp] theorem kSb_s {ei:EV}:kSb d ei Γ (some (x,μ))=zsx d Γ x (ei Γ μ):=rfl
@[simp] theorem gvSub_eq {eo ei:EV}:z89 eo ei d Γ μ=kSb d ei Γ (eo Γ μ):=by
  unfold z89 kSb
  cases eo Γ μ with
  | none=>rfl
  | some p =>
    show (ei Γ p.2).bind _=zsx d Γ p.1 (ei Γ p.2)
    cases ei Γ p.2 with
    | none=>rfl
    | some q =>
      obtain ⟨q1,q2⟩:=q
      cases q1 with
      | int j =>
        show (onL p.1 q2 _).bind _=zrr Γ (onL p.1 q2 (sbF d j))
        have e:(fun ds=>(ixN ds.length j).bind fun jj=>some (D.non,ds.set jj d))=sbF d j:=rfl
        rw [e]
        unfold zrr;cases onL p.1 q2 (sbF d j) <;> rfl
      | _=>rfl
@[simp] theorem oNone_eq:z5f Γ μ=some (none,μ):=rfl
noncomputable def kO:Option (D×M)→Option (Option Int×M)
  | some (.int i,μ)=>some (some i,μ)
  | _=>none
@[simp] theorem kO_s {i:Int}:kO (some (.int i,μ))=some (some i,μ):=rfl
@[simp] theorem oSome_eq:z4g ea Γ μ=kO (ea Γ μ):=by
  unfold z4g kO
  cases ea Γ μ with
  | none=>rfl
  | some p=>obtain ⟨p1,p2⟩:=p;cases p1 <;> rfl
noncomputable def zsv (x:D) (l:Option Int):Option (Option Int×M)→Option (D×M)
  | some (h,μ)=>fSl x l h μ
  | none=>none
@[simp] theorem kSl3_s {l h:Option Int}:zsv x l (some (h,μ))=fSl x l h μ:=rfl
noncomputable def zsw (hi:OV) (Γ:G) (x:D):Option (Option Int×M)→Option (D×M)
  | some (l,μ)=>zsv x l (hi Γ μ)
  | none=>none
@[simp] theorem kSl2_s {hi:OV} {l:Option Int}:zsw hi Γ x (some (l,μ))=zsv x l (hi Γ μ):=rfl
noncomputable def kSl (lo hi:OV) (Γ:G):Option (D×M)→Option (D×M)
  | some (x,μ)=>zsw hi Γ x (lo Γ μ)
  | none=>none
@[simp] theorem kSl_s {lo hi:OV}:kSl lo hi Γ (some (x,μ))=zsw hi Γ x (lo Γ μ):=rfl
@[simp] theorem vSl_eq {lo hi:OV}:vSl ea lo hi Γ μ=kSl lo hi Γ (ea Γ μ):=by
  unfold vSl kSl
  cases ea Γ μ with
  | none=>rfl
  | some p =>
    show (lo Γ p.2).bind _=zsw hi Γ p.1 (lo Γ p.2)
    cases lo Γ p.2 with
    | none=>rfl
    | some q =>
      show (hi Γ q.2).bind _=zsv p.1 q.1 (hi Γ q.2)
      cases hi Γ q.2 <;> rfl
noncomputable def kTr (μ:M):Option Bool→Option (Bool×M)
  | some b=>some (b,μ)
  | none=>none
@[simp] theorem kTr_s:kTr μ (some b)=some (b,μ):=rfl
noncomputable def ztz:Option (D×M)→Option (Bool×M)
  | some (x,μ)=>kTr μ (tru μ x)
  | none=>none
@[simp] theorem kTru_s:ztz (some (x,μ))=kTr μ (tru μ x):=rfl
@[simp] theorem za2:z65 ea Γ μ=ztz (ea Γ μ):=by
  unfold z65 ztz
  cases ea Γ μ with
  | none=>rfl
  | some p=>show (tru p.2 p.1).bind _=kTr p.2 (tru p.2 p.1);cases tru p.2 p.1 <;> rfl
noncomputable def kM2 (f:D→D→M→Option (D×M)) (eb:EV) (Γ:G) (x:D) (μ:M):Option (List D)→Option (D×M)
  | some _=>ziz f x (eb Γ μ)
  | none=>none
@[simp] theorem kM2_s {f:D→D→M→Option (D×M)}:kM2 f eb Γ x μ (some ds)=ziz f x (eb Γ μ):=rfl
noncomputable def kM (f:D→D→M→Option (D×M)) (eb:EV) (Γ:G):Option (D×M)→Option (D×M)
  | some (x,μ)=>kM2 f eb Γ x μ (z2h μ x)
  | none=>none
@[simp] theorem kM_s {f:D→D→M→Option (D×M)}:kM f eb Γ (some (x,μ))=kM2 f eb Γ x μ (z2h μ x):=rfl
@[simp] theorem v2l_eq {f:D→D→M→Option (D×M)}:v2l f ea eb Γ μ=kM f eb Γ (ea Γ μ):=by
  unfold v2l kM
  cases ea Γ μ with
  | none=>rfl
  | some p =>
    show (z2h p.2 p.1).bind _=kM2 f eb Γ p.1 p.2 (z2h p.2 p.1)
    cases z2h p.2 p.1 with
    | none=>rfl
    | some l=>show (eb Γ p.2).bind _=ziz f p.1 (eb Γ p.2);cases eb Γ p.2 <;> rfl
noncomputable def zu1 (g:GV) (body:SV) (Γ:G):Option ((List D×Ck)×M)→Option (Out×G×M)
  | some ((its,c),μ)=>z5b c g body its Γ μ
  | none=>none
@[simp] theorem z3v {g:GV} {c:Ck}:zu1 g sa Γ (some ((ds,c),μ))=z5b c g sa ds Γ μ:=rfl
@[simp] theorem z2e {iv:IV} {g:GV}:z82 iv g sa Γ μ=zu1 g sa Γ (iv Γ μ):=by unfold z82 zu1;cases iv Γ μ <;> rfl
noncomputable def kI2 (μ:M):Option (List D×Ck)→Option ((List D×Ck)×M)
  | some s=>some (s,μ)
  | none=>none
@[simp] theorem kI2_s {s:List D×Ck}:kI2 μ (some s)=some (s,μ):=rfl
noncomputable def kI:Option (D×M)→Option ((List D×Ck)×M)
  | some (x,μ)=>kI2 μ (lsC μ x)
  | none=>none
@[simp] theorem kI_s:kI (some (x,μ))=kI2 μ (lsC μ x):=rfl
@[simp] theorem ivL_eq:ivL ea Γ μ=kI (ea Γ μ):=by
  unfold ivL kI
  cases ea Γ μ with
  | none=>rfl
  | some p=>show (lsC p.2 p.1).bind _=kI2 p.2 (lsC p.2 p.1);cases lsC p.2 p.1 <;> rfl
noncomputable def kIR:Option (D×M)→Option ((List D×Ck)×M)
  | some (.int j,μ)=>if -1000000000≤j∧j≤1000000000 then some ((z4w 0 j.toNat,none),μ) else none
  | _=>none
@[simp] theorem zrs {j:Int}:kIR (some (.int j,μ))=if -1000000000≤j∧j≤1000000000 then some ((z4w 0 j.toNat,none),μ) else none:=rfl
@[simp] theorem zm9:ivR ea Γ μ=kIR (ea Γ μ):=by
  unfold ivR kIR
  cases ea Γ μ with
  | none=>rfl
  | some p=>obtain ⟨p1,p2⟩:=p;cases p1 <;> rfl
@[simp] theorem bYes_eq:z1i Γ μ=some (true,μ):=rfl
noncomputable def zt0 (g:D→D→M→Option (D×M)) (ec:EV) (Γ:G) (y:D):Option (D×M)→Option (D×M)
  | some (.bl c,μ)=>if c=true then ziz g y (ec Γ μ) else some (.bl false,μ)
  | _=>none
@[simp] theorem kCh3_s {g:D→D→M→Option (D×M)} {c:Bool}:zt0 g ec Γ y (some (.bl c,μ))=if c=true then ziz g y (ec Γ μ) else some (.bl false,μ):=rfl
noncomputable def zt1 (f g:D→D→M→Option (D×M)) (ec:EV) (Γ:G) (x:D):Option (D×M)→Option (D×M)
  | some (y,μ)=>zt0 g ec Γ y (f x y μ)
  | none=>none
@[simp] theorem kCh2_s {f g:D→D→M→Option (D×M)}:zt1 f g ec Γ x (some (y,μ))=zt0 g ec Γ y (f x y μ):=rfl
noncomputable def kCh (f g:D→D→M→Option (D×M)) (eb ec:EV) (Γ:G):Option (D×M)→Option (D×M)
  | some (x,μ)=>zt1 f g ec Γ x (eb Γ μ)
  | none=>none
@[simp] theorem kCh_s {f g:D→D→M→Option (D×M)}:kCh f g eb ec Γ (some (x,μ))=zt1 f g ec Γ x (eb Γ μ):=rfl
@[simp] theorem vChain_eq {f g:D→D→M→Option (D×M)}:z4k f g ea eb ec Γ μ=kCh f g eb ec Γ (ea Γ μ):=by
  unfold z4k kCh
  cases ea Γ μ with
  | none=>rfl
  | some p =>
    show (eb Γ p.2).bind _=zt1 f g ec Γ p.1 (eb Γ p.2)
    cases eb Γ p.2 with
    | none=>rfl
    | some q =>
      show (f p.1 q.1 q.2).bind _=zt0 g ec Γ q.1 (f p.1 q.1 q.2)
      cases f p.1 q.1 q.2 with
      | none=>rfl
      | some t =>
        obtain ⟨t1,t2⟩:=t
        cases t1 with
        | bl c =>
          cases c with
          | true=>show (ec Γ t2).bind _=ziz g q.1 (ec Γ t2);cases ec Γ t2 <;> rfl
          | false=>rfl
        | _=>rfl
noncomputable def kD (μ:M):Option D→Option (D×M)
  | some d=>some (d,μ)
  | none=>none
@[simp] theorem kD_s:kD μ (some d)=some (d,μ):=rfl
@[simp] theorem fI0_eq {g:Int→Int→D} {i j:Int}:fI0 g (.int i) (.int j) μ=some (g i j,μ):=rfl
@[simp] theorem fI_eq {C:Int→Int→Prop} [∀ i j,Decidable (C i j)] {g:Int→Int→D} {i j:Int}:fI C g (.int i) (.int j) μ=if C i j then some (g i j,μ) else none:=rfl
@[simp] theorem fNeg_eq {i:Int}:zof (.int i) μ=some (.int (-i),μ):=rfl
@[simp] theorem fNot_eq {b:Bool}:zf2 (.bl b) μ=some (.bl (!b),μ):=rfl
@[simp] theorem fPlus_int {i j:Int}:z0w (.int i) (.int j) μ=some (.int (i+j),μ):=rfl
@[simp] theorem fTimes_int {i j:Int}:z20 (.int i) (.int j) μ=if CMul i j then some (.int (i*j),μ) else none:=rfl
@[simp] theorem zku {b:Bool}:z7k (.bl b) μ=some (.int (if b then 1 else 0),μ):=rfl
@[simp] theorem z9t {i j:Int}:eqD (.int i) (.int j) μ=some (decide (i=j)):=rfl
@[simp] theorem eqD_str {a b:Str}:eqD (.str a) (.str b) μ=if PyData.strOk a&&PyData.strOk b then some (decide (a=b)) else none:=rfl
@[simp] theorem lsOf_lst:z2h μ (.lst ds)=some ds:=rfl
@[simp] theorem lsOf_scr:z2h μ (.scr ds)=some ds:=rfl
@[simp] theorem lsOf_tup:z2h μ (.tup ds)=none:=rfl
@[simp] theorem tpOf_tup:zlo (.tup ds)=some ds:=rfl
@[simp] theorem wlOf_lst:zeg μ (.lst ds)=some ds:=rfl
@[simp] theorem lsC_lst:lsC μ (.lst ds)=some (ds,none):=rfl
@[simp] theorem lsC_scr:lsC μ (.scr ds)=some (ds,none):=rfl
@[simp] theorem fLst_eq:z3j ds μ=if ds.length≤1000 then some (.lst ds,μ) else none:=rfl
@[simp] theorem fTup_eq:za3 ds μ=if ds.length≤1000 then some (.tup ds,μ) else none:=rfl
@[simp] theorem fNew_eq:z7g ds μ=if ds.length≤1000 then some (.ref μ.length,μ++[some (.lst ds)]) else none:=rfl
@[simp] theorem fIx_lst {i:Int}:fIx (.lst ds) (.int i) μ=kD μ (atI ds i):=by
  show (atI ds i).bind _=_
  unfold kD;cases atI ds i <;> rfl
@[simp] theorem fIx_scr {i:Int}:fIx (.scr ds) (.int i) μ=kD μ (atI ds i):=by
  show (atI ds i).bind _=_
  unfold kD;cases atI ds i <;> rfl
@[simp] theorem fIx_tup {i:Int}:fIx (.tup ds) (.int i) μ=kD μ (atI ds i):=by
  show (atI ds i).bind _=_
  unfold kD;cases atI ds i <;> rfl
@[simp] theorem fLen_lst:z6b (.lst ds) μ=some (.int ds.length,μ):=rfl
@[simp] theorem fLen_tup:z6b (.tup ds) μ=some (.int ds.length,μ):=rfl
@[simp] theorem fCat_lst {es:List D}:z0w (.lst ds) (.lst es) μ=if ds.length+es.length≤1000000 then some (.lst (ds++es),μ) else none:=rfl
@[simp] theorem fList_lst:z7h (.lst ds) μ=some (.lst ds,μ):=rfl
@[simp] theorem fSl_lst {lo hi:Option Int}:fSl (.lst ds) lo hi μ=some (.lst (ze6 ds lo hi),μ):=rfl
@[simp] theorem fSl_tup {lo hi:Option Int}:fSl (.tup ds) lo hi μ=if HT.sIx ds.length 0 lo=0∧HT.sIx ds.length ds.length hi=ds.length then none else some (.tup (ze6 ds lo hi),μ):=rfl
@[simp] theorem z6w {b:Bool}:tru μ (.bl b)=some b:=rfl
@[simp] theorem tru_lst:tru μ (.lst ds)=some (!ds.isEmpty):=rfl
theorem z7v {α:Type} {xs:List α} {j:Nat} {v:α} (h:xs[j]?=some v):atI xs (j:Int)=some v:=by
  have hlt:=(List.getElem?_eq_some_iff.mp h).1
  unfold atI ixN
  rw [if_pos (by omega),if_pos (by omega)]
  simpa using h
@[simp] theorem atI_0 {α:Type} {a:α} {l:List α}:atI (a::l) 0=some a:=z7v (j:=0) rfl
@[simp] theorem atI_1 {α:Type} {a b:α} {l:List α}:atI (a::b::l) 1=some b:=z7v (j:=1) rfl
@[simp] theorem atI_2 {α:Type} {a b c:α} {l:List α}:atI (a::b::c::l) 2=some c:=z7v (j:=2) rfl
@[simp] theorem atI_3 {α:Type} {a b c d:α} {l:List α}:atI (a::b::c::d::l) 3=some d:=z7v (j:=3) rfl
end
noncomputable def inI:D→Option Int
  | .int i=>some i
  | _=>none
noncomputable def inB:D→Option Bool
  | .bl b=>some b
  | _=>none
section
variable {K:PySem.W.Frag} {W:Wd}
theorem z7e:∀ {ds:List D} {vs:List V} {ns:List Int},optAll inI ds=some ns→DRs K W ds vs→vs=ns.map V.int
  | _,_,_,h,.nil=>by cases h;rfl
  | d::_,_,_,h,.cons r t=>by
    refine z05 h fun u h1 h=>?_
    refine z05 h fun us h2 h=>?_
    cases h
    cases d <;> cases h1
    cases r
    rw [z7e h2 t];rfl
theorem ze9:∀ {ds:List D} {vs:List V} {ns:List Bool},optAll inB ds=some ns→DRs K W ds vs→vs=ns.map V.bl
  | _,_,_,h,.nil=>by cases h;rfl
  | d::_,_,_,h,.cons r t=>by
    refine z05 h fun u h1 h=>?_
    refine z05 h fun us h2 h=>?_
    cases h
    cases d <;> cases h1
    cases r
    rw [ze9 h2 t];rfl
theorem z5i (ns:List Int):optAll inI (ns.map D.int)=some ns:=by
  have:=z2t (f:=inI) (g:=D.int) (h:=id) (l:=ns) fun x _=>rfl
  simpa using this
theorem z5j (ns:List Bool):optAll inB (ns.map D.bl)=some ns:=by
  have:=z2t (f:=inB) (g:=D.bl) (h:=id) (l:=ns) fun x _=>rfl
  simpa using this
end
noncomputable def mx:Int→List Int→Int
  | a,[]=>a
  | a,b::r=>mx (if b > a then b else a) r
theorem zrh:∀ (r l:List Int) (a:Int),IsMax a l→IsMax (mx a r) (l++r)
  | [],l,a,h=>by simpa [mx] using h
  | b::r,l,a,h=>by
    have:=zrh r (l++[b]) (if b > a then b else a) h.step
    simpa [mx] using this
theorem z8o {a b:Int} {l:List Int} (h:IsMax a l) (g:IsMax b l):a=b:=by
  have h1:=h.2 b g.1
  have h2:=g.2 a h.1
  omega
noncomputable def mxL:List Int→Option Int
  | []=>none
  | a::r=>some (mx a r)
theorem zdo {l:List Int} {m:Int} (h:mxL l=some m):IsMax m l:=by
  cases l with
  | nil=>cases h
  | cons a r =>
    cases h
    exact zrh r [a] a ⟨by simp,by simp⟩
section
variable {X:Cx} {K:PySem.W.Frag} {a b:Expr} {ea eb:EV} {pos p kp:Pos}
noncomputable def zcs (x:D) (μ:M):Option (D×M):=(z2h μ x).bind fun ds=>(optAll inI ds).bind fun ns=>(mxL ns).bind fun m=>some (.int m,μ)
theorem zpj (mm:X.mg "max" = none) (ha:PE X a (tD K ea)) (hc:X.calm=true:=by rfl) (hg:Gl X "max" := by rfl) (hs:starEach [a] X.env=[(false,eval a X.env)]:=by rfl) (hK:X.K=K:=by rfl):PE X (.Call (.Name "max" p) [a] [] pos) (tD K (v1 zcs ea)):=z0l (zub K mm ha hc hg hs hK) (z2v (by
  intro W x d z μ' Q ok r1 hf q
  refine z05 hf fun ds h1 hf=>?_
  refine z05 hf fun ns h2 hf=>?_
  refine z05 hf fun m h3 hf=>?_
  cases hf
  obtain ⟨a,vs,rfl,hs,hv⟩:=z2x ok h1 r1
  have:=z7e h2 hv
  subst this
  refine ⟨a,ns,rfl,hs,(fun z=>by rw [z] at h3;cases h3),fun M hM=>?_⟩
  rw [z8o hM (zdo h3)]
  exact q _ W rfl ok .refl (.int _)))
noncomputable def z9o (x y:D) (μ:M):Option (D×M):=match y with
  | .int j=>(z2h μ x).bind fun ds=>(optAll inI ds).bind fun ns=>some (.int ((mxL ns).getD j),μ)
  | _=>none
theorem zld (mm:X.mg "max" = none) (ha:PE X a (tD K ea)) (hb:PE X b (tD K eb)) (hc:X.calm=true:=by rfl) (hg:Gl X "max" := by rfl) (hs:starEach [a] X.env=[(false,eval a X.env)]:=by rfl) (hK:X.K=K:=by rfl)
    (hall:(backToKw pos (keywordEach [⟨some "default",b,kp⟩] X.env)).all (·.1.isSome)=true:=by rfl) (hks:(backToKw pos (keywordEach [⟨some "default",b,kp⟩] X.env)).filterMap (·.1)=([Str.ofString "default"]:List Str):=by rfl)
    (hno:(backToKw pos (keywordEach [⟨some "default",b,kp⟩] X.env)).any (·.1.isNone)=false:=by rfl):PE X (.Call (.Name "max" p) [a] [⟨some "default",b,kp⟩] pos) (tD K (v2 z9o ea eb)):=z0l (zop K mm ha hb hc hg hs hK hall hks hno) (z8h (by
  intro W x y d e z μ' Q ok r1 r2 hf q
  unfold z9o at hf
  split at hf
  · cases r2
    refine z05 hf fun ds h1 hf=>?_
    refine z05 hf fun ns h2 hf=>?_
    cases hf
    obtain ⟨a,vs,rfl,hs,hv⟩:=z2x ok h1 r1
    have:=z7e h2 hv
    subst this
    refine ⟨a,ns,_,rfl,rfl,hs,fun z=>?_,fun M hM=>?_⟩
    · subst z;exact q _ W rfl ok .refl (.int _)
    · cases hn:mxL ns with
      | none =>
        cases ns with
        | nil=>exact absurd hM.1 (by simp)
        | cons _ _=>cases hn
      | some m =>
        rw [z8o hM (zdo hn)]
        have:=q (.int m) W rfl ok .refl (by rw [hn];exact .int _)
        exact this
  · cases hf))
noncomputable def ze2 (x:D) (μ:M):Option (D×M):=(z2h μ x).bind fun ds=>(optAll inB ds).bind fun bs=>some (.bl (bs.all id),μ)
theorem zjd (mm:X.mg "all" = none) (ha:PE X a (tD K ea)) (hc:X.calm=true:=by rfl) (hg:Gl X "all" := by rfl) (hs:starEach [a] X.env=[(false,eval a X.env)]:=by rfl) (hK:X.K=K:=by rfl):PE X (.Call (.Name "all" p) [a] [] pos) (tD K (v1 ze2 ea)):=z0l (zvs K mm ha hc hg hs hK) (z2v (by
  intro W x d z μ' Q ok r1 hf q
  refine z05 hf fun ds h1 hf=>?_
  refine z05 hf fun ns h2 hf=>?_
  cases hf
  obtain ⟨a,vs,rfl,hs,hv⟩:=z2x ok h1 r1
  have:=ze9 h2 hv
  subst this
  exact ⟨a,ns,rfl,hs,q _ W rfl ok .refl (.bl _)⟩))
end
theorem zdz {c:Ck} {g:GV} {body:SV} (Pv:G→M→Prop):∀ (its:List D) (Γ:G) (μ:M),Pv Γ μ →
    (∀ d∈its,∀ Γ μ,Pv Γ μ→∃ Γ1 μ1 Γ2 μ2,g d Γ μ=some (Γ1,μ1)∧body Γ1 μ1=some (.nx,Γ2,μ2)∧z33 c μ2∧Pv Γ2 μ2)→∃ Γ' μ',z5b c g body its Γ μ=some (.nx,Γ',μ')∧Pv Γ' μ'
  | [],Γ,μ,h,_=>⟨Γ,μ,rfl,h⟩
  | d::r,Γ,μ,h,hs=>by
    refine bq fun bG=>?_
    obtain ⟨Γ1,μ1,Γ2,μ2,h1,h2,h3,h4⟩:=hs d (by simp) Γ μ h
    obtain ⟨Γ',μ',h5,h6⟩:=zdz Pv r Γ2 μ2 h4 fun d hd=>hs d (by simp [hd])
    refine bG (⟨Γ',μ',?_,h6⟩)
    simp only [z5b,h1,bs,h2]
    rw [z26 h3,h5]
theorem z1x {α:Type} {μ:M} {x:Option α}:chk (z33 none μ) x=x:=z26 trivial
theorem z8u {g:GV} {tc:BV} {te:EV} {α:Type} {dn:α→D} {keep:α→Bool} {val:α→D} (Pv:G→Prop) {μ:M}:∀ (l:List α) (Γ:G),Pv Γ →
    (∀ x∈l,∀ Γ,Pv Γ→∃ Γ1,g (dn x) Γ μ=some (Γ1,μ)∧tc Γ1 μ=some (keep x,μ)∧(keep x=true→te Γ1 μ=some (val x,μ))∧Pv Γ1) →
    z2s none g tc te (l.map dn) Γ μ=some ((l.filter keep).map val,μ)
  | [],_,_,_=>rfl
  | x::r,Γ,h,hs=>by
    obtain ⟨Γ1,h1,h2,h3,h4⟩:=hs x (by simp) Γ h
    have ih:=z8u Pv r Γ1 h4 fun x hx=>hs x (by simp [hx])
    simp only [List.map_cons,z2s,h1,bs,h2]
    cases hk:keep x with
    | true=>simp only [if_true,h3 hk,bs,z1x,ih,List.filter_cons_of_pos hk,List.map_cons]
    | false=>simp only [Bool.false_eq_true,if_false,z1x,ih,List.filter_cons,hk]
section
variable {μ:M} {k:Nat} {ds:List D}
noncomputable def z6l:Option (Out×G×M)→Option (D×M)
  | some (.rt d,_,μ)=>some (d,μ)
  | some (.nx,_,μ)=>some (.non,μ)
  | _=>none
@[simp] theorem kRun_rt {d:D} {Γ:G}:z6l (some (.rt d,Γ,μ))=some (d,μ):=rfl
@[simp] theorem kRun_nx {Γ:G}:z6l (some (.nx,Γ,μ))=some (.non,μ):=rfl
@[simp] theorem z1t {n m:Nat} {es:SV}:z6j n m es ds μ=if ds.length=m then z6l (es (ds.map some++List.replicate (n - ds.length) none) μ) else none:=by
  unfold z6j
  split
  · unfold z6l
    cases es (ds.map some++List.replicate (n - ds.length) none) μ with
    | none=>rfl
    | some o=>obtain ⟨o1,o2,o3⟩:=o;cases o1 <;> rfl
  · rfl
theorem z37 {x y:Option O} (h:μ[k]?=some x):(μ.set k y)[k]?=some y:=by
  have hlt:=(List.getElem?_eq_some_iff.mp h).1
  simp [hlt]
theorem z0z {j:Nat} {y:Option O} (h:j≠k):(μ.set k y)[j]?=μ[j]?:=List.getElem?_set_ne (Ne.symm h)
theorem z2m (h:μ[k]?=some (some (.lst ds))):z2h μ (.ref k)=some ds:=by simp only [z2h,h]
theorem zje (h:μ[k]?=some (some (.lst ds))):zeg μ (.ref k)=some ds:=by simp only [zeg,h]
theorem z7i {i:Int} (h:μ[k]?=some (some (.lst ds))):fIx (.ref k) (.int i) μ=kD μ (atI ds i):=by
  simp only [fIx,z2m h]
  unfold kD;cases atI ds i <;> rfl
theorem z9p (h:μ[k]?=some (some (.lst ds))):z6b (.ref k) μ=some (.int ds.length,μ):=by simp only [z6b,z2m h]
theorem z4x {g:List D→Option (D×List D)} (h:μ[k]?=some (some (.lst ds))):onL (.ref k) μ g=kOn μ k (g ds):=by
  simp only [onL,h]
  unfold kOn;cases g ds <;> rfl
theorem z52 (h:μ[k]?=some (some (.lst ds))):lsC μ (.ref k)=some (ds,some (k,ds)):=by simp only [lsC,h]
@[simp] theorem ixN_0 {n:Nat}:ixN (n+1) 0=some 0:=by unfold ixN;rw [if_pos (by omega),if_pos (by omega)];rfl
@[simp] theorem ixN_1 {n:Nat}:ixN (n+2) 1=some 1:=by unfold ixN;rw [if_pos (by omega),if_pos (by omega)];rfl
@[simp] theorem ixN_2 {n:Nat}:ixN (n+3) 2=some 2:=by unfold ixN;rw [if_pos (by omega),if_pos (by omega)];rfl
end
section
variable {P:Program} {w:World} {K:PySem.W.Frag} {mg:Str→Option Value} {base:Heap} {f:Addr} {fd:FuncData} {k:Nat}
theorem zoc {ps:List Str}:FnOk P w K mg base CX0 k f fd ps (spM K fun _ _=>none) :=
  ⟨(fun vs H Q E h=>by obtain ⟨_,_,_,_,_,_,_,z,_⟩:=h;cases z),(fun A outer s H args us vs Q E _ _ _ _ h=>by obtain ⟨_,_,_,_,_,_,_,z,_⟩:=h;cases z)⟩
noncomputable def zji (K:PySem.W.Frag):Sp:=fun vs H Q _=>∃ (a:Addr) (ns:List Int),vs=[.ref a]∧zt5 H∧SqL K H a (ns.map V.int)∧ns.length≤63∧∀ H',Q (.bl true) H'
noncomputable def W0 (H:Hp):Wd:=⟨[],[],H,fun _=>False⟩
theorem zty {H:Hp}:Ok K (W0 H) where
  len:=rfl
  nd:=by simp [W0]
  rs a h:=by simp [W0] at h
  at_ k o h:=by simp [W0] at h
  hd0 a h:=h.elim
theorem z6p {W:Wd}:∀ ns:List Int,DRs K W (ns.map D.int) (ns.map V.int)
  | []=>.nil
  | n::r=>.cons (.int n) (z6p r)
theorem zrk {g:List D→M→Option (D×M)} (F:FnOk P w K mg base CX0 k f fd ["script"] (spM K g)) (h:∀ ns:List Int,ns.length≤63→∃ μ',g [.scr (ns.map D.int)] []=some (.bl true,μ')):FnOk P w K mg base CX0 k f fd ["script"] (zji K):=F.imp fun vs H Q E hh=>by
  obtain ⟨a,ns,rfl,hO,hS,hl,q⟩:=hh
  obtain ⟨μ',e⟩:=h ns hl
  have hF:SqF K H a (ns.map V.int):=by
    rcases hS with (hS | hS) | hS
    · rcases hO a with z | ⟨o,xs,z⟩
      · rw [z] at hS;cases hS
      · rw [z] at hS;cases hS
    · exact .inl hS
    · exact .inr hS
  exact ⟨W0 H,[.scr (ns.map D.int)],.bl true,μ',rfl,zty,.cons (.scr hF (z6p ns)) .nil,e,fun v W' _ _ _ r=>by cases r;exact q _⟩
end
theorem z53 {c:Ck} {g:GV} {body:SV} (Pv:Nat→G→M→Prop):∀ (its:List D) (i:Nat) (Γ:G) (μ:M),Pv i Γ μ →
    (∀ j d Γ μ,its[j]?=some d→Pv (i+j) Γ μ→∃ Γ1 μ1 Γ2 μ2,g d Γ μ=some (Γ1,μ1)∧body Γ1 μ1=some (.nx,Γ2,μ2)∧z33 c μ2∧Pv (i+j+1) Γ2 μ2)→∃ Γ' μ',z5b c g body its Γ μ=some (.nx,Γ',μ')∧Pv (i+its.length) Γ' μ'
  | [],i,Γ,μ,h,_=>⟨Γ,μ,rfl,h⟩
  | d::r,i,Γ,μ,h,hs=>by
    obtain ⟨Γ1,μ1,Γ2,μ2,h1,h2,h3,h4⟩:=hs 0 d Γ μ rfl h
    obtain ⟨Γ',μ',h5,h6⟩:=z53 Pv r (i+1) Γ2 μ2 h4 fun j d Γ μ hj hp=>by
      have:=hs (j+1) d Γ μ (by simpa using hj) (by rw [show i+(j+1)=i+1+j by omega];exact hp)
      rw [show i+(j+1)+1=i+1+j+1 by omega] at this
      exact this
    refine ⟨Γ',μ',?_,by rw [List.length_cons,show i+(r.length+1)=i+1+r.length by omega];exact h6⟩
    simp only [z5b,h1,bs,h2]
    rw [z26 h3,h5]
theorem zjy {lo:Int} {n j:Nat} {d:D} (h:(z4w lo n)[j]?=some d):j<n∧d=.int (lo+j):=by
  have hlt:=(List.getElem?_eq_some_iff.mp h).1
  simp [z4w] at hlt
  simp [z4w,hlt] at h
  exact ⟨hlt,h.symm⟩
theorem z95 {n j:Nat} {d:D} (h:(z4w 0 n)[j]?=some d):j<n∧d=.int (j:Int):=by
  refine bq fun bG=>?_
  obtain ⟨a,b⟩:=zjy h
  exact bG (⟨a,by rw [b,Int.zero_add]⟩)
theorem z6k {lo:Int} {n:Nat}:(z4w lo n).length=n:=by simp [z4w]
noncomputable def zsz:Option (List D×M)→Option (D×M)
  | some (rs,μ)=>some (.lst rs,μ)
  | none=>none
@[simp] theorem kLst_s {rs:List D} {μ:M}:zsz (some (rs,μ))=some (.lst rs,μ):=rfl
noncomputable def zo9 (own:List Str) (cap:List (Str×Nat)) (g:GV) (tc:BV) (te:EV) (Γ:G):Option ((List D×Ck)×M)→Option (D×M)
  | some ((its,c),μ)=>if its.length≤1000000 then zsz (z2s c g tc te its (z4r own cap Γ) μ) else none
  | none=>none
@[simp] theorem z9g {own:List Str} {cap:List (Str×Nat)} {g:GV} {tc:BV} {te:EV} {Γ:G} {its:List D} {c:Ck} {μ:M}:zo9 own cap g tc te Γ (some ((its,c),μ))=if its.length≤1000000 then zsz (z2s c g tc te its (z4r own cap Γ) μ) else none:=rfl
@[simp] theorem z6h {own:List Str} {cap:List (Str×Nat)} {iv:IV} {g:GV} {tc:BV} {te:EV} {Γ:G} {μ:M}:z1d own cap iv g tc te Γ μ=zo9 own cap g tc te Γ (iv Γ μ):=by
  unfold z1d zo9
  cases iv Γ μ with
  | none=>rfl
  | some s =>
    obtain ⟨⟨its,c⟩,μ1⟩:=s
    show (if its.length≤1000000 then (z2s c g tc te its (z4r own cap Γ) μ1).bind _ else none)=if its.length≤1000000 then zsz (z2s c g tc te its (z4r own cap Γ) μ1) else none
    split
    · cases z2s c g tc te its (z4r own cap Γ) μ1 <;> rfl
    · rfl
noncomputable def zkn:Option (List D×M)→Option (D×M)
  | some (rs,μ)=>if rs.length≤1000000 then some (.lst rs,μ) else none
  | none=>none
@[simp] theorem zhk {rs:List D} {μ:M}:zkn (some (rs,μ))=if rs.length≤1000000 then some (.lst rs,μ) else none:=rfl
noncomputable def zhl (own:List Str) (cap:List (Str×Nat)) (g:GV) (tc:BV) (iv2:IV) (g2:GV) (tc2:BV) (te:EV) (Γ:G):Option ((List D×Ck)×M)→Option (D×M)
  | some ((its,c),μ)=>zkn (z36 c g tc iv2 g2 tc2 te its (z4r own cap Γ) μ)
  | none=>none
@[simp] theorem zds {own:List Str} {cap:List (Str×Nat)} {iv2:IV} {g g2:GV} {tc tc2:BV} {te:EV} {Γ:G} {its:List D} {c:Ck} {μ:M}:zhl own cap g tc iv2 g2 tc2 te Γ (some ((its,c),μ))=zkn (z36 c g tc iv2 g2 tc2 te its (z4r own cap Γ) μ):=rfl
@[simp] theorem zac {own:List Str} {cap:List (Str×Nat)} {iv iv2:IV} {g g2:GV} {tc tc2:BV} {te:EV} {Γ:G} {μ:M}:z4j own cap iv g tc iv2 g2 tc2 te Γ μ=zhl own cap g tc iv2 g2 tc2 te Γ (iv Γ μ):=by
  unfold z4j zhl
  cases iv Γ μ with
  | none=>rfl
  | some s =>
    obtain ⟨⟨its,c⟩,μ1⟩:=s
    show (z36 c g tc iv2 g2 tc2 te its (z4r own cap Γ) μ1).bind _=zkn (z36 c g tc iv2 g2 tc2 te its (z4r own cap Γ) μ1)
    cases z36 c g tc iv2 g2 tc2 te its (z4r own cap Γ) μ1 <;> rfl
section
variable {X:Cx} {K:PySem.W.Frag} {pos:Pos} {el:LV} {ea:EV}
end
section
variable {X:Cx} {K:PySem.W.Frag} {a b:Expr} {ea eb:EV} {p p2 pos kp kp2:Pos}
end
noncomputable def zab (kvs:List (Key×D)) (k:Key):Option D:=(kvs.find? fun kv=>decide (kv.1=k)).map (·.2)
noncomputable def zc5 (kvs:List (Key×D)) (k:Key) (v:D):List (Key×D) :=
  if (kvs.any fun kv=>decide (kv.1=k))=true then kvs.map (fun kv=>if kv.1=k then (kv.1,v) else kv) else kvs++[(k,v)]
noncomputable def ziy:D→Option Key
  | .int i=>some (.inl i)
  | .str x=>some (.inr x)
  | _=>none
noncomputable def z8c (μ:M):D→Option (List (Key×D))
  | .ref k=>match μ[k]? with
    | some (some (.dK kvs))=>some kvs
    | _=>none
  | _=>none
section
variable {K:PySem.W.Frag} {W:Wd}
theorem zco {d:D} {k:Key} {v:V} (h:ziy d=some k) (r:DR K W d v):v=kV k:=by
  cases d <;> simp only [ziy] at h <;> cases h <;> cases r <;> rfl
theorem z5u {d:D} {kvs:List (Key×D)} {v:V} (ok:Ok K W) (h:z8c W.μ d=some kvs) (r:DR K W d v) :
    ∃ k a vs,d=.ref k∧v=.ref a∧W.μ[k]?=some (some (.dK kvs))∧W.ρ[k]?=some a∧W.H a=some (.dK vs)∧KR K W kvs vs:=by
  cases d with
  | ref k =>
    simp only [z8c] at h
    split at h
    · rename_i kvs' hk
      cases h
      cases r with
      | ref ha =>
        refine bq fun bG=>?_
        obtain ⟨a',ho,h1,h2,vs,rfl,r⟩:=ok.at_ k _ hk
        rw [ha] at h1
        cases h1
        exact bG (⟨k,_,vs,rfl,rfl,hk,ha,h2,r⟩)
    · cases h
  | _=>simp [z8c] at h
theorem KR.len {kvs:List (Key×D)} {vs:List (Key×V)} (r:KR K W kvs vs):kvs.length=vs.length:=Paired.length r
theorem KR.any {kvs:List (Key×D)} {vs:List (Key×V)} (r:KR K W kvs vs) (k:Key):(kvs.any fun kv=>decide (kv.1=k))=vs.any fun kv=>decide (kv.1=k):=by
  unfold KR at r
  induction r with
  | nil=>rfl
  | cons h t ih=>rw [List.any_cons,List.any_cons,ih,h.1]
theorem KR.val {kvs:List (Key×D)} {vs:List (Key×V)} (r:KR K W kvs vs) (k:Key):(zab kvs k).isSome=(zbo vs k).isSome:=by
  unfold KR at r
  induction r with
  | nil=>rfl
  | @cons p q ps qs h t ih =>
    by_cases e:p.1=k
    · rw [z6f (by rw [← h.1];exact e)]
      simp [zab,List.find?_cons,e]
    · rw [z6g (by rw [← h.1];exact e)]
      simp only [zab,List.find?_cons,e,decide_false] at ih ⊢
      exact ih
theorem KR.snoc {kvs:List (Key×D)} {vs:List (Key×V)} (r:KR K W kvs vs) (k:Key) {d:D} {v:V} (rv:DR K W d v):KR K W (kvs++[(k,d)]) (vs++[(k,v)]):=Paired.snoc r ⟨rfl,rv⟩
theorem KR.repl {kvs:List (Key×D)} {vs:List (Key×V)} (r:KR K W kvs vs) (k:Key) {d:D} {v:V} (rv:DR K W d v) :
    KR K W (kvs.map fun kv=>if kv.1=k then (kv.1,d) else kv) (vs.map fun kv=>if kv.1=k then (kv.1,v) else kv):=by
  unfold KR at r ⊢
  induction r with
  | nil=>exact .nil
  | @cons p q ps qs h t ih =>
    refine .cons ?_ ih
    show (if p.1=k then (p.1,d) else p).1=(if q.1=k then (q.1,v) else q).1∧DR K W (if p.1=k then (p.1,d) else p).2 (if q.1=k then (q.1,v) else q).2
    by_cases e:p.1=k
    · rw [if_pos e,if_pos (by rw [← h.1];exact e)];exact ⟨h.1,rv⟩
    · rw [if_neg e,if_neg (by rw [← h.1];exact e)];exact h
theorem KR.put {kvs:List (Key×D)} {vs:List (Key×V)} (r:KR K W kvs vs) (k:Key) {d:D} {v:V} (rv:DR K W d v):KR K W (zc5 kvs k d) (zdh vs k v):=by
  unfold zc5 zdh
  rw [r.any k]
  by_cases e:(vs.any fun kv=>decide (kv.1=k))=true
  · rw [if_pos e,if_pos e];exact r.repl k rv
  · rw [if_neg e,if_neg e];exact r.snoc k rv
theorem KR.vals {kvs:List (Key×D)} {vs:List (Key×V)} (r:KR K W kvs vs):DRs K W (kvs.map (·.2)) (vs.map (·.2)):=by
  unfold KR at r
  induction r with
  | nil=>exact .nil
  | cons h t ih=>exact .cons h.2 ih
theorem zlt {k:Nat} {a:Addr} {kvs kvs':List (Key×D)} {vs':List (Key×V)} (ok:Ok K W) (hk:W.μ[k]?=some (some (.dK kvs))) (ha:W.ρ[k]?=some a) (hs:KR K W kvs' vs') :
    Ok K (W.put k a (.dK vs') (.dK kvs'))∧Step W (W.put k a (.dK vs') (.dK kvs')):=⟨zm5 ok hk ha ⟨vs',rfl,hs⟩,z4a hk ha⟩
theorem zbx {d:D} {kvs:List (Key×D)} {v:V} (ok:Ok K W) (h:z8c W.μ d=some kvs) (r:DR K W d v):tyV K "dict" v W.H:=by
  refine bq fun bG=>?_
  obtain ⟨k,a,vs,rfl,rfl,_,_,hh,_⟩:=z5u ok h r
  exact bG (.inr (.inr (.inl ⟨rfl,.inl ⟨vs,hh⟩⟩)))
end
section
variable {X:Cx} {K:PySem.W.Frag} {a b c e o i value:Expr} {ea eb eo ei:EV} {pos p apos pos' pos1:Pos} {k:Nat}
end
noncomputable def z4q (n:Nat) (c:Ck) (g:GV) (tc:BV) (tk tv:EV):List D→G→M→Option M
  | [],_,μ=>some μ
  | d::r,Γ,μ=>(g d Γ μ).bind fun p=>(tc p.1 p.2).bind fun t=>if t.1=true then (tk p.1 t.2).bind fun y=>(tv p.1 y.2).bind fun v=>(ziy y.1).bind fun k=>(z8c v.2 (.ref n)).bind fun kvs =>
      chk (kvs.length<1000000∧z33 c (v.2.set n (some (.dK (zc5 kvs k v.1))))) (z4q n c g tc tk tv r p.1 (v.2.set n (some (.dK (zc5 kvs k v.1))))) else chk (z33 c t.2) (z4q n c g tc tk tv r p.1 t.2)
section
variable {X:Cx} {K:PySem.W.Frag} {N' own:List Str} {cap:List (Str×Nat)} {scope:Scope} {tg iter kx vx:Expr} {ifs:List Expr} {pos:Pos} {iv:IV} {g:GV} {tc:BV} {tk tv:EV}
end
section
variable {X:Cx} {K:PySem.W.Frag} {a b c e o i value:Expr} {ea eb eo ei:EV} {pos p apos pos' pos1:Pos} {k:Nat}
noncomputable def zfq:EV:=fun _ μ=>some (.ref μ.length,μ++[some (.dK [])])
theorem zlh:PE X (.Dict [] [] pos) (tD K zfq):=z0l zk9 fun σ H Q h=>by
  refine el4 h fun W Γ d μ' eH ok en e q=>?_;subst eH
  cases e
  intro pa hp
  exact q _ (W.new pa (.dK []) (.dK [])) rfl (zam ok hp ⟨[],rfl,.nil⟩) (z27 ok hp) (zb6 ok)
noncomputable def z55 (x y:D) (μ:M):Option (D×M):=(z8c μ x).bind fun kvs=>(ziy y).bind fun k=>(zab kvs k).bind fun d=>some (d,μ)
theorem KR.at {W:Wd} {kvs:List (Key×D)} {vs:List (Key×V)} (r:KR K W kvs vs) {k:Key} {d:D} (h:zab kvs k=some d):∃ v,zbo vs k=some v∧DR K W d v:=by
  unfold KR at r
  induction r with
  | nil=>cases h
  | @cons p q ps qs hd t ih =>
    by_cases e:p.1=k
    · have:zab (p::ps) k=some p.2:=by simp [zab,List.find?_cons,e]
      rw [this] at h
      cases h
      exact ⟨q.2,z6f (by rw [← hd.1];exact e),hd.2⟩
    · have:zab (p::ps) k=zab ps k:=by simp [zab,List.find?_cons,e]
      rw [this] at h
      obtain ⟨v,h1,h2⟩:=ih h
      exact ⟨v,by rw [z6g (by rw [← hd.1];exact e)];exact h1,h2⟩
theorem zd7 (hr:Room k X.A) (ha:PE X a (tD K ea)) (hb:PE X b (tD K eb)) (hs:zuj b:=by exact fun _ _=>rfl):PE X (.Subscript a b pos) (tD K (v2 z55 ea eb)) :=
  z0l (zns (by have:=hr.units;omega) ha hb hs) fun σ H Q h=>by
    refine el4 h fun W Γ d μ' eH ok en e q=>?_;subst eH
    refine z05 e fun p1 e1 e=>?_
    refine z05 e fun p2 e2 e=>?_
    refine z05 e fun kvs e3 e=>?_
    refine z05 e fun ky e4 e=>?_
    refine z05 e fun d2 e5 e=>?_
    cases e
    refine ⟨W,Γ,p1.1,p1.2,rfl,ok,en,e1,fun x W1 hμ ok1 s1 r1=>⟨W1,Γ,p2.1,p2.2,rfl,ok1,en.step ok s1,by rw [hμ];exact e2,fun y W2 hμ2 ok2 s2 r2=>?_⟩⟩
    rw [← hμ2] at e3
    obtain ⟨n,a,vs,hd,rfl,hk,ha,hh,hs⟩:=z5u ok2 e3 (r1.step ok1 s2)
    have:=zco e4 r2
    subst this
    obtain ⟨v,h1,h2⟩:=hs.at e5
    exact ⟨a,v,rfl,by rw [← h1];exact DGet.k hh,q _ W2 hμ2 ok2 (s1.trans s2) h2⟩
noncomputable def ze1 (x:D) (μ:M):Option (D×M):=(z8c μ x).bind fun kvs=>some (.lst (kvs.map (·.2)),μ)
theorem zmp (ml:X.mg "list" = none) (ho:PE X o (tD K eo)) (hc:X.calm=true:=by rfl) (hg:Gl X "list" := by rfl) (hbase:attributeBase o "values" X.env (eval o X.env)=eval o X.env:=by rfl) (hline:(apos.endLine==pos1.line)=true:=by rfl)
    (hs:starEach [.Call (.Attribute o "values" apos) [] [] pos1] X.env=[(false,eval (.Call (.Attribute o "values" apos) [] [] pos1) X.env)]:=by rfl) (hK:X.K=K:=by rfl) :
    PE X (.Call (.Name "list" p) [.Call (.Attribute o "values" apos) [] [] pos1] [] pos) (tD K (v1 ze1 eo)):=by
  refine z0l (z44 (p:=p) (pos:=pos) (z6c (X:=X)) hg ml rfl (z0n (zkz K ho hbase hline hK) z16 hs) (he:=hs)) fun σ H Q h=>?_
  refine el4 h fun W Γ d μ' eH ok en e q=>?_;subst eH
  refine z05 e fun p1 e1 e=>?_
  refine z05 e fun kvs e2 e=>?_
  cases e
  refine ⟨W,Γ,p1.1,p1.2,rfl,ok,en,e1,fun x W1 hμ ok1 s1 r1=>?_⟩
  rw [← hμ] at e2
  refine bq fun bG=>?_
  obtain ⟨k,a,vs,hd,rfl,hk,ha,hh,hs⟩:=z5u ok1 e2 r1
  refine bG (⟨zbx ok1 e2 r1,a,vs,rfl,rfl,hh,fun v hv=>?_⟩)
  refine ⟨v,a,vs,rfl,z0k,by rw [z0h (fun z=>by rw [z,hv] at hh;cases hh)];exact hh,hc,fun l hl=>?_⟩
  have ok2:=z1v (o:=vvO v a) ok1 hv
  have s2:=z0m (o:=vvO v a) hv
  have r2:=hs.vals.step ok1 s2
  exact q _ ((W1.lay v (vvO v a)).lay l (.lst (vs.map (·.2)))) hμ (z1v ok2 hl) ((s1.trans s2).trans (z0m hl)) (z64 ok2 hl r2)
noncomputable def z21 (eo ek ed:EV):EV:=fun Γ μ=>(eo Γ μ).bind fun p=>(z8c p.2 p.1).bind fun _=>(ek Γ p.2).bind fun q=>(ed Γ q.2).bind fun r=>(ziy q.1).bind fun k=>(z8c r.2 p.1).bind fun kvs=>match p.1 with
  | .ref n=>if kvs.length<1000000 then (match zab kvs k with
    | some d=>some (d,r.2)
    | none=>some (r.1,r.2.set n (some (.dK (zc5 kvs k r.1))))) else none
  | _=>none
theorem z8x (ho:PE X o (tD K eo)) (ha:PE X a (tD K ea)) (hb:PE X b (tD K eb)) (hs:starEach [a,b] X.env=[(false,eval a X.env),(false,eval b X.env)]:=by rfl) (hs2:starEach [b] X.env=[(false,eval b X.env)]:=by rfl)
    (hbase:attributeBase o "setdefault" X.env (eval o X.env)=eval o X.env:=by rfl) (hline:(apos.endLine==pos.line)=true:=by rfl) (hK:X.K=K:=by rfl)
    (hfew:((backTo pos (starEach [a,b] X.env)).all (fun x=>!x.1)&&(backToKw pos (keywordEach [] X.env)).all (fun x=>x.1.isSome)
      && decide ([a,b].length+([]:List Keyword).length+(if ([]:List Keyword).isEmpty then 0 else 1)<30))=true:=by rfl) :
    PE X (.Call (.Attribute o "setdefault" apos) [a,b] [] pos) (tD K (z21 eo ea eb)):=z0l (zoo K ho ha hb hs hs2 hbase hline hK hfew) fun σ H Q h=>by
  refine el4 h fun W Γ d μ' eH ok en e q=>?_;subst eH
  refine z05 e fun p1 e1 e=>?_
  refine z05 e fun kv0 e0 e=>?_
  refine z05 e fun p2 e2 e=>?_
  refine z05 e fun p3 e3 e=>?_
  refine z05 e fun ky e4 e=>?_
  refine z05 e fun kvs e5 e=>?_
  refine ⟨W,Γ,p1.1,p1.2,rfl,ok,en,e1,fun x W1 hμ ok1 s1 r1=>⟨zbx ok1 (by rw [hμ];exact e0) r1,W1,Γ,p2.1,p2.2,rfl,ok1,en.step ok s1,by rw [hμ];exact e2,fun y W2 hμ2 ok2 s2 r2=>⟨W2,Γ,p3.1,p3.2,rfl,ok2,(en.step ok s1).step ok1 s2,by rw [hμ2];exact e3,fun z W3 hμ3 ok3 s3 r3=>?_⟩⟩⟩
  rw [← hμ3] at e5
  obtain ⟨n,a1,vs,hd,rfl,hk,ha1,hh,hs1⟩:=z5u ok3 e5 ((r1.step ok1 s2).step ok2 s3)
  have:=zco e4 (r2.step ok2 s3)
  subst this
  rw [hd] at e
  simp only at e
  split at e
  · rename_i hl
    refine ⟨a1,vs,ky,z,rfl,rfl,hh,z79 (by rw [← hs1.len];omega),fun v hv=>?_,fun hv=>?_⟩
    · split at e
      · rename_i d0 hd0
        cases e
        refine bq fun bG=>?_
        obtain ⟨v',h1,h2⟩:=hs1.at hd0
        rw [hv] at h1
        cases h1
        exact bG (q _ W3 hμ3 ok3 ((s1.trans s2).trans s3) h2)
      · rename_i hd0
        have:=hs1.val ky
        rw [hd0,hv] at this
        cases this
    · split at e
      · rename_i d0 hd0
        have:=hs1.val ky
        rw [hd0,hv] at this
        cases this
      · cases e
        obtain ⟨o4,s4⟩:=zlt (vs':=zdh vs ky z) (kvs':=zc5 kvs ky p3.1) ok3 hk ha1 (hs1.put ky r3)
        exact q _ (W3.put n a1 (.dK (zdh vs ky z)) (.dK (zc5 kvs ky p3.1))) (by show W3.μ.set _ _=_;rw [hμ3]) o4 (((s1.trans s2).trans s3).trans s4) (r3.step ok3 s4)
  · cases e
end
end L3
namespace L2
open PySem PySem.W PySem.Spec PyProof.Rows
structure FlewH (P:Program) (w:World) (outer:List Env) (L:Addr) (H H':Hp) (s:Shared) (e:Addr) (C:Value) (B:Heap) (s':Shared):Prop where
  os:s'.os=s.os
  bare:AllBare s'.gens
  un:Un (frs outer) [] H H' s.heap s'.heap
  hok:HOk P w H' s'.heap
  trk:∀ b o,s'.heap.get? b=some o→H' b≠none→B.get? b=some o
  old:∀ b o,s.heap.get? b=some o→H b=none→b∉frs outer→B.get? b=some o
  thr:∀ b o,s.heap.get? b=some o→b∉frs outer→∃ o',B.get? b=some o'
  frf:∀ b∈frs outer,H b=none
  unt:H' e=none
  new:s.heap.get? e=none
  fly:∃ a0,Heap.HeldW B outer e C a0 L s'.heap
section
variable {P:Program} {w:World} {outer:List Env} {L:Addr} {H H':Hp} {s s':Shared} {e:Addr} {C:Value} {B:Heap}
theorem Flew.noted {h2:Heap} (F:Flew P w outer H H' s e C B s') (hs:s'.heap.UpToSlots h2) (fl:∃ a0,Heap.HeldW B outer e C a0 L h2):FlewH P w outer L H H' s e C B { s' with heap:=h2 }:=by
  refine bq fun bG=>?_
  obtain ⟨a0,fl⟩:=fl
  obtain ⟨u,k,t⟩:=F.to fl.1 hs
  exact bG (⟨F.os,F.bare,u,k,t,F.old,F.thr,F.frf,F.unt,F.new,a0,fl⟩)
theorem FlewH.to {h2:Heap} (F:FlewH P w outer L H H' s e C B s') (hB:B.StaysIn h2) (hs:s'.heap.UpToSlots h2):Un (frs outer) [] H H' s.heap h2∧HOk P w H' h2∧∀ b o,h2.get? b=some o→H' b≠none→B.get? b=some o:=by
  obtain ⟨a0,fl⟩:=F.fly
  have kp:∀ b o,s.heap.get? b=some o→H b=none→b∉frs outer→h2.get? b=some o:=fun b o x n hb=>hB b o (F.old b o x n hb)
  have sl:∀ b o,s.heap.get? b=some o→H b=none→b∈frs outer→∃ sl,h2.get? b=some { o with slots:=sl }:=fun b o x n hb=>by
    refine bq fun bG=>?_
    obtain ⟨sl,e1⟩:=F.un.slot b o x n hb (by simp)
    obtain ⟨_,o',e2,d⟩:=fl.2.2.1.mem hb
    rw [e1] at e2
    cases e2
    obtain ⟨sl',e3⟩:=hs b { o with slots:=sl } e1 d
    exact bG (⟨sl',e3⟩)
  refine ⟨⟨fun b o x n hb _=>kp b o x n hb,fun b o x n hb _=>sl b o x n hb,F.un.free,fun b o x _=>?_,F.un.tups,F.un.frzs,F.un.tbls⟩,fun a u eu=>?_,fun b o x n=>?_⟩
  · by_cases hb:b∈frs outer
    · obtain ⟨l,e1⟩:=sl b o x (F.frf b hb) hb
      exact ⟨_,e1⟩
    · obtain ⟨o',e1⟩:=F.thr b o x hb
      exact ⟨o',hB b o' e1⟩
  · refine (F.hok a u eu).stay (fun b v hb q=>hB b v (F.trk b v q ?_)) (fun _ q=>q) fun _ _ q=>q
    rcases hb with z | z
    · rw [z,eu];simp
    · rw [z];simp
  · cases eu:H' b with
    | none=>exact absurd eu n
    | some u =>
      refine bq fun bG=>?_
      obtain ⟨o1,e1⟩:=(F.hok b u eu).there
      have e2:=F.trk b o1 e1 n
      have e3:=hB b o1 e2
      rw [x] at e3
      cases e3
      exact bG (e2)
theorem FlewH.next {h2:Heap} (F:FlewH P w outer L H H' s e C B s') (hs:s'.heap.UpToSlots h2) (fl:∃ a0,Heap.HeldW B outer e C a0 L h2):FlewH P w outer L H H' s e C B { s' with heap:=h2 }:=by
  refine bq fun bG=>?_
  obtain ⟨a0,fl⟩:=fl
  obtain ⟨u,k,t⟩:=F.to fl.1 hs
  exact bG (⟨F.os,F.bare,u,k,t,F.old,F.thr,F.frf,F.unt,F.new,a0,fl⟩)
theorem FlewH.lands {h2:Heap} (F:FlewH P w outer L H H' s e C B s') (hs:s'.heap.UpToSlots h2) (fl:∃ a0,Heap.FlyingW B outer e C a0 h2):Flew P w outer H H' s e C B { s' with heap:=h2 }:=by
  refine bq fun bG=>?_
  obtain ⟨a0,fl⟩:=fl
  obtain ⟨u,k,t⟩:=F.to fl.1 hs
  exact bG (⟨F.os,F.bare,u,k,t,F.old,F.thr,F.frf,F.unt,F.new,a0,fl⟩)
end
theorem z41 {M:Model} {A:Around} {E:Value→Shared→Prop} {s:Shared} {base:Heap} {l:List Env} {e L:Addr} {cls a0:Value} {Q:Unit→Shared→Prop} (R:Heap.HeldW base l e cls a0 L s.heap)
    (h:∀ h',Heap.HeldW base l e cls a0 L h'→s.heap.UpToSlots h'→Q () { s with heap:=h' }):wpAny M A (setFlight (.ref e) (some L)) Q E s:=by
  obtain ⟨hkb,hen,hl,oe,vs,T,oT,ts,he,hcls,hd,h1,hnT,hTe,hT,hdT,h3⟩:=R
  have hsz3:3<ts.size:=(Array.getElem?_eq_some_iff.mp h3).1
  have other:∀ b,b≠T→(s.heap.update T (Obj.mapFields (·.setIfInBounds 3 ((some L).elim Value.none fun f=>rawInt f)))).get? b=s.heap.get? b :=
    fun b hb=>Heap.get?_update_other _ _ (Ne.symm hb)
  have noRecord:∀ b o,s.heap.get? b=some o→(∀ vs,o.data≠.fields vs)→b≠T:=fun b o hb hnf q=>by
    rw [q,hT] at hb;injection hb with hb;subst hb;exact hnf ts hdT
  unfold setFlight
  refine wpAny_bind (wpAny_field he hd h1 ?_)
  rw [if_pos (show (Value.ref T != Value.none)=true from by simp)]
  refine wpAny_setField hT hdT hsz3 (h _ ⟨fun b o hbo=>(other b fun q=>by rw [q,hnT] at hbo;cases hbo).trans (hkb b o hbo),hen,
    hl.of_keeps fun b o hb hnf=>⟨o,(other b (noRecord b o hb hnf)).trans hb,rfl⟩,?_⟩ fun b o hb hnf=>⟨o.slots,(other b (noRecord b o hb hnf)).trans hb⟩)
  exact ⟨oe,vs,T,_,_,(other e (Ne.symm hTe)).trans he,hcls,hd,h1,hnT,hTe,Heap.get?_update_self _ hT (Obj.isFreed_of_fields (Obj.data_mapFields hdT _)),Obj.data_mapFields hdT _,by simp [hsz3]⟩
theorem zcf {M:Model} {A:Around} {E:Value→Shared→Prop} {s:Shared} {base h:Heap} {env:Env} {outer:List Env} {L e:Addr} {cls:Value} {args:List Value} {Q:Unit→Shared→Prop}
    (hfr:A.frames=some (env::outer)) (hf:env.frame=some L) (hkb:base.StaysIn h) (hl:h.FunFrames base (env::outer)) (hx:Heap.MadeExcOf h s.heap e cls args)
    (hQ:∀ h' a0,Heap.HeldW base (env::outer) e cls a0 L h'→s.heap.UpToSlots h'→Q () { s with heap:=h' }):wpAny M A (noteFrame (.ref e) env) Q E s:=by
  obtain ⟨t,he,htn,ht⟩:=hx.there
  have fresh:∀ b,h.get? b=none→base.get? b=none:=fun b hb=>by
    cases hq:base.get? b with
    | none=>rfl
    | some o'=>have:=hkb b o' hq;rw [hb] at this;cases this
  unfold noteFrame
  simp only [hf]
  refine wpAny_bind (wpAny_field he rfl (show (#[Value.ref t,.none,.none,.none,.bool false,.none]:Array Value)[1]?=some Value.none from rfl) ?_)
  rw [if_neg (show ¬ ((Value.none != Value.none)=true) from by decide)]
  refine wpAny_entryW (a0:=.ref t) hfr (hl.of_keeps fun b o hb _=>⟨o,hx.keeps b o hb,rfl⟩) hf he (fun b o hb=>hx.keeps b o (hkb b o hb)) (fresh e hx.new) rfl (by simp) rfl fun h' hN=>?_
  refine bq fun bG=>?_
  obtain ⟨k1,k2,k3,k4⟩:=hN
  exact bG (hQ h' _ ⟨k1,fresh e hx.new,k2,k3⟩ k4)
def Lv (X:Cx):Prop:=X.stack=X.env::X.outer∧X.env.frame=some X.env.locals
def FlX (X:Cx) (E:St→XK) (e:Value) (s':Shared):Prop:=∃ (a:Addr) (C:Value) (pins:List (Addr×Obj)) (σ:St) (H H':Hp) (s:Shared),e=.ref a∧Inv X pins σ H s∧E σ C none H' ∧
  ((H'=H∧∃ (D:Addr) (vs:List Value) (h':Heap),C=.ref D∧s'={ s with heap:=h' }∧Heap.MadeExcOf s.heap h' a C vs)∨(∃ B,Flew X.prog X.w X.stack H H' s a C B s')∨(∃ B,FlewH X.prog X.w X.stack X.env.locals H H' s a C B s'))
section
variable {X:Cx} {E:St→XK} {pins:List (Addr×Obj)} {σ:St} {H H':Hp} {s s':Shared} {a:Addr} {C:Value} {B:Heap}
theorem zex {M:Model} {A:Around} {E':Value→Shared→Prop} {D:Addr} {vs:List Value} {h':Heap} {Q:Unit→Shared→Prop} (lv:Lv X) (hA:A.frames=X.A.frames) (I:Inv X pins σ H s) (hx:Heap.MadeExcOf s.heap h' a (.ref D) vs)
    (hQ:∀ B h2,FlewH X.prog X.w X.stack X.env.locals H H s a (.ref D) B { s with heap:=h2 }→Q () { s with heap:=h2 }):wpAny M A (noteFrame (.ref a) X.env) Q E' { s with heap:=h' }:=by
  obtain ⟨lv1,lv2⟩:=lv
  have fs:∀ b,b∈frs X.stack→H b=none:=I.stkFree
  have inn:∀ b o,s.heap.get? b=some o→b∉frs X.stack→(hideAll s.heap (frs X.stack)).get? b=some o:=fun b o e hb=>hideAll_get _ e hb
  have hin:∀ env∈X.stack,∀ a,env.frame=some a→a∈frs X.stack:=fun env he a ha=>List.mem_filterMap.mpr ⟨env,he,ha⟩
  have nfr:∀ b,H b≠none→b∉frs X.stack:=fun b n z=>n (fs b z)
  refine zcf (base:=hideAll s.heap (frs X.stack)) (env:=X.env) (outer:=X.outer) (by rw [hA,I.ok.frames,lv1]) lv2 (fun b o q=>of_hideAll _ q) (by rw [← lv1];exact funFrames_hide I.stack hin) hx fun h2 a0 fl ups=>hQ (hideAll s.heap (frs X.stack)) h2 ?_
  have hB:=fl.1
  have hkeep:∀ b o,s.heap.get? b=some o→b∉frs X.stack→h2.get? b=some o:=fun b o e hb=>hB b o (inn b o e hb)
  have hslot:∀ b o,s.heap.get? b=some o→b∈frs X.stack→∃ sl,h2.get? b=some { o with slots:=sl }:=fun b o e hb=>by
    refine bq fun bG=>?_
    obtain ⟨_,o',e2,d⟩:=I.stack.mem hb
    rw [e] at e2
    cases e2
    obtain ⟨sl',e3⟩:=ups b o (hx.keeps b o e) d
    exact bG (⟨sl',e3⟩)
  refine ⟨rfl,I.bare,⟨fun b o x n hb _=>hkeep b o x hb,fun b o x n hb _=>hslot b o x hb,fun b o x n _=>n,fun b o x _=>?_,fun _ _ z=>z,fun _ _ _ z=>z,fun _ ps z=>⟨#[],by simpa using z⟩⟩,fun b u eu=>?_,fun b o x n=>?_,fun b o x n hb=>inn b o x hb,fun b o x hb=>⟨o,inn b o x hb⟩,fs,?_,hx.new,a0,?_⟩
  · by_cases hb:b∈frs X.stack
    · obtain ⟨l,e1⟩:=hslot b o x hb;exact ⟨_,e1⟩
    · exact ⟨o,hkeep b o x hb⟩
  · refine (I.hok b u eu).stay (fun c v hb q=>hkeep c v q (nfr c ?_)) (fun _ q=>q) fun _ _ q=>q
    rcases hb with z | z
    · rw [z,eu];simp
    · rw [z];simp
  · cases eu:H b with
    | none=>exact absurd eu n
    | some u =>
      refine bq fun bG=>?_
      obtain ⟨o1,e1⟩:=(I.hok b u eu).there
      have e2:=inn b o1 e1 (nfr b n)
      have e3:=hB b o1 e2
      rw [x] at e3
      cases e3
      exact bG (e2)
  · cases eu:H a with
    | none=>rfl
    | some u =>
      obtain ⟨o1,e1⟩:=(I.hok a u eu).there
      rw [hx.new] at e1
      cases e1
  · rw [← lv1] at fl;exact fl
theorem zax {M:Model} {A:Around} {E':Value→Shared→Prop} {e:Value} {Q:Unit→Shared→Prop} (lv:Lv X) (hA:A.frames=X.A.frames) (h:FlX X E e s')
    (hQ:∀ a C pins σ H H' s B s2,e=.ref a→Inv X pins σ H s→E σ C none H'→FlewH X.prog X.w X.stack X.env.locals H H' s a C B s2→Q () s2):wpAny M A (noteFrame e X.env) Q E' s':=by
  obtain ⟨a,C,pins,σ,H,H',s,rfl,I,hE,h⟩:=h
  rcases h with ⟨rfl,D,vs,h',rfl,rfl,hx⟩ | ⟨B,F⟩ | ⟨B,F⟩
  · exact zex lv hA I hx fun B h2 F=>hQ _ _ _ _ _ _ _ _ _ rfl I hE F
  · obtain ⟨a0,fl⟩:=F.fly
    have fl':Heap.FlyingW B (X.env::X.outer) a C a0 s'.heap:=by rw [← lv.1];exact fl
    refine wpAny_looks_onW (by rw [hA,I.ok.frames,lv.1]) lv.2 fl' fun h2 hh hs=>hQ _ _ _ _ _ _ _ _ _ rfl I hE (F.noted hs ⟨a0,by rw [lv.1];exact hh⟩)
  · obtain ⟨a0,fl⟩:=F.fly
    exact wpAny_noteFrame_againW lv.2 fl.2.2.2 (hQ _ _ _ _ _ _ _ _ _ rfl I hE F)
theorem zod (lv:Lv X):PassesOwn (model X.prog X.w) X.A X.env (FlX X E):=fun e s' h=>by
  refine zax lv rfl h fun a C pins σ H H' s B s2 he I hE F=>?_
  subst he
  obtain ⟨a0,fl⟩:=F.fly
  obtain ⟨oe,vs,T,oT,ts,g1,_,g2,g3,_⟩:=id fl.2.2.2
  show wpAny _ _ (do
    if (← field (.ref a) 1)==.none then unsupported "frame.own-activation:exception-without-traceback"
    setFlight (.ref a) X.env.frame) _ _ _
  refine wpAny_bind (wpAny_field g1 g2 g3 ?_)
  rw [if_neg (show ¬ ((Value.ref T==Value.none)=true) from by simp),lv.2]
  first
    | exact wpAny_bind (wpAny_pure (z41 fl fun h2 hh hs=>⟨a,C,pins,σ,H,H',s,rfl,I,hE,.inr (.inr ⟨B,F.next hs ⟨a0,hh⟩⟩)⟩))
    | exact z41 fl fun h2 hh hs=>⟨a,C,pins,σ,H,H',s,rfl,I,hE,.inr (.inr ⟨B,F.next hs ⟨a0,hh⟩⟩)⟩
end
section
variable {P:Program} {w:World} {K:PySem.W.Frag} {mg:Str→Option Value} {base:Heap} {N:List Str} {qual:Str} {scope:Scope} {f:Addr} {cd:Value} {A:Around} {outer:List Env} {s:Shared} {H:Hp} {E:XK}
theorem zhy {e:Value} {s':Shared} (h:FlX (z3w (CXr P w) P w K mg base N qual scope f cd A outer s H E) (fun _=>E) e s'):(z3w (CXr P w) P w K mg base N qual scope f cd A outer s H E).xe e s':=by
  obtain ⟨a,C,pins,σ,H1,H',s1,rfl,I,hE,h⟩:=h
  rcases h with ⟨rfl,D,vs,h',rfl,rfl,hx⟩ | ⟨B,F⟩ | ⟨B,F⟩
  · exact zq7 I hx hE
  · exact znw (E':=E) (fun _ _ _ z=>z) pins σ H1 s1 _ s' I ⟨a,C,H',B,rfl,F,hE⟩
  · obtain ⟨a0,fl⟩:=F.fly
    show wpAny (model P w) (A.deeper (envOfC qual scope s.heap.objs.size f cd)) (leaving (envOfC qual scope s.heap.objs.size f cd) (.ref a)) _ _ _
    unfold leaving
    refine wpAny_bind (wpAny_noteFrame_againW rfl fl.2.2.2 (wpAny_landsW fl fun h2 fl2 ups=>?_))
    have F2:=F.lands ups ⟨a0,fl2⟩
    have I2:=Flew.inv (X:=z3w (CXr P w) P w K mg base N qual scope f cd A outer s H E) F2 I
    have out:∀ b o,s.heap.get? b=some o→b∉frs outer→b∉frs (envOfC qual scope s.heap.objs.size f cd::outer):=fun b o e hb z=>by
      have z:b∈s.heap.objs.size::frs outer:=z
      rcases List.mem_cons.mp z with q | q
      · rw [q] at e;exact Nat.lt_irrefl _ (Heap.lt_size e)
      · exact hb q
    obtain ⟨f1,f2,⟨_,_,f3⟩,f4⟩:=id fl2
    refine ⟨a,C,H',B,rfl,⟨I2.os,F2.bare,⟨fun b o x n hb _=>I2.base.keep b o x n hb (by simp [z3w]),fun b o x n hb _=>I2.base.slot b o x n hb (by simp [z3w]),fun b o x n _=>I2.base.free b o x n (by simp [z3w]),fun b o x _=>I2.base.there b o x (by simp [z3w]),I2.base.tups,I2.base.frzs,I2.base.tbls⟩,F2.hok,F2.trk,
      fun b o x n hb=>F2.old b o (I.base.keep b o x n hb (by simp [z3w])) (I.base.free b o x n (by simp [z3w])) (out b o x hb),fun b o x hb=>?_,I.ok.frf,F2.unt,?_,a0,f1,f2,f3,f4⟩,hE⟩
    · obtain ⟨o1,e1⟩:=I.base.there b o x (by simp [z3w])
      exact F2.thr b o1 e1 (out b o x hb)
    · cases eo:s.heap.get? a with
      | none=>rfl
      | some o =>
        obtain ⟨o1,e1⟩:=I.base.there a o eo (by simp [z3w])
        rw [F2.new] at e1
        cases e1
end
noncomputable abbrev Cx.fl (X:Cx) (E:St→XK):Cx:=X.wish (FlX X E)
noncomputable abbrev zpn:List Value:=[.type "ValueError",.type "Exception",.type "BaseException",.type "object"]
def z3d (K:Frag) (C:Addr):Prop:=∃ bm N nm q bs hdct sn sub ab col dd k0 k1 k2 k3 k5,
    K.lookup C=some (excClassObj nm q C N bs bm hdct sn sub ab col dd k0 k1 k2 k3 k5 "ValueError.__new__")∧tailIn K zpn bm=true∧nsOkIn K N=true∧nsIn K N "__init__" = some none
theorem zct {K:Frag} {h:Heap} {C:Addr} {G:Prop} (X:K.In h) (q:z3d K C)
    (k:∀ bm N nm q bs hdct sn sub ab col dd k0 k1 k2 k3 k5 mN,h.get? C=some (excClassObj nm q C N bs bm hdct sn sub ab col dd k0 k1 k2 k3 k5 "ValueError.__new__")→h.Ns N mN→mN "__init__" = none→OwnTail h zpn bm→G):G:=by
  refine bq fun bG=>?_
  obtain ⟨bm,N,nm,q,bs,hdct,sn,sub,ab,col,dd,k0,k1,k2,k3,k5,ho,ht,hok,hni⟩:=q
  exact bG (k bm N nm q bs hdct sn sub ab col dd k0 k1 k2 k3 k5 _ (X _ _ ho) (.of_isNs (isNs_of_in X hok)) (nsMap_none_of_in X hok hni) (tail_of_in X ht))
theorem zp5 {h h':Heap} {N:Addr} {m:Str→Option Value} (hN:h.Ns N m) (b:∀ b o,h.get? b=some o→h'.get? b=some o):h'.Ns N m:=by
  refine bq fun bG=>?_
  obtain ⟨o,es,ep,ho,hd,hs,hf⟩:=hN
  exact bG (⟨o,es,ep,b _ _ ho,hd,hs,hf⟩)
section
variable {X:Cx} {E:St→XK} {e:Expr} {te:TE} {np cpos pos:Pos} {x:Str} {C:Addr}
theorem zdl (he:PE (X.fl E) e te) (hg:Gl (X.fl E) x) (hm:X.mg x=some (.ref C)) (hC:z3d X.K C) (hc:X.calm=true) (hd:(x==("__debug__" : Str))=false:=by decide)
    (hs:starEach [e] X.env=[(false,eval e X.env)]:=by rfl):PS (X.fl E) (.Raise (some (.Call (.Name x np) [e] [] cpos)) none pos) (fun _ σ H=>te σ H fun _ H1=>E σ (.ref C) none H1):=by
  intro pins s σ H D I h
  have kb:X.K.In X.base:=I.ok.mod.kin
  refine zct kb hC fun tl N nm q bs hdct sn sub ab col dd k0 k1 k2 k3 k5 mN hCo hN hni T=>?_
  have hpl:(backTo cpos (starEach [e] X.env)).any (·.1)=false:=by rw [hs];rfl
  refine wpAny_Raise_call_subT (C:=C) (nm:=nm) (q:=q) (N:=N) (bs:=bs) (bm:=tl) (hdct:=hdct) (sn:=sn) (sub:=sub) (ab:=ab) (col:=col) (dd:=dd) (k0:=k0) (k1:=k1) (k2:=k2) (k3:=k3) (k5:=k5)
    PySem.F.excBase_ValueError (mN:=mN) (T.hasType PySem.F.excBase_ValueError.hasBase) (I.ok.hd hc) hpl hni (z7c I hg hm ⟨rfl,?_⟩ hd)
  show wpAny _ _ (evalArgs (.ref C) true (backTo cpos (starEach [e] X.env)) []) _ _ _
  have hpa:PA (X.fl E) [e] (z5m te zfw):=z0n he z16 (by show starEach [e] X.env=(false,eval e X.env)::starEach [] X.env;rw [hs];rfl)
  have hq:wpAny (model X.prog X.w) X.A (spliced (backTo cpos (starEach [e] X.env))) (AP (X.fl E) pins σ (fun vs H1=>vs.length=1∧E σ (.ref C) none H1)) (FlX X E) s:=hpa cpos pins s σ H (fun vs H1=>vs.length=1∧E σ (.ref C) none H1) I (by
    unfold z5m zfw
    have z:te σ H (fun v H1=>E σ (.ref C) none H1):=h
    simpa using z)
  rw [hs] at hq ⊢
  refine Calls.evalArgs_plain (thn hq fun us s2 hm=>?_)
  obtain ⟨vs,H2,I2,r,hl,hE⟩:=hm
  have base:∀ b o,X.base.get? b=some o→s2.heap.get? b=some o:=I2.bk
  exact ⟨rfl,by rw [← r.length,hl];decide,base _ _ hCo,zp5 hN base,T.keeps base,fun h' a hx=>⟨a,.ref C,pins,σ,H2,H2,s2,rfl,I2.unwish,hE,.inl ⟨rfl,C,us,h',rfl,rfl,hx⟩⟩⟩
end
noncomputable def DfX (P:Program) (w:World) (K:PySem.W.Frag) (mg:Str→Option Value) (base:Heap) (k:Nat) (x:Str) (ps:List Str) (sp:Sp):Prop :=
  ∃ f fd,FnOk P w K mg base (CXr P w) k f fd ps sp∧Binds K fd ps []∧PySem.W.keepIn K (.ref f)=true∧mg x=some (.ref f)
section
variable {X:Cx} {E:St→XK} {k:Nat} {x m:Str} {ps:List Str} {sp:Sp} {e o:Expr} {es:List Expr} {t:TA} {ta:TE} {p pos apos:Pos} {f C:Addr} {fd:FuncData}
theorem zn7 {pins:List (Addr×Obj)} {σ:St} {H:Hp} {s:Shared} {Q:VK} {us:List Value} {vs:List V} (F:FnOk X.prog X.w X.K X.mg X.base (CXr X.prog X.w) k f fd ps sp) (hr:Room k X.A) (hb:Binds X.K fd ps [])
    (I:Inv (X.fl E) pins σ H s) (r:Vals vs us) (h:sp vs H Q (E σ)):wpAny (model X.prog X.w) X.A (call (.ref f) us) (EP (X.fl E) pins σ Q) (FlX X E) s:=by
  have hl:us.length=ps.length:=by rw [← r.length];exact F.len _ _ _ _ h
  have hb':=hb s us I.kIn (by simpa using hl)
  simp only [List.append_nil] at hb'
  refine wpAny_call (codeAny_mono (F.run X.A X.stack s H ⟨us,[]⟩ us vs Q (E σ) hr I.env0 hb' r h) fun r s' hq=>?_)
  cases r with
  | error e =>
    obtain ⟨a,C,H',B,rfl,F,hE⟩:=hq
    exact ⟨a,C,pins,σ,H,H',s,rfl,I.unwish,hE,.inr (.inl ⟨B,F⟩)⟩
  | ok fl =>
    cases fl with
    | ret u=>exact I.after hq
    | next=>exact False.elim hq
    | brk=>exact False.elim hq
    | cont=>exact False.elim hq
theorem zr2 (D:DfX X.prog X.w X.K X.mg X.base k x ps sp) (hr:Room k X.A) (ha:PA (X.fl E) (e::es) t) (hg:Gl X x:=by rfl) (hdb:(x==("__debug__" : Str))=false:=by decide)
    (he:starEach (e::es) X.env=(false,eval e X.env)::starEach es X.env:=by rfl) (hpl:(backTo pos (starEach es X.env)).any (·.1)=false:=by rfl) :
    PE (X.fl E) (.Call (.Name x p) (e::es) [] pos) (fun σ H Q=>t σ H fun vs H1=>sp vs H1 Q (E σ)):=by
  obtain ⟨f,fd,F,hb,hk,hm⟩:=D
  intro pins s σ H Q I h
  refine wpAny_Call_Name_kw (z7c I hg hm ?_ hdb)
  refine PySem.W.callWith_K (h₀:=X.base) I.ok.mod.kin hk (thn (ha pos pins s σ H _ I h) fun us s1 ⟨vs,H1,I1,r,q⟩=>⟨I1.kIn,?_⟩) he hpl
  exact zn7 F hr hb I1 r q
end
theorem Fun.okX {P:Program} {w:World} {K:PySem.W.Frag} {mg:Str→Option Value} {base:Heap} {x qual:Str} {st:Stmt} {f:Addr} {fd:FuncData} {N ps:List Str} {k:Nat} {sp:Sp} (F:Fun K x qual st f fd) (S:FnScope N ps (z07 st)) (len:∀ vs H Q E,sp vs H Q E→vs.length=ps.length)
    (hbody:∀ (cdv:Value) (A:Around) (outer:List Env) (s:Shared) (H:Hp) (vs:List V) (Q:VK) (E:XK),Room k (A.deeper (envOfC qual (z07 st) s.heap.objs.size f cdv))→sp vs H Q E →
      ∃ t,PSs ((z3w (CXr P w) P w K mg base N qual (z07 st) f cdv A outer s H E).fl fun _=>E) (z0p st) t∧t { nx:=fun _ H'=>Q .non H',rt:=Q } (z90 N vs) H):FnOk P w K mg base (CXr P w) (k+1) f fd ps sp:=by
  refine bq fun bG=>?_
  obtain ⟨oc,od,kV,doc,pm,an,cdv,ct,osl,rfl,lk,hcd⟩:=F.ex
  refine bG (zs3 lk hcd S len fun A outer s H vs Q E hr hsp=>?_)
  refine bq fun bG=>?_
  obtain ⟨t,h,q⟩:=hbody cdv A outer s H vs Q E hr hsp
  refine bG (⟨t,fun pins s σ H D I hw=>?_,q⟩)
  exact wpAny_mono (h pins s σ H D (I.wish _) hw) (fun _ _ z=>z.unwish) fun e s' z=>zhy z
noncomputable abbrev Cx.mkd (X:Cx) (e:Addr):Cx:={ X with A:=X.A.mark (some (.ref e)),calm:=false,xe:=fun _ _=>False }
theorem Inv.mkd {X:Cx} {pins:List (Addr×Obj)} {σ:St} {H:Hp} {s:Shared} (I:Inv X pins σ H s) (e:Addr):Inv (X.mkd e) pins σ H s :=
  ⟨⟨I.ok.mod,I.ok.kind,I.ok.glob,I.ok.blt,I.ok.above,I.ok.inj,I.ok.has,I.ok.cab,(fun z=>nomatch z),I.ok.frames,I.ok.stk,I.ok.exf,I.ok.bs,I.ok.bsz,I.ok.noex,I.ok.exfs,I.ok.funs,I.ok.frf⟩,I.os,I.bare,I.base,I.loc,I.cell,I.free,I.freeC,I.pin,I.hok,I.len⟩
theorem Inv.unmkd {X:Cx} {pins:List (Addr×Obj)} {σ:St} {H:Hp} {s:Shared} {e:Addr} (ok:X.Ok) (I:Inv (X.mkd e) pins σ H s):Inv X pins σ H s :=
  ⟨ok,I.os,I.bare,I.base,I.loc,I.cell,I.free,I.freeC,I.pin,I.hok,I.len⟩
theorem Inv.pn {X:Cx} {pins qs:List (Addr×Obj)} {σ:St} {H:Hp} {s:Shared} (I:Inv X (pins++qs) σ H s):Inv { X with pn:=X.pn++pins } qs σ H s :=
  ⟨⟨I.ok.mod,I.ok.kind,I.ok.glob,I.ok.blt,I.ok.above,I.ok.inj,I.ok.has,I.ok.cab,I.ok.hd,I.ok.frames,I.ok.stk,I.ok.exf,I.ok.bs,I.ok.bsz,I.ok.noex,I.ok.exfs,I.ok.funs,I.ok.frf⟩,I.os,I.bare,I.base,I.loc,I.cell,I.free,I.freeC,fun p hp=>I.pin p (by
    show p∈X.pn++(pins++qs)
    have hp:p∈(X.pn++pins)++qs:=hp
    rwa [List.append_assoc] at hp),I.hok,I.len⟩
theorem Inv.unpn {X:Cx} {pins qs:List (Addr×Obj)} {σ:St} {H:Hp} {s:Shared} (I:Inv { X with pn:=X.pn++pins } qs σ H s):Inv X (pins++qs) σ H s :=
  ⟨⟨I.ok.mod,I.ok.kind,I.ok.glob,I.ok.blt,I.ok.above,I.ok.inj,I.ok.has,I.ok.cab,I.ok.hd,I.ok.frames,I.ok.stk,I.ok.exf,I.ok.bs,I.ok.bsz,I.ok.noex,I.ok.exfs,I.ok.funs,I.ok.frf⟩,I.os,I.bare,I.base,I.loc,I.cell,I.free,I.freeC,fun p hp=>I.pin p (by
    show p∈(X.pn++pins)++qs
    have hp:p∈X.pn++(pins++qs):=hp
    rwa [← List.append_assoc] at hp),I.hok,I.len⟩
theorem Inv.fewer {X:Cx} {pins qs:List (Addr×Obj)} {σ:St} {H:Hp} {s:Shared} (I:Inv X (pins++qs) σ H s):Inv X pins σ H s :=
  ⟨I.ok,I.os,I.bare,I.base,I.loc,I.cell,I.free,I.freeC,fun p hp=>I.pin p (by
    show p∈X.pn++(pins++qs)
    have hp:p∈X.pn++pins:=hp
    simp only [List.mem_append] at hp ⊢
    rcases hp with h | h
    · exact .inl h
    · exact .inr (.inl h)),I.hok,I.len⟩
section
variable {P:Program} {w:World} {outer:List Env} {H H':Hp} {s s':Shared} {e D:Addr} {B:Heap}
theorem Flew.track (F:Flew P w outer H H' s e (.ref D) B s'):Un (frs outer) [] H (upd H' e (zcu e D)) s.heap s'.heap∧HOk P w (upd H' e (zcu e D)) s'.heap:=by
  refine bq fun bG=>?_
  obtain ⟨a0,fl⟩:=F.fly
  obtain ⟨ob,h1,h2⟩:=fl.there
  have ne:∀ b o,H' b=some o→b≠e:=fun b o q z=>by rw [z,F.unt] at q;cases q
  refine bG (⟨⟨F.un.keep,F.un.slot,fun b o x n hx=>?_,F.un.there,fun b xs q=>?_,fun b o u q=>?_,fun b ps q=>?_⟩,fun b o q=>?_⟩)
  · have:b≠e:=fun z=>by rw [z,F.new] at x;cases x
    rw [z0h this]
    exact F.un.free b o x n hx
  · have z:=F.un.tups b xs q
    rw [z0h (ne _ _ z)];exact z
  · have z:=F.un.frzs b o u q
    rw [z0h (ne _ _ z)];exact z
  · obtain ⟨m,z⟩:=F.un.tbls b ps q
    exact ⟨m,by rw [z0h (ne _ _ z)];exact z⟩
  · by_cases hb:b=e
    · subst hb
      rw [z0k] at q
      cases q
      refine ⟨⟨ob,h1,h2⟩,⟨ob,h1⟩,?_⟩
      rintro g1 g2 ⟨o,z1,z2⟩ k
      exact ⟨o,k o z1,z2⟩
    · rw [z0h hb] at q
      refine (F.hok b o q).stay (fun _ _ _ z=>z) (fun c z=>?_) fun c xs z=>?_
      · rw [z0h (ne _ _ z)];exact z
      · rw [z0h (ne _ _ z)];exact z
end
theorem zar {M:Model} {A:Around} {E:Value→Shared→Prop} {X:Cx} {pins:List (Addr×Obj)} {σ:St} {H:Hp} {s:Shared} {i:Nat} {n:Str} {pos:Pos} {Q:Unit→Shared→Prop} (I:Inv X pins σ H s) (hN:X.N.Nodup) (hi:X.N[i]?=some n) (hx:X.env.scope.names.lookup n=some .local)
    (h:∀ s',Inv X pins (σ.set i none) H s'→Q () s'):wpAny M A (do bindName X.env n .none;unbindBehindTheSuite X.env n pos) Q E s:=by
  refine bq fun bG=>?_
  obtain ⟨m,hn,hl⟩:=id I.loc
  have hcls:(X.env.scope.kind==.class||(X.env.scope.kind==.module&&X.env.locals != X.env.globals))=false:=by rw [I.ok.kind];rfl
  have cne:=I.cne
  refine bG (wpAny_nameGoes_keeps hx hn hcls fun h' v hn' hs=>?_)
  obtain ⟨oL,_,_,hoL,_⟩:=id hn
  have tracked:HOk X.prog X.w H h':=fun b ob e=>by
    refine (I.hok b ob e).stay (fun c w' hc q=>(hs.2 c ?_).trans q) (fun _ q=>q) fun _ _ q=>q
    rintro rfl
    rcases hc with rfl | hc
    · rw [I.free] at e;cases e
    · rw [I.free] at hc;cases hc
  refine h _ ⟨I.ok,I.os,I.bare,⟨fun b o e n hb hx=>?_,fun b o e n hb hx=>?_,I.base.free,fun b o e hx=>?_,I.base.tups,I.base.frzs,I.base.tbls⟩,⟨_,hn',fun j y v' e1 e2 e3=>?_⟩,fun y c e=>?_,I.free,I.freeC,fun p hp=>?_,tracked,by simpa using I.len⟩
  · exact (hs.2 b (Nat.ne_of_lt (Nat.lt_of_lt_of_le (Heap.lt_size e) I.ok.above))).trans (I.base.keep b o e n hb hx)
  · obtain ⟨sl,e1⟩:=I.base.slot b o e n hb hx
    exact ⟨sl,(hs.2 b (Nat.ne_of_lt (Nat.lt_of_lt_of_le (Heap.lt_size e) I.ok.above))).trans e1⟩
  · obtain ⟨o',e1⟩:=I.base.there b o e hx
    exact ⟨o',(hs.2 b (Nat.ne_of_lt (Nat.lt_of_lt_of_le (Heap.lt_size e) I.ok.above))).trans e1⟩
  · by_cases hj:j=i
    · subst hj
      have:j<σ.length:=by
        have:=(List.getElem?_eq_some_iff.mp e2).1
        simpa using this
      rw [List.getElem?_set_self this] at e2
      cases e2
    · rw [List.getElem?_set_ne (Ne.symm hj)] at e2
      refine bq fun bG=>?_
      obtain ⟨u,ru,lk⟩:=hl j y v' e1 e2 e3
      refine bG (⟨u,ru,?_⟩)
      have hyn:y≠n:=fun z=>hj ((List.getElem?_inj (List.getElem?_eq_some_iff.mp e1).1 hN).mp (by rw [e1,hi,z]))
      rcases lk with ⟨k1,k2⟩ | ⟨k1,c,k2,k3⟩
      · exact .inl ⟨k1,by show (if y=n then v else m y)=some u;rw [if_neg hyn];exact k2⟩
      · refine .inr ⟨k1,c,k2,?_⟩
        refine bq fun bG=>?_
        obtain ⟨oc,ho,hd⟩:=k3
        exact bG (⟨oc,(hs.2 c (cne _ _ k2)).trans ho,hd⟩)
  · obtain ⟨w',oc,ho,hd⟩:=I.cell y c e
    exact ⟨w',oc,(hs.2 c (cne _ _ e)).trans ho,hd⟩
  · obtain ⟨p1,p2,p3,p4,p5⟩:=I.pin p hp
    exact ⟨(hs.2 _ p3).trans p1,p2,p3,p4,p5⟩
noncomputable def Ends.gone (D:Ends) (i:Nat):Ends:={ nx:=fun σ H=>D.nx (σ.set i none) H,rt:=D.rt,bk:=fun σ H=>D.bk (σ.set i none) H,ct:=fun σ H=>D.ct (σ.set i none) H }
section
variable {X:Cx} {body suite:List Stmt} {b₀:Stmt} {p hp pos:Pos} {n y:Str} {i:Nat} {C0:Addr} {tb:(St→XK)→TS} {ts:TS}
theorem zqq (lv:Lv X) (hN:X.N.Nodup) (hi:X.N[i]?=some n) (hl:X.env.scope.names.lookup n=some .local) (hg:Gl X y) (hm:X.mg y=some (.ref C0))
    (hb:∀ pn E,PSs (Cx.fl { X with pn:=pn } E) body (tb E)) (hs:∀ e,PSs (X.mkd e) (b₀::suite) ts) (hd:(y==("__debug__" : Str))=false:=by decide) :
    PS X (.Try body [.ExceptHandler (some (.Name y p)) (some n) (b₀::suite) hp] [] [] pos)
      (fun D σ H=>tb (fun σ' C _ H'=>∃ E1,C=.ref E1∧exmOne X.K (.ref E1) (.ref C0)=some true∧∀ a,H' a=none→ts (D.gone i) (σ'.set i (some (.ref a))) (upd H' a (zcu a E1))) D σ H):=by
  intro pins s σ H D I h
  have I0:Inv { X with pn:=X.pn++pins } [] σ H s:=Inv.pn (qs:=[]) (by simpa using I)
  have lv':Lv { X with pn:=X.pn++pins }:=lv
  have key:∃ E0:St→XK,tb E0 D σ H∧∀ σ' C d H',E0 σ' C d H'→∃ E1,C=.ref E1∧exmOne X.K (.ref E1) (.ref C0)=some true∧∀ a,H' a=none→ts (D.gone i) (σ'.set i (some (.ref a))) (upd H' a (zcu a E1)):=⟨_,h,fun _ _ _ _ z=>z⟩
  refine bq fun bG=>?_
  obtain ⟨E0,h,hE0⟩:=key
  refine bG (wpAny_Try_except (wpAny_mono (hb _ _ [] s σ H D (I0.wish _) h) (fun f s1 q=>?_) fun e s1 q=>?_))
  · have zp0:∀ {σ':St} {H':Hp},Inv (Cx.fl { X with pn:=X.pn++pins } E0) [] σ' H' s1→Inv X pins σ' H' s1:=fun J=>Inv.fewer (qs:=[]) (Inv.unpn J.unwish)
    cases f with
    | next =>
      obtain ⟨σ',H',J,z⟩:=q
      exact wpAny_execs_nil ⟨σ',H',zp0 J,z⟩
    | brk=>obtain ⟨σ',H',J,z⟩:=q;exact ⟨σ',H',zp0 J,z⟩
    | cont=>obtain ⟨σ',H',J,z⟩:=q;exact ⟨σ',H',zp0 J,z⟩
    | ret u=>obtain ⟨v,σ',H',J,r,z⟩:=q;exact ⟨v,σ',H',zp0 J,r,z⟩
  · refine zax (X:={ X with pn:=X.pn++pins }) (E:=E0) lv' rfl q fun a C qs σ1 H1 H' s0 B s2 he J hE F=>?_
    subst he
    refine bq fun bG=>?_
    obtain ⟨E1,rfl,hx,hts⟩:=hE0 _ _ _ _ hE
    obtain ⟨a0,fl⟩:=F.fly
    refine bG (wpAny_landsW fl fun h3 fl3 ups3=>?_)
    have F3:=F.lands ups3 ⟨a0,fl3⟩
    have J0:Inv X (pins++qs) σ1 H1 s0:=Inv.unpn J
    have I3:Inv X (pins++qs) σ1 H' { s2 with heap:=h3 }:=Flew.inv (X:=X) F3 J0
    have LT:∀ {M:Model} {h:Heap},(∃ o,h.get? a=some o∧o.cls=.ref E1)→Looks M h (typeOf (.ref a)) (.ref E1):=fun {M h} ⟨o,z1,z2⟩=>z2 ▸ (Looks.ld z1).andThen .now
    refine wpAny_handleBy_cons (codeAny_handlers_test ?_) (by intro q;cases q)
    refine z7c (X:=X.mkd a) (I3.mkd a) hg hm ?_ hd
    have hth:∃ o,h3.get? a=some o∧o.cls=.ref E1:=fl3.there
    refine (exm_one (I3.kIn) (LT hth) hx).at ?_
    refine codeAny_handlers_suite_as ?_
    refine lands_againW fl3 fun h4 fl4 ups4=>?_
    have F4:=F3.next ups4 ⟨a0,fl4⟩
    refine bq fun bG=>?_
    obtain ⟨un4,hok4⟩:=F4.track
    have I4:Inv X (pins++qs) σ1 (upd H' a (zcu a E1)) { s2 with heap:=h4 }:=J0.call' (ch:=[]) F4.os un4 hok4 F4.bare fun _ z=>nomatch z
    refine bG (z8z (X:=X.mkd a) (v:=.ref a) (i:=i) (I4.mkd a) hN hi (.inl hl) rfl (fun s5 I5=>?_) (.inr hl))
    refine wpAny_mono (hs a (pins++qs) s5 _ _ (D.gone i) I5 (hts a F4.unt)) (fun f s6 z=>?_) fun _ _ z=>False.elim z
    have fin:∀ {σ':St} {H'':Hp} {R:Shared→Prop},Inv (X.mkd a) (pins++qs) σ' H'' s6→(∀ s7,Inv X pins (σ'.set i none) H'' s7→R s7)→wpAny (model X.prog X.w) X.A (do bindName X.env n .none;unbindBehindTheSuite X.env n hp) (fun _ s7=>R s7) X.xe s6:=fun {σ' H'' R} K6 k =>
      zar (X:=X) (Inv.unmkd I.ok K6) hN hi hl fun s7 I7=>k s7 (Inv.fewer I7)
    cases f with
    | next=>obtain ⟨σ',H'',J6,z⟩:=z;exact fin J6 fun s7 I7=>⟨_,_,I7,z⟩
    | brk=>obtain ⟨σ',H'',J6,z⟩:=z;exact fin J6 fun s7 I7=>⟨_,_,I7,z⟩
    | cont=>obtain ⟨σ',H'',J6,z⟩:=z;exact fin J6 fun s7 I7=>⟨_,_,I7,z⟩
    | ret u=>obtain ⟨v,σ',H'',J6,r,z⟩:=z;exact fin J6 fun s7 I7=>⟨v,_,_,I7,r,z⟩
end
end L2
namespace L3
open PySem PySem.Spec L2
open PyProof.Rows (envOfC)
inductive Rs (α:Type) where
  | ok (a:α) | ex (C:Addr)
noncomputable abbrev EX:=G→M→Option (Rs D×M)
noncomputable abbrev BX:=G→M→Option (Rs Bool×M)
noncomputable abbrev LX:=G→M→Option (Rs (List D)×M)
noncomputable abbrev FX:=List D→M→Option (Rs D×M)
inductive OutX where
  | nx | bk | ct | rt (d:D) | ex (C:Addr)
noncomputable abbrev SX:=G→M→Option (OutX×G×M)
section
variable (K:PySem.W.Frag) (E:St→XK)
def zuu (E:XK) (Q:VK) (W':Wd):Rs D→Prop
  | .ok d=>∀ v,DR K W' d v→Q v W'.H
  | .ex C=>E (.ref C) none W'.H
def zu9 (E:XK) (Q:Bool→Hp→Prop) (W':Wd):Rs Bool→Prop
  | .ok b=>Q b W'.H
  | .ex C=>E (.ref C) none W'.H
def zvj (E:XK) (Q:List V→Hp→Prop) (W':Wd):Rs (List D)→Prop
  | .ok ds=>∀ vs,DRs K W' ds vs→Q vs W'.H
  | .ex C=>E (.ref C) none W'.H
def zvi (D:Ends) (W':Wd) (σ':St):OutX→Prop
  | .nx=>D.nx σ' W'.H
  | .bk=>D.bk σ' W'.H
  | .ct=>D.ct σ' W'.H
  | .rt d=>∀ v,DR K W' d v→D.rt v W'.H
  | .ex C=>E σ' (.ref C) none W'.H
def tX (ev:EX):TE:=fun σ H Q=>∃ (W:Wd) (Γ:G) (r:Rs D) (μ':M),W.H=H∧Ok K W∧EnvR K W Γ σ∧ev Γ W.μ=some (r,μ')∧∀ W',W'.μ=μ'→Ok K W'→Step W W'→zuu K (E σ) Q W' r
def tXB (ev:BX):TT:=fun σ H Q=>∃ (W:Wd) (Γ:G) (r:Rs Bool) (μ':M),W.H=H∧Ok K W∧EnvR K W Γ σ∧ev Γ W.μ=some (r,μ')∧∀ W',W'.μ=μ'→Ok K W'→Step W W'→zu9 (E σ) Q W' r
def tXL (ev:LX):TA:=fun σ H Q=>∃ (W:Wd) (Γ:G) (r:Rs (List D)) (μ':M),W.H=H∧Ok K W∧EnvR K W Γ σ∧ev Γ W.μ=some (r,μ')∧∀ W',W'.μ=μ'→Ok K W'→Step W W'→zvj K (E σ) Q W' r
def tXS (es:SX):TS:=fun D σ H=>∃ (W:Wd) (Γ:G) (out:OutX) (Γ':G) (μ':M),W.H=H∧Ok K W∧EnvR K W Γ σ∧es Γ W.μ=some (out,Γ',μ')∧∀ W' σ',W'.μ=μ'→Ok K W'→Step W W'→EnvR K W' Γ' σ'→zvi K E D W' σ' out
end
noncomputable def upB (ev:BV):BX:=fun Γ μ=>(ev Γ μ).bind fun p=>some (.ok p.1,p.2)
noncomputable def upL (ev:LV):LX:=fun Γ μ=>(ev Γ μ).bind fun p=>some (.ok p.1,p.2)
noncomputable def upO:Out→OutX
  | .nx=>.nx
  | .bk=>.bk
  | .ct=>.ct
  | .rt d=>.rt d
noncomputable def upS (es:SV):SX:=fun Γ μ=>(es Γ μ).bind fun o=>some (upO o.1,o.2)
noncomputable def upF (f:List D→M→Option (D×M)):FX:=fun ds μ=>(f ds μ).bind fun p=>some (.ok p.1,p.2)
theorem zsn {X:Cx} {es:List Expr} {t:TA} (h:PA X.nox es t):PA X es t:=fun pos pins s σ H Q I hw =>
  wpAny_mono (h pos pins s σ H Q (I.wish _) hw) (fun _ _ ⟨v,H',I',r,q⟩=>⟨v,H',I'.unwish,r,q⟩) fun _ _ z=>False.elim z
theorem zsm {X:Cx} {tg:Expr} {t:TG} (h:PG X.nox tg t):PG X tg t:=fun pins s σ H v u Q I r hw =>
  wpAny_mono (h pins s σ H v u Q (I.wish _) r hw) (fun _ _ ⟨σ',H',I',q⟩=>⟨σ',H',I'.unwish,q⟩) fun _ _ z=>False.elim z
section
variable {X:Cx} {E:St→XK} {K:PySem.W.Frag} {e:Expr} {es:List Expr} {st:Stmt} {pos p:Pos} {ev:EV} {bv:BV} {lv:LV} {sv:SV}
theorem zmz:∀ σ H Q,tXB K E (upB bv) σ H Q→tDB K bv σ H Q:=fun σ H Q h=>by
  refine el4 h fun W Γ r μ' eH ok en e q=>?_;subst eH
  refine z05 e fun p e1 e=>?_
  cases e
  exact ⟨W,Γ,p.1,p.2,rfl,ok,en,e1,fun W' h1 h2 h3=>q W' h1 h2 h3⟩
theorem zmy:∀ σ H Q,tXL K E (upL lv) σ H Q→tDL K lv σ H Q:=fun σ H Q h=>by
  refine el4 h fun W Γ r μ' eH ok en e q=>?_;subst eH
  refine z05 e fun p e1 e=>?_
  cases e
  exact ⟨W,Γ,p.1,p.2,rfl,ok,en,e1,fun v W' h1 h2 h3 h4=>q W' h1 h2 h3 v h4⟩
theorem zfr:∀ D σ H,tXS K E (upS sv) D σ H→tDS K sv D σ H:=fun D σ H h=>by
  refine el5 h fun W Γ o Γ' μ' eH ok en e q=>?_;subst eH
  refine bq fun bG=>?_
  obtain ⟨⟨o1,Γ1,μ1⟩,e1,e⟩:=bnd e
  cases e
  refine bG (⟨W,Γ,o1,_,_,rfl,ok,en,e1,fun W' σ' h1 h2 h3 h4=>?_⟩)
  have:=q W' σ' h1 h2 h3 h4
  cases o1 <;> exact this
theorem zj2 (h:PT X.nox e (tDB K bv)):PT X e (tXB K E (upB bv)):=z7w h.nox zmz
theorem zbp (h:PA X.nox es (tDL K lv)):PA X es (tXL K E (upL lv)):=zed (zsn h) zmy
noncomputable def z8n (ea:EX) (el:LX):LX:=fun Γ μ=>(ea Γ μ).bind fun p=>match p.1 with
  | .ok d=>(el Γ p.2).bind fun q=>match q.1 with
    | .ok ds=>some (.ok (d::ds),q.2)
    | .ex C=>some (.ex C,q.2)
  | .ex C=>some (.ex C,p.2)
theorem zmk {ea:EX} {el:LX} (ha:PE X e (tX K E ea)) (hr:PA X es (tXL K E el)) (hs:starEach (e::es) X.env=(false,eval e X.env)::starEach es X.env:=by rfl):PA X (e::es) (tXL K E (z8n ea el)):=zed (z0n ha hr hs) fun σ H Q h=>by
  refine el4 h fun W Γ r μ' eH ok en e q=>?_;subst eH
  refine bq fun bG=>?_
  obtain ⟨⟨p1,p2⟩,e1,e⟩:=bnd e
  refine bG (⟨W,Γ,p1,p2,rfl,ok,en,e1,fun W1 hμ ok1 s1=>?_⟩)
  cases p1 with
  | ex C=>cases e;exact q W1 hμ ok1 s1
  | ok d =>
    intro x rx
    obtain ⟨⟨q1,q2⟩,e2,e⟩:=bnd e
    refine ⟨W1,Γ,q1,q2,rfl,ok1,en.step ok s1,by rw [hμ];exact e2,fun W2 hμ2 ok2 s2=>?_⟩
    cases q1 with
    | ex C=>cases e;exact q W2 hμ2 ok2 (s1.trans s2)
    | ok ds =>
      cases e
      exact fun vs rvs=>q W2 hμ2 ok2 (s1.trans s2) (x::vs) (.cons (rx.step ok1 s2) rvs)
noncomputable def spX (K:PySem.W.Frag) (f:FX):Sp:=fun vs H Q E=>∃ (W:Wd) (ds:List D) (r:Rs D) (μ':M),W.H=H∧Ok K W∧DRs K W ds vs∧f ds W.μ=some (r,μ')∧∀ W',W'.μ=μ'→Ok K W'→Step W W'→zuu K E Q W' r
noncomputable def vLX (f:FX) (el:LX):EX:=fun Γ μ=>(el Γ μ).bind fun p=>match p.1 with
  | .ok ds=>f ds p.2
  | .ex C=>some (.ex C,p.2)
theorem zfy {f:FX} {el:LX} {r:List V→Hp→VK→XK→Prop} (ra:∀ vs H Q E,spX K f vs H Q E→r vs H Q E):∀ σ H Q,tX K E (vLX f el) σ H Q→tXL K E el σ H fun vs H1=>r vs H1 Q (E σ):=fun σ H Q h=>by
  refine el4 h fun W Γ r μ' eH ok en e q=>?_;subst eH
  refine bq fun bG=>?_
  obtain ⟨⟨p1,p2⟩,e1,e⟩:=bnd e
  refine bG (⟨W,Γ,p1,p2,rfl,ok,en,e1,fun W1 hμ ok1 s1=>?_⟩)
  cases p1 with
  | ex C=>cases e;exact q W1 hμ ok1 s1
  | ok ds=>exact fun vs rv=>ra _ _ _ _ ⟨W1,ds,r,μ',rfl,ok1,rv,by rw [hμ];exact e,fun W2 hμ2 ok2 s2=>q W2 hμ2 ok2 (s1.trans s2)⟩
theorem zee {x:Str} {ps:List Str} {f:FX} {k:Nat} {el:LX} (D:DfX X.prog X.w X.K X.mg X.base k x ps (spX K f)) (hr:Room k X.A) (ha:PA (X.fl E) (e::es) (tXL K E el)) (hg:Gl X x:=by rfl) (hdb:(x==("__debug__" : Str))=false:=by decide)
    (he:starEach (e::es) X.env=(false,eval e X.env)::starEach es X.env:=by rfl) (hpl:(backTo pos (starEach es X.env)).any (·.1)=false:=by rfl):PE (X.fl E) (.Call (.Name x p) (e::es) [] pos) (tX K E (vLX f el)) :=
  z0l (zr2 D hr ha hg hdb he hpl) (zfy fun _ _ _ _ z=>z)
theorem zpx {f:List D→M→Option (D×M)}:∀ vs H Q E,spX K (upF f) vs H Q E→spM K f vs H Q E0:=fun vs H Q E h=>by
  refine bq fun bG=>?_
  obtain ⟨W,ds,r,μ',h1,h2,h3,e,q⟩:=h
  obtain ⟨⟨d,μ1⟩,e1,e⟩:=bnd e
  cases e
  exact bG (⟨W,ds,d,μ1,h1,h2,h3,e1,fun v W' a b c d=>q W' a b c v d⟩)
theorem zuz {x:Str} {ps:List Str} {f:List D→M→Option (D×M)} {k:Nat} {el:LX} (D:Df X.prog X.w X.K X.mg X.base k x ps (spM K f)) (hr:Room k X.A) (ha:PA X (e::es) (tXL K E el)) (hg:Gl X x:=by rfl) (hdb:(x==("__debug__" : Str))=false:=by decide)
    (he:starEach (e::es) X.env=(false,eval e X.env)::starEach es X.env:=by rfl) (hpl:(backTo pos (starEach es X.env)).any (·.1)=false:=by rfl):PE X (.Call (.Name x p) (e::es) [] pos) (tX K E (vLX (upF f) el)) :=
  z0l (zr3 D hr ha hg hdb he hpl) (zfy (r:=fun vs H Q _=>spM K f vs H Q E0) zpx)
noncomputable def bTX (ev:EX):BX:=fun Γ μ=>(ev Γ μ).bind fun p=>match p.1 with
  | .ok (.bl b)=>some (.ok b,p.2)
  | .ok _=>none
  | .ex C=>some (.ex C,p.2)
theorem zpd {ev:EX} (h:PE X e (tX K E ev)) (he:∀ whole,isTrue e X.env whole=(do let v ← whole;standAt e.pos;holding [v] (truthy v)):=by intro _;rfl):PT X e (tXB K E (bTX ev)):=z7w (zqp h he) fun σ H Q h=>by
  refine el4 h fun W Γ r μ' eH ok en e q=>?_;subst eH
  refine bq fun bG=>?_
  obtain ⟨⟨p1,p2⟩,e1,e⟩:=bnd e
  refine bG (⟨W,Γ,p1,p2,rfl,ok,en,e1,fun W1 hμ ok1 s1=>?_⟩)
  cases p1 with
  | ex C=>cases e;exact q W1 hμ ok1 s1
  | ok d =>
    intro v rv
    cases d with
    | bl b=>cases e;cases rv;exact ⟨b,rfl,q W1 hμ ok1 s1⟩
    | _=>cases e
noncomputable def zfa (t:BX):BX:=fun Γ μ=>(t Γ μ).bind fun p=>match p.1 with
  | .ok b=>some (.ok (!b),p.2)
  | .ex C=>some (.ex C,p.2)
theorem zpe {bx:BX} (h:PT X e (tXB K E bx)):PT X (.UnaryOp .Not e pos) (tXB K E (zfa bx)):=z7w (zlu h) fun σ H Q h=>by
  refine el4 h fun W Γ r μ' eH ok en e q=>?_;subst eH
  refine bq fun bG=>?_
  obtain ⟨⟨p1,p2⟩,e1,e⟩:=bnd e
  refine bG (⟨W,Γ,p1,p2,rfl,ok,en,e1,fun W1 hμ ok1 s1=>?_⟩)
  cases p1 with
  | ex C=>cases e;exact q W1 hμ ok1 s1
  | ok b=>cases e;exact q W1 hμ ok1 s1
end
open PyProof.Rows (envOfC)
section
variable {X:Cx} {E:St→XK} {K:PySem.W.Frag} {e:Expr} {es:List Expr} {st:Stmt} {z1y:List Stmt} {pos p:Pos} {sa sb:SX} {ex:EX}
noncomputable def z4f (a b:SX):SX:=fun Γ μ=>(a Γ μ).bind fun o=>match o.1 with
  | .nx=>b o.2.1 o.2.2
  | x=>some (x,o.2)
theorem za5:PSs X [] (tXS K E (upS sNx)):=z7x z1m zfr
theorem z3y (h1:PS X st (tXS K E sa)):PSs X [st] (tXS K E sa):=zgs h1
theorem z6q (h1:PS X st (tXS K E sa)) (h2:PSs X z1y (tXS K E sb)):PSs X (st::z1y) (tXS K E (z4f sa sb)):=z7x (zdk h1 h2) fun D σ H h=>by
  refine el5 h fun W Γ o Γ' μ' eH ok en e q=>?_;subst eH
  refine bq fun bG=>?_
  obtain ⟨⟨o1,Γ1,μ1⟩,e1,e⟩:=bnd e
  refine bG (⟨W,Γ,o1,Γ1,μ1,rfl,ok,en,e1,fun W1 σ1 hμ ok1 s1 en1=>?_⟩)
  cases o1 with
  | nx=>exact ⟨W1,Γ1,o,Γ',μ',rfl,ok1,en1,by rw [hμ];exact e,fun W2 σ2 hμ2 ok2 s2 en2=>q W2 σ2 hμ2 ok2 (s1.trans s2) en2⟩
  | bk=>cases e;exact q W1 σ1 hμ ok1 s1 en1
  | ct=>cases e;exact q W1 σ1 hμ ok1 s1 en1
  | rt d=>cases e;exact q W1 σ1 hμ ok1 s1 en1
  | ex C=>cases e;exact q W1 σ1 hμ ok1 s1 en1
noncomputable def z71 (ea:EX):SX:=fun Γ μ=>(ea Γ μ).bind fun p=>match p.1 with
  | .ok _=>some (.nx,Γ,p.2)
  | .ex C=>some (.ex C,Γ,p.2)
theorem zff (he:PE X e (tX K E ex)) (hs:swapsWith e none pos.line X.env=pure false:=by rfl):PS X (.Expr e pos) (tXS K E (z71 ex)):=z2j (zgt he hs) fun D σ H h=>by
  refine el5 h fun W Γ o Γ' μ' eH ok en e q=>?_;subst eH
  refine bq fun bG=>?_
  obtain ⟨⟨p1,p2⟩,e1,e⟩:=bnd e
  refine bG (⟨W,Γ,p1,p2,rfl,ok,en,e1,fun W1 hμ ok1 s1=>?_⟩)
  cases p1 with
  | ex C=>cases e;exact q W1 σ hμ ok1 s1 (en.step ok s1)
  | ok d=>cases e;exact fun v rv=>q W1 σ hμ ok1 s1 (en.step ok s1)
noncomputable def z93 (ea:EX):SX:=fun Γ μ=>(ea Γ μ).bind fun p=>match p.1 with
  | .ok d=>some (.rt d,Γ,p.2)
  | .ex C=>some (.ex C,Γ,p.2)
theorem zla (he:PE X e (tX K E ex)):PS X (.Return (some e) pos) (tXS K E (z93 ex)):=z2j (zlw he) fun D σ H h=>by
  refine el5 h fun W Γ o Γ' μ' eH ok en e q=>?_;subst eH
  refine bq fun bG=>?_
  obtain ⟨⟨p1,p2⟩,e1,e⟩:=bnd e
  refine bG (⟨W,Γ,p1,p2,rfl,ok,en,e1,fun W1 hμ ok1 s1=>?_⟩)
  cases p1 with
  | ex C=>cases e;exact q W1 σ hμ ok1 s1 (en.step ok s1)
  | ok d=>cases e;exact fun v rv=>q W1 σ hμ ok1 s1 (en.step ok s1) v rv
noncomputable def zde (t:BX) (a b:SX):SX:=fun Γ μ=>(t Γ μ).bind fun p=>match p.1 with
  | .ok c=>if c=true then a Γ p.2 else b Γ p.2
  | .ex C=>some (.ex C,Γ,p.2)
theorem zfe {c:Expr} {a b:List Stmt} {bc:BX} (hc:PT X c (tXB K E bc)) (ha:PSs X a (tXS K E sa)) (hb:PSs X b (tXS K E sb)):PS X (.If c a b pos) (tXS K E (zde bc sa sb)):=z2j (zqr hc ha hb) fun D σ H h=>by
  refine el5 h fun W Γ o Γ' μ' eH ok en e q=>?_;subst eH
  refine bq fun bG=>?_
  obtain ⟨⟨p1,p2⟩,e1,e⟩:=bnd e
  refine bG (⟨W,Γ,p1,p2,rfl,ok,en,e1,fun W1 hμ ok1 s1=>?_⟩)
  cases p1 with
  | ex C=>cases e;exact q W1 σ hμ ok1 s1 (en.step ok s1)
  | ok k =>
    cases k with
    | true =>
      simp only [zu9,if_true]
      exact ⟨W1,Γ,o,Γ',μ',rfl,ok1,en.step ok s1,by rw [hμ];exact e,fun W2 σ2 hμ2 ok2 s2 en2=>q W2 σ2 hμ2 ok2 (s1.trans s2) en2⟩
    | false =>
      simp only [zu9,Bool.false_eq_true,if_false]
      exact ⟨W1,Γ,o,Γ',μ',rfl,ok1,en.step ok s1,by rw [hμ];exact e,fun W2 σ2 hμ2 ok2 s2 en2=>q W2 σ2 hμ2 ok2 (s1.trans s2) en2⟩
noncomputable def zah (ea:EX) (g:GV):SX:=fun Γ μ=>(ea Γ μ).bind fun p=>match p.1 with
  | .ok d=>(g d Γ p.2).bind fun q=>some (.nx,q.1,q.2)
  | .ex C=>some (.ex C,Γ,p.2)
theorem zpf {i:Nat} {x:Str} {pos':Pos} (hN:X.N.Nodup) (hi:X.N[i]?=some x) (hx:Loc X.env.scope x) (he:PE X e (tX K E ex)) (hs:swapsWith e (some (.Name x pos')) pos.line X.env=pure false:=by rfl) (hf:X.fn x=true∨X.env.scope.names.lookup x=some .local:=by first | exact .inl rfl | exact .inr rfl | assumption) :
    PS X (.Assign [.Name x pos'] e pos) (tXS K E (zah ex (z00 i))):=z2j (zlv hN hi hx he hs hf) fun D σ H h=>by
  refine el5 h fun W Γ o Γ' μ' eH ok en e q=>?_;subst eH
  refine bq fun bG=>?_
  obtain ⟨⟨p1,p2⟩,e1,e⟩:=bnd e
  refine bG (⟨W,Γ,p1,p2,rfl,ok,en,e1,fun W1 hμ ok1 s1=>?_⟩)
  cases p1 with
  | ex C=>cases e;exact q W1 σ hμ ok1 s1 (en.step ok s1)
  | ok d=>cases e;exact fun v rv=>q W1 _ hμ ok1 s1 ((en.step ok s1).set rv i)
noncomputable def zli (c:BX) (body:SX):Nat→SX
  | 0,_,_=>none
  | n+1,Γ,μ=>(c Γ μ).bind fun p=>match p.1 with
    | .ok k=>if k=true then (body Γ p.2).bind fun o=>match o.1 with
        | .nx=>zli c body n o.2.1 o.2.2
        | .ct=>zli c body n o.2.1 o.2.2
        | .bk=>some (.nx,o.2)
        | .rt d=>some (.rt d,o.2)
        | .ex C=>some (.ex C,o.2)
      else some (.nx,Γ,p.2)
    | .ex C=>some (.ex C,Γ,p.2)
noncomputable def zp8 (c:Ck) (g:GV) (body:SX):List D→SX
  | [],Γ,μ=>some (.nx,Γ,μ)
  | d::r,Γ,μ=>(g d Γ μ).bind fun p=>(body p.1 p.2).bind fun o=>match o.1 with
    | .nx=>chk (z33 c o.2.2) (zp8 c g body r o.2.1 o.2.2)
    | .ct=>chk (z33 c o.2.2) (zp8 c g body r o.2.1 o.2.2)
    | .bk=>some (.nx,o.2)
    | .rt d=>some (.rt d,o.2)
    | .ex C=>some (.ex C,o.2)
noncomputable def zq0 (iv:IV) (g:GV) (body:SX):SX:=fun Γ μ=>(iv Γ μ).bind fun s=>zp8 s.1.2 g body s.1.1 Γ s.2
theorem zpg {tg iter:Expr} {body:List Stmt} {iv:IV} {g:GV} (hp:PassesOwn (model X.prog X.w) X.A X.env X.xe) (hc:X.calm=true) (hi:PI X tg iter (tDI K iv)) (hg:PG X tg (tDG K g)) (hb:PSs X body (tXS K E sb))
    (hs:∀ x,foldedSetIterable iter X.env x=pure x:=by intro _;rfl):PS X (.For tg iter body [] pos) (tXS K E (zq0 iv g sb)):=z2j (zlx hp hc hi hg hb hs) fun D σ H h=>by
  refine el5 h fun W Γ o Γ' μ' eH ok en e q=>?_;subst eH
  refine bq fun bG=>?_
  obtain ⟨⟨⟨its,c⟩,μ1⟩,e1,e⟩:=bnd e
  refine bG (⟨W,Γ,its,c,μ1,rfl,ok,en,e1,fun J W1 hμ1 ok1 s1 jr=>?_⟩)
  obtain ⟨c1,ds,vs,r1,hj⟩:=jr
  obtain ⟨P,hP⟩:∃ P:Nat→St→Hp→Prop,∀ i σ2 H2,P i σ2 H2↔(i≤its.length∧∃ W2 Γ2,W2.H=H2∧Ok K W2∧Step W1 W2∧EnvR K W2 Γ2 σ2∧z33 c W2.μ∧zp8 c g sb (its.drop i) Γ2 W2.μ=some (o,Γ',μ')):=⟨_,fun _ _ _=>Iff.rfl⟩
  refine ⟨fun i m σ2 H2=>m=its.length - i∧P i σ2 H2,⟨its.length,by simp,(hP _ _ _).2 ⟨Nat.zero_le _,W1,Γ,rfl,ok1,.refl,en.step ok s1,c1,by rw [hμ1];exact e⟩⟩,?_⟩
  rintro i m σ2 H2 ⟨rfl,hi⟩
  refine bq fun hG=>?_
  obtain ⟨hi,W2,Γ2,rfl,ok2,s2,en2,c2,e2⟩:=(hP _ _ _).1 hi
  obtain ⟨hstop,hgo⟩:=hj W2 i ok2 c2 (r1.step ok1 s2)
  by_cases hlt:i<its.length
  · have hd:its[i]?=some its[i]:=List.getElem?_eq_getElem hlt
    refine bq fun bG=>?_
    obtain ⟨h1,h2⟩:=hgo _ hd
    rw [List.drop_eq_getElem_cons hlt] at e2
    refine z05 e2 fun p e3 e2=>?_
    obtain ⟨⟨o4,Γ4,μ4⟩,e4,e2⟩:=bnd e2
    refine bG (hG (.inr ⟨h1,P (i+1),fun σ' H' hN=>⟨its.length - (i+1),by omega,rfl,hN⟩,fun x H' hy=>?_⟩))
    refine bq fun hF=>?_
    obtain ⟨W3,rfl,hμ3,ok3,s3,r3⟩:=h2 x H' hy
    refine hF ⟨W3,Γ2,its[i],p.1,p.2,rfl,ok3,en2.step ok2 s3,r3,by rw [hμ3];exact e3,fun W4 σ4 hμ4 ok4 s4 en4=>⟨W4,p.1,o4,Γ4,μ4,rfl,ok4,en4,by rw [hμ4];exact e4,fun W5 σ5 hμ5 ok5 s5 en5=>?_⟩⟩
    have st:=s2.trans (s3.trans (s4.trans s5))
    cases o4 with
    | nx=>refine z3x e2 fun hc5 e2=>?_;exact (hP _ _ _).2 ⟨hlt,W5,Γ4,rfl,ok5,st,en5,by rw [hμ5];exact hc5,by rw [hμ5];exact e2⟩
    | ct=>refine z3x e2 fun hc5 e2=>?_;exact (hP _ _ _).2 ⟨hlt,W5,Γ4,rfl,ok5,st,en5,by rw [hμ5];exact hc5,by rw [hμ5];exact e2⟩
    | bk=>cases e2;exact q W5 σ5 hμ5 ok5 (s1.trans st) en5
    | rt d=>cases e2;exact q W5 σ5 hμ5 ok5 (s1.trans st) en5
    | ex C=>cases e2;exact q W5 σ5 hμ5 ok5 (s1.trans st) en5
  · have e':i=its.length:=by omega
    subst e'
    rw [List.drop_eq_nil_of_le (Nat.le_refl _)] at e2
    cases e2
    exact hG (.inl ⟨hstop (Nat.le_refl _),q W2 σ2 rfl ok2 (s1.trans s2) en2⟩)
noncomputable def zdd (C:Addr) (ea:EV):SX:=fun Γ μ=>(ea Γ μ).bind fun p=>some (.ex C,Γ,p.2)
theorem zj3 {ea:EV} {x:Str} {C:Addr} {np cpos:Pos} (he:PE (X.fl E).nox e (tD K ea)) (hm:X.mg x=some (.ref C)) (hC:z3d X.K C) (hg:Gl X x:=by rfl) (hc:X.calm=true:=by rfl) (hd:(x==("__debug__" : Str))=false:=by decide)
    (hs:starEach [e] X.env=[(false,eval e X.env)]:=by rfl):PS (X.fl E) (.Raise (some (.Call (.Name x np) [e] [] cpos)) none pos) (tXS K E (zdd C ea)):=z2j (zdl (te:=tD K ea) (PE.nox he) hg hm hC hc hd hs) fun D σ H h=>by
  refine el5 h fun W Γ o Γ' μ' eH ok en e q=>?_;subst eH
  refine z05 e fun p1 e1 e=>?_
  cases e
  exact ⟨W,Γ,p1.1,p1.2,rfl,ok,en,e1,fun v W1 hμ ok1 s1 r1=>q W1 σ hμ ok1 s1 (en.step ok s1)⟩
noncomputable def zlq (cs:List Addr) (i:Nat) (body:SX) (suite:SV):SV:=fun Γ μ=>(body Γ μ).bind fun o=>match o.1 with
  | .nx=>some (.nx,o.2)
  | .bk=>some (.bk,o.2)
  | .ct=>some (.ct,o.2)
  | .rt d=>some (.rt d,o.2)
  | .ex C=>if C∈cs then (suite (o.2.1.set i (some (.ref o.2.2.length))) (o.2.2++[some (.exc C)])).bind fun z=>some (z.1,z.2.1.set i none,z.2.2) else none
theorem EnvR.unset {W:Wd} {Γ:G} {σ:St} (e:EnvR K W Γ σ) (i:Nat):EnvR K W (Γ.set i none) (σ.set i none) where
  len:=by simp [e.len]
  at_ j d h:=by
    by_cases hj:j=i
    · subst hj
      by_cases hl:j<Γ.length
      · rw [List.getElem?_set_self hl] at h;cases h
      · rw [List.getElem?_eq_none_iff.mpr (by simpa using hl)] at h;cases h
    · rw [List.getElem?_set_ne (Ne.symm hj)] at h ⊢
      exact e.at_ j d h
theorem zph {body suite:List Stmt} {b₀:Stmt} {hp:Pos} {n y:Str} {i:Nat} {C0:Addr} {sx:SX} {sv:SV} {cs:List Addr} (lv:Lv X) (hN:X.N.Nodup) (hi:X.N[i]?=some n) (hl:X.env.scope.names.lookup n=some .local) (hm:X.mg y=some (.ref C0))
    (hcs:∀ C∈cs,PySem.W.exmOne X.K (.ref C) (.ref C0)=some true)
    (hb:∀ pn E,PSs (Cx.fl { X with pn:=pn } E) body (tXS K E sx)) (hs:∀ e,PSs (X.mkd e) (b₀::suite) (tDS K sv)) (hg:Gl X y:=by rfl) (hd:(y==("__debug__" : Str))=false:=by decide) :
    PS X (.Try body [.ExceptHandler (some (.Name y p)) (some n) (b₀::suite) hp] [] [] pos) (tDS K (zlq cs i sx sv)):=z2j (zqq lv hN hi hl hg hm hb hs hd) fun D σ H h=>by
  refine el5 h fun W Γ o Γ' μ' eH ok en e q=>?_;subst eH
  refine bq fun bG=>?_
  obtain ⟨⟨o1,Γ1,μ1⟩,e1,e⟩:=bnd e
  refine bG (⟨W,Γ,o1,Γ1,μ1,rfl,ok,en,e1,fun W1 σ1 hμ ok1 s1 en1=>?_⟩)
  cases o1 with
  | nx=>cases e;exact q W1 σ1 hμ ok1 s1 en1
  | bk=>cases e;exact q W1 σ1 hμ ok1 s1 en1
  | ct=>cases e;exact q W1 σ1 hμ ok1 s1 en1
  | rt d=>cases e;exact q W1 σ1 hμ ok1 s1 en1
  | ex C =>
    have e:(if C∈cs then (sv (Γ1.set i (some (.ref μ1.length))) (μ1++[some (.exc C)])).bind fun z=>some (z.1,z.2.1.set i none,z.2.2) else none)=some (o,Γ',μ'):=e
    split at e
    · rename_i hC
      refine bq fun bG=>?_
      obtain ⟨⟨o2,Γ2,μ2⟩,e2,e⟩:=bnd e
      cases e
      refine bG (⟨C,rfl,hcs C hC,fun a ha=>?_⟩)
      have okn:=zam (x:=.exc C) (o:=zcu a C) ok1 ha rfl
      have sn:=z27 (K:=K) (x:=.exc C) (o:=zcu a C) ok1 ha
      refine ⟨W1.new a (zcu a C) (.exc C),Γ1.set i (some (.ref μ1.length)),o2,Γ2,μ2,rfl,okn,?_,?_,fun W2 σ2 hμ2 ok2 s2 en2=>?_⟩
      · have:=(en1.step ok1 sn).set (zb6 (K:=K) (W:=W1) (p:=a) (o:=zcu a C) (x:=.exc C) ok1) i
        rw [hμ] at this
        exact this
      · show sv _ (W1.μ++_)=_
        rw [hμ];exact e2
      · have st:=(s1.trans sn).trans s2
        cases o2 with
        | nx=>exact q W2 _ hμ2 ok2 st (en2.unset i)
        | bk=>exact q W2 _ hμ2 ok2 st (en2.unset i)
        | ct=>exact q W2 _ hμ2 ok2 st (en2.unset i)
        | rt d=>exact q W2 _ hμ2 ok2 st (en2.unset i)
    · cases e
end
noncomputable def zc4 (n m:Nat) (es:SX):FX:=fun ds μ=>if ds.length=m then (es (ds.map some++List.replicate (n - ds.length) none) μ).bind fun o=>match o.1 with
    | .rt d=>some (.ok d,o.2.2)
    | .nx=>some (.ok .non,o.2.2)
    | .ex C=>some (.ex C,o.2.2)
    | _=>none
  else none
theorem zp9 {P:Program} {w:World} {K:PySem.W.Frag} {mg:Str→Option Value} {base:Heap} {x qual:Str} {st:Stmt} {f:Addr} {fd:FuncData} {N ps:List Str} {k:Nat} {es:SX} (F:Fun K x qual st f fd) (S:FnScope N ps (z07 st))
    (hb:∀ (cdv:Value) (A:Around) (outer:List Env) (s:Shared) (H:Hp) (E:XK),Room k (A.deeper (envOfC qual (z07 st) s.heap.objs.size f cdv))→PSs ((z3w (CXr P w) P w K mg base N qual (z07 st) f cdv A outer s H E).fl fun _=>E) (z0p st) (tXS K (fun _=>E) es)) :
    FnOk P w K mg base (CXr P w) (k+1) f fd ps (spX K (zc4 N.length ps.length es)):=by
  refine F.okX S (fun vs H Q E h=>?_) (fun cdv A outer s H vs Q E hr h=>?_)
  · obtain ⟨W,ds,r,μ',_,_,rr,e,_⟩:=h
    unfold zc4 at e
    split at e
    · rename_i hl;rw [← rr.length];exact hl
    · cases e
  · obtain ⟨W,ds,r,μ',rfl,ok,rr,e,q⟩:=h
    refine ⟨_,hb cdv A outer s W.H E hr,?_⟩
    unfold zc4 at e
    split at e
    · obtain ⟨⟨o,Γ',μ2⟩,e1,e⟩:=bnd e
      refine ⟨W,_,o,Γ',μ2,rfl,ok,zb3 rr,e1,fun W' σ' hμ ok' s' en'=>?_⟩
      cases o with
      | rt z=>cases e;exact q W' hμ ok' s'
      | nx=>cases e;exact q W' hμ ok' s' _ .non
      | ex C=>cases e;exact q W' hμ ok' s'
      | bk=>cases e
      | ct=>cases e
    · cases e
end L3
namespace L2
open PySem PySem.W PySem.Spec PyProof.Rows
def tCs (cs:List V):TA:=fun _ H Q=>Q cs H
section
variable {X:Cx} {a b e:Expr} {es:List Expr} {ta:TE} {p pos:Pos} {c:V} {cs:List V}
theorem znx:PA X [] (tCs []):=z16
theorem zke (ha:PE X e (tC c)) (hr:PA X es (tCs cs)) (hs:starEach (e::es) X.env=(false,eval e X.env)::starEach es X.env:=by rfl):PA X (e::es) (tCs (c::cs)):=z0n ha hr hs
theorem zf9:z3u X (.builtin "isinstance") (fun xs H Q=>∃ (e D p:Addr) (cs:List V) (cvs:List Value) (k:Bool),xs=[.ref e,.ref p]∧H e=some (zcu e D)∧ExcIn X.K D∧H p=some (.tup cs)∧Vals cs cvs∧(∀ us,Vals cs us→us=cvs)∧kitAny X.K (.ref D) cvs=some k∧Q (.bl k) H):=by
  intro pins s σ H xs us Q I r h
  obtain ⟨e,D,p,cs,cvs,k,rfl,he,F,hp,rc,hu,hk,q⟩:=h
  obtain ⟨u,u2,rfl,ru,ru2⟩:=zeh r
  cases (show u=Value.ref e from ru)
  cases (show u2=Value.ref p from ru2)
  obtain ⟨ho,_,_⟩:=(show (∃ o,s.heap.get? e=some o∧o.cls=.ref D)∧_∧_ from I.hok e _ he)
  obtain ⟨_,its,rv,⟨oc,od,odt,osl⟩,e1,e2,n,e3⟩:=(show ObjOk X.prog X.w H s.heap p (.tup cs) from I.hok p _ hp)
  have e2':oc=.type "tuple" := e2
  have e3':odt=.seq its.toArray n:=e3
  subst e2' e3'
  cases hu its rv
  exact kia_tup (zdr F) I.kIn ho e1 hk (fun z=>nomatch z) fun tk=>⟨.bl k,H,I.tok _,rfl,q⟩
theorem zsd (K:Frag) (ml:X.mg "isinstance" = none) {tb:TE} (ha:PE X a ta) (hb:PE X b tb) (hg:Gl X "isinstance" := by rfl) (hs:starEach [a,b] X.env=[(false,eval a X.env),(false,eval b X.env)]:=by rfl) (hs2:starEach [b] X.env=[(false,eval b X.env)]:=by rfl) (hK:X.K=K:=by rfl) :
    PE X (.Call (.Name "isinstance" p) [a,b] [] pos) (fun σ H Q=>ta σ H fun x H1=>tb σ H1 fun y H2=>∃ (e D p:Addr) (cs:List V) (cvs:List Value) (k:Bool),[x,y]=[.ref e,.ref p]∧H2 e=some (zcu e D)∧ExcIn K D∧H2 p=some (.tup cs)∧Vals cs cvs∧(∀ us,Vals cs us→us=cvs)∧kitAny K (.ref D) cvs=some k∧Q (.bl k) H2):=by
  subst hK
  exact z1u zf9 hg ml rfl (z0n ha (z0n hb z16 hs2) (by rw [hs,hs2])) (he:=by rw [hs,hs2]) (hpl:=by rw [hs2];rfl)
end
noncomputable def clV:V→Option Value
  | .ref a=>some (.ref a)
  | .ty n=>some (.type n)
  | _=>none
theorem zow {v:V} {u w:Value} (h:clV v=some u) (r:RelV v w):w=u:=by
  cases v with
  | ref a=>cases h;exact r
  | ty n=>cases h;exact r
  | _=>cases h
theorem zmf {v:V} {u:Value} (h:clV v=some u):RelV v u:=by
  cases v with
  | ref a=>cases h;rfl
  | ty n=>cases h;rfl
  | _=>cases h
noncomputable def zt4:List V→Option (List Value)
  | []=>some []
  | v::r=>(clV v).bind fun u=>(zt4 r).bind fun us=>some (u::us)
theorem zid:∀ {vs:List V} {us:List Value},zt4 vs=some us→Vals vs us∧∀ ws,Vals vs ws→ws=us
  | [],us,h=>by cases h;exact ⟨.nil,fun ws q=>by cases q;rfl⟩
  | v::r,us,h=>by
    refine bq fun bG=>?_
    obtain ⟨u,h1,h⟩:=Option.bind_eq_some_iff.mp h
    obtain ⟨us',h2,h⟩:=Option.bind_eq_some_iff.mp h
    cases h
    obtain ⟨a,b⟩:=zid h2
    refine bG (⟨.cons (zmf h1) a,fun ws q=>?_⟩)
    cases q with
    | cons x y=>rw [zow h1 x,b _ y]
end L2
namespace L3
open PySem PySem.Spec L2
section
variable {X:Cx} {K:PySem.W.Frag} {a b e:Expr} {es:List Expr} {ea:EV} {p pos:Pos}
noncomputable def z7j (cs:List String) (x:D) (μ:M):Option (D×M):=(tyD μ x).bind fun t=>some (.bl (cs.any (zg0 t)),μ)
theorem zle (cs:List String) (ml:X.mg "isinstance" = none) {k:Nat} {tpos:Pos} (ha:PE X a (tD K ea)) (hb:PA X es (tCs (cs.map V.ty))) (hc:cs.all clNames.contains=true:=by decide) (hl:cs.length≤100:=by decide) (hg:Gl X "isinstance" := by rfl)
    (hs:starEach [a,.Tuple es k tpos] X.env=[(false,eval a X.env),(false,eval (.Tuple es k tpos) X.env)]:=by rfl) (hs2:starEach [.Tuple es k tpos] X.env=[(false,eval (.Tuple es k tpos) X.env)]:=by rfl) (hK:X.K=K:=by rfl) :
    PE X (.Call (.Name "isinstance" p) [a,.Tuple es k tpos] [] pos) (tD K (v1 (z7j cs) ea)):=z0l (zue K ml ha (zgy hb) hg hs hs2 hK) (z2v (by
  intro W x d z μ' Q ok r1 hf q
  refine z05 hf fun t ht hf=>?_
  cases hf
  refine ⟨z39 (by simp;omega),fun p hp=>?_⟩
  have ok2:=z1v (o:=.tup (cs.map V.ty)) ok hp
  have s2:=z0m (W:=W) (o:=.tup (cs.map V.ty)) hp
  refine ⟨x,t,p,cs,rfl,.inl (.inl z0k),?_,hc,q _ (W.lay p _) rfl ok2 s2 (.bl _)⟩
  exact zlm (W:=W.lay p (.tup (cs.map V.ty))) ok2 ht (r1.step ok s2)))
noncomputable def zb1 (q:Addr→Option Bool) (x:D) (μ:M):Option (D×M):=match x with
  | .ref k=>match μ[k]? with
    | some (some (.exc C))=>(q C).bind fun b=>some (.bl b,μ)
    | _=>none
  | _=>none
def IsX (K:PySem.W.Frag) (c:V) (q:Addr→Option Bool):Prop:=∃ cv,clV c=some cv∧∀ C b,q C=some b→ExcIn K C∧PySem.W.kitOne K (.ref C) cv=some b
theorem zmb {W:Wd} {k:Nat} {C:Addr} {v:V} (ok:Ok K W) (h:W.μ[k]?=some (some (.exc C))) (r:DR K W (.ref k) v):∃ a,v=.ref a∧W.H a=some (zcu a C):=by
  cases r with
  | ref ha =>
    obtain ⟨a',ho,h1,h2,h3⟩:=ok.at_ k _ h
    rw [ha] at h1
    cases h1
    exact ⟨_,rfl,by rw [h2];cases (show _=_ from h3);rfl⟩
theorem zd6 {c:V} {q:Addr→Option Bool} (hq:IsX K c q) (ml:X.mg "isinstance" = none) (ha:PE X a (tD K ea)) (hb:PE X b (tC c)) (hg:Gl X "isinstance" := by rfl) (hs:starEach [a,b] X.env=[(false,eval a X.env),(false,eval b X.env)]:=by rfl) (hs2:starEach [b] X.env=[(false,eval b X.env)]:=by rfl) (hK:X.K=K:=by rfl) :
    PE X (.Call (.Name "isinstance" p) [a,b] [] pos) (tD K (v1 (zb1 q) ea)):=z0l (zud K ml ha hb hg hs hs2 hK) (z2v (by
  intro W x d z μ' Q ok r1 hf qq
  obtain ⟨cv,hcv,hq⟩:=hq
  unfold zb1 at hf
  split at hf
  · split at hf
    · rename_i C hk
      refine z05 hf fun b hb hf=>?_
      cases hf
      refine bq fun bG=>?_
      obtain ⟨a',rfl,hh⟩:=zmb ok hk r1
      obtain ⟨h1,h2⟩:=hq C b hb
      exact bG (⟨a',C,c,cv,b,rfl,hh,h1,zmf hcv,h2,qq _ W rfl ok .refl (.bl _)⟩)
    · cases hf
  · cases hf))
noncomputable def zb0 (qs:List (Addr→Option Bool)) (x:D) (μ:M):Option (D×M):=match x with
  | .ref k=>match μ[k]? with
    | some (some (.exc C))=>match qs with
      | []=>none
      | _::_=>(optAll (fun q=>q C) qs).bind fun bs=>some (.bl (bs.any id),μ)
    | _=>none
  | _=>none
inductive IsXs (K:PySem.W.Frag):List V→List (Addr→Option Bool)→Prop where
  | nil:IsXs K [] []
  | cons {c:V} {q:Addr→Option Bool} {cs:List V} {qs:List (Addr→Option Bool)}:IsX K c q→IsXs K cs qs→IsXs K (c::cs) (q::qs)
theorem zhn {C:Addr}:∀ {cs:List V} {qs:List (Addr→Option Bool)} {bs:List Bool},IsXs K cs qs→optAll (fun q=>q C) qs=some bs→∃ cvs,zt4 cs=some cvs∧PySem.W.kitAny K (.ref C) cvs=some (bs.any id)
  | _,_,_,.nil,e=>by cases e;exact ⟨[],rfl,rfl⟩
  | _,_,_,.cons ⟨cv,h1,h2⟩ t,e=>by
    refine z05 e fun b e1 e=>?_
    refine z05 e fun bs e2 e=>?_
    cases e
    refine bq fun bG=>?_
    obtain ⟨cvs,h3,h4⟩:=zhn t e2
    obtain ⟨_,h5⟩:=h2 C b e1
    refine bG (⟨cv::cvs,by simp [zt4,h1,h3],?_⟩)
    simp only [PySem.W.kitAny,h5]
    cases b with
    | true=>rfl
    | false=>simpa using h4
theorem zdu:∀ {cs:List V} {qs:List (Addr→Option Bool)},IsXs K cs qs→cs.length=qs.length
  | _,_,.nil=>rfl
  | _,_,.cons _ t=>by simp [zdu t]
theorem zms {cs:List V} {qs:List (Addr→Option Bool)} (hq:IsXs K cs qs) (ml:X.mg "isinstance" = none) {k:Nat} {tpos:Pos} (ha:PE X a (tD K ea)) (hb:PA X es (tCs cs)) (hl:qs.length≤100:=by simp) (hg:Gl X "isinstance" := by rfl)
    (hs:starEach [a,.Tuple es k tpos] X.env=[(false,eval a X.env),(false,eval (.Tuple es k tpos) X.env)]:=by rfl) (hs2:starEach [.Tuple es k tpos] X.env=[(false,eval (.Tuple es k tpos) X.env)]:=by rfl) (hK:X.K=K:=by rfl) :
    PE X (.Call (.Name "isinstance" p) [a,.Tuple es k tpos] [] pos) (tD K (v1 (zb0 qs) ea)):=by
  subst hK
  refine z0l (zsd X.K ml ha (zgy hb) hg hs hs2 rfl) (z2v ?_)
  intro W x d z μ' Q ok r1 hf qq
  refine ⟨z39 (by rw [zdu hq];omega),fun p hp=>?_⟩
  have ok2:=z1v (o:=.tup cs) ok hp
  have s2:=z0m (W:=W) (o:=.tup cs) hp
  unfold zb0 at hf
  split at hf
  · split at hf
    · rename_i C hk
      split at hf
      · cases hf
      · rename_i q0 qs0
        refine z05 hf fun bs hbs hf=>?_
        cases hf
        refine bq fun bG=>?_
        obtain ⟨cvs,h1,h2⟩:=zhn hq hbs
        obtain ⟨v1,v2⟩:=zid h1
        obtain ⟨a',rfl,hh⟩:=zmb (W:=W.lay p (.tup cs)) ok2 hk (r1.step ok s2)
        refine bG (⟨a',C,p,cs,cvs,_,rfl,hh,?_,z0k,v1,v2,h2,qq _ (W.lay p _) rfl ok2 s2 (.bl _)⟩)
        cases hq with
        | cons hq _ =>
          refine bq fun bG=>?_
          obtain ⟨cv,_,hq⟩:=hq
          refine z05 hbs fun b e1 _=>?_
          exact bG ((hq C b e1).1)
    · cases hf
  · cases hf
end
theorem zsl {X:Cx} {tg iter:Expr} {t:TI} (h:PI X.nox tg iter t):PI X tg iter t:=fun pins s σ H R I hw =>
  wpAny_mono (h pins s σ H R (I.wish _) hw) (fun v s1 z=>wpAny_mono z (fun itv s2 ⟨it,fp,tn,J,H2,e,I2,T,st2,f2,q⟩=>⟨it,fp,tn,J,H2,e,I2.unwish,T,st2,f2,q⟩) fun _ _ z=>False.elim z) fun _ _ z=>False.elim z
section
variable {X:Cx} {E:St→XK} {K:PySem.W.Frag} {e e2:Expr} {es:List Expr} {st:List Stmt} {pos p:Pos} {sv:SV}
theorem zl9 (h:PSs X.nox st (tDS K sv)):PSs X st (tXS K E (upS sv)):=z7x h.nox zfr
noncomputable def zsr:List EV→G→M→Option M
  | [],_,μ=>some μ
  | ea::r,Γ,μ=>(ea Γ μ).bind fun p=>match p.1 with
    | .int i=>if i.natAbs.log2<1920 then zsr r Γ p.2 else none
    | _=>none
def tJ (K:PySem.W.Frag) (l:List EV):St→Hp→(Hp→Prop)→Prop:=fun σ H Q=>∃ (W:Wd) (Γ:G) (μ':M),W.H=H∧Ok K W∧EnvR K W Γ σ∧zsr l Γ W.μ=some μ'∧∀ W',W'.μ=μ'→Ok K W'→Step W W'→Q W'.H
theorem zmj {t t':St→Hp→(Hp→Prop)→Prop} (h:PJ X es t) (hi:∀ σ H Q,t' σ H Q→t σ H Q):PJ X es t':=fun pins s σ H Q acc n a b I hw=>h pins s σ H Q acc n a b I (hi _ _ _ hw)
theorem pj0:PJ X [] (tJ K []):=zmj zqu fun σ H Q h=>by
  refine bq fun bG=>?_
  obtain ⟨W,Γ,μ',rfl,ok,en,e,q⟩:=h
  cases e
  exact bG (q W rfl ok .refl)
theorem ziw {x:Str} {j:Nat} {l:List EV} (hx:x.length≤2000) (hr:PJ X es (tJ K l)):PJ X (.Constant (.str x) j p::es) (tJ K l):=zqt hx hr
theorem znl {ea:EV} {l:List EV} (he:PE X e (tD K ea)) (hr:PJ X es (tJ K l)):PJ X (.FormattedValue e (-1) none p::es) (tJ K (ea::l)):=zmj (zqv he hr) fun σ H Q h=>by
  refine bq fun bG=>?_
  obtain ⟨W,Γ,μ',rfl,ok,en,e,q⟩:=h
  refine z05 e fun p1 e1 e=>?_
  refine bG (⟨W,Γ,p1.1,p1.2,rfl,ok,en,e1,fun v W1 hμ ok1 s1 r1=>?_⟩)
  split at e
  · rename_i i hi
    split at e
    · rename_i hl
      rw [hi] at r1
      cases r1
      exact ⟨i,rfl,hl,W1,Γ,μ',rfl,ok1,en.step ok s1,by rw [hμ];exact e,fun W2 hμ2 ok2 s2=>q W2 hμ2 ok2 (s1.trans s2)⟩
    · cases e
  · cases e
def ztg (K:PySem.W.Frag) (l:List EV):TE:=fun σ H Q=>∃ (W:Wd) (Γ:G) (μ':M),W.H=H∧Ok K W∧EnvR K W Γ σ∧zsr l Γ W.μ=some μ'∧∀ v W',W'.μ=μ'→Ok K W'→Step W W'→Q v W'.H
theorem zj6 {l:List EV} (h:PJ X (e::e2::es) (tJ K l)) (hl:(e::e2::es).length≤400:=by decide):PE X (.JoinedStr (e::e2::es) pos) (ztg K l):=z0l (znr h hl) fun σ H Q h=>by
  refine bq fun bG=>?_
  obtain ⟨W,Γ,μ',rfl,ok,en,e,q⟩:=h
  exact bG (⟨W,Γ,μ',rfl,ok,en,e,fun W' h1 h2 h3 z=>q _ W' h1 h2 h3⟩)
noncomputable def z4v (C:Addr) (l:List EV):SX:=fun Γ μ=>(zsr l Γ μ).bind fun μ'=>some (.ex C,Γ,μ')
theorem z5c {l:List EV} {x:Str} {C:Addr} {np cpos:Pos} (he:PE (X.fl E).nox e (ztg K l)) (hm:X.mg x=some (.ref C)) (hC:z3d X.K C) (hg:Gl X x:=by rfl) (hc:X.calm=true:=by rfl) (hd:(x==("__debug__" : Str))=false:=by decide)
    (hs:starEach [e] X.env=[(false,eval e X.env)]:=by rfl):PS (X.fl E) (.Raise (some (.Call (.Name x np) [e] [] cpos)) none pos) (tXS K E (z4v C l)):=z2j (zdl (te:=ztg K l) (PE.nox he) hg hm hC hc hd hs) fun D σ H h=>by
  refine el5 h fun W Γ o Γ' μ' eH ok en e q=>?_;subst eH
  refine z05 e fun μ1 e1 e=>?_
  cases e
  exact ⟨W,Γ,_,rfl,ok,en,e1,fun v W1 hμ ok1 s1=>q W1 σ hμ ok1 s1 (en.step ok s1)⟩
end
end L3
namespace L2
open PySem PySem.W PySem.Spec PySem.Calls PyProof.Rows PySem.SeqAt
noncomputable def zok:V→V→Option Bool
  | .int a,.int b=>some (a==b)
  | .bl a,.bl b=>some (a==b)
  | _,_=>none
noncomputable def zkx:Value→Value→Bool
  | .int a _,.int b _=>a==b
  | .bool a,.bool b=>a==b
  | _,_=>false
theorem zs6 {y x:V} {u k:Value} {b:Bool} (h:zok y x=some b) (r:RelV y u) (rk:RelV x k):zkx u k=b∧∀ A s,EqAt A s u k b:=by
  unfold zok at h
  split at h
  · cases h
    refine bq fun bG=>?_
    obtain ⟨t,rfl⟩:=r
    obtain ⟨t',rfl⟩:=rk
    exact bG (⟨rfl,fun A s=>(MeetsSeq.EqGives.int _ _ _ _).at _ _⟩)
  · cases h
    cases r
    cases rk
    exact ⟨rfl,fun A s=>EqAt.bool_bool _ _⟩
  · cases h
theorem zcw {x:V} {k:Value} (rk:RelV x k):∀ {xs:List V} {us:List Value} {bs:List Bool},Vals xs us→L3.optAll (fun y=>zok y x) xs=some bs→us.map (fun u=>zkx u k)=bs∧∀ u∈us,∀ A s,EqAt A s u k (zkx u k)
  | _,_,_,.nil,e=>by cases e;exact ⟨rfl,fun _ z=>nomatch z⟩
  | _,_,_,.cons r t,e=>by
    refine bq fun bG=>?_
    obtain ⟨b,e1,e⟩:=Option.bind_eq_some_iff.mp e
    obtain ⟨bs,e2,e⟩:=Option.bind_eq_some_iff.mp e
    cases e
    obtain ⟨h1,h2⟩:=zs6 e1 r rk
    obtain ⟨h3,h4⟩:=zcw rk t e2
    refine bG (⟨by rw [List.map_cons,h1,h3],fun u hu A s=>?_⟩)
    rcases List.mem_cons.mp hu with z | z
    · subst z;rw [h1];exact h2 A s
    · exact h4 u z A s
section
variable {X:Cx} {a o:Expr} {ta to:TE} {p pos:Pos}
def zgo:V→List V→Hp→VK→Prop:=fun x vs H Q=>∃ (l:Addr) (xs:List V) (k:V) (bs:List Bool),x=.ref l∧vs=[k]∧H l=some (.lst xs)∧L3.optAll (fun y=>zok y k) xs=some bs∧Q (.int (bs.countP id:Nat)) H
theorem zh5:MtM X "list.count" zgo:=by
  intro pins s σ H x vs v us Q I rx rv h
  refine bq fun bG=>?_
  obtain ⟨l,xs,k,bs,rfl,rfl,hH,hb,q⟩:=h
  cases rx
  obtain ⟨u,rfl,ru⟩:=rv.one
  obtain ⟨z,its,n,r,hl,e⟩:=I.lstM hH
  obtain ⟨h1,h2⟩:=zcw ru r hb
  refine bG (call_meets F.slot_list_count ⟨_,e,rfl⟩ F.entry_list_count (F.args_list_count_2 _ _) (list_countAt l its.toArray n none #[] u (fun y=>zkx y u)) ⟨e,fun y hy=>h2 y (by simpa using hy) _ _,?_⟩)
  refine ⟨.int _,H,I.tok _,⟨_,rfl⟩,?_⟩
  have ec:its.toArray.toList.countP (fun y=>zkx y u)=bs.countP id:=by rw [← h1,List.countP_map];rfl
  rw [ec]
  exact q
def zgn:V→List V→Hp→VK→Prop:=fun x vs H Q=>∃ (l:Addr) (xs:List V) (k:V) (bs:List Bool) (j:Nat),x=.ref l∧vs=[k]∧H l=some (.lst xs)∧L3.optAll (fun y=>zok y k) xs=some bs∧bs.findIdx? id=some j∧Q (.int (j:Nat)) H
theorem zh4:MtM X "list.index" zgn:=by
  intro pins s σ H x vs v us Q I rx rv h
  obtain ⟨l,xs,k,bs,j,rfl,rfl,hH,hb,hj,q⟩:=h
  cases rx
  obtain ⟨u,rfl,ru⟩:=rv.one
  obtain ⟨z,its,n,r,hl,e⟩:=I.lstM hH
  obtain ⟨h1,h2⟩:=zcw ru r hb
  have hlen:bs.length=its.length:=by rw [← h1];simp
  obtain ⟨hjl,hj1,hj2⟩:=List.findIdx?_eq_some_iff_getElem.mp hj
  have hval:∀ (m:Nat) (hm:m<its.toArray.size) (hm2:m<bs.length),zkx its.toArray[m] u=bs[m]:=fun m hm hm2=>by
    subst h1
    simp
  have hjs:j<its.toArray.size:=by simpa using hlen ▸ hjl
  refine call_meets F.slot_list_index ⟨_,e,rfl⟩ F.entry_list_index (F.args_list_index_2 _ _) (list_indexAt l its.toArray n none #[] u (fun y=>zkx y u) j hjs ?_ ?_ ?_) ⟨e,fun y hy=>h2 y (by simpa using hy) _ _,?_⟩
  · have:j<sizeLine:=by omega
    rw [sizeLine_eq] at this
    omega
  · show zkx its.toArray[j] u=true
    rw [hval j hjs hjl];exact hj1
  · intro m hm hlt
    show zkx its.toArray[m] u=false
    rw [hval m hm (by omega)]
    have:=hj2 m hlt
    simpa using this
  · exact ⟨.int _,H,I.tok _,⟨_,rfl⟩,q⟩
theorem zl1 (K:PySem.W.Frag) {apos:Pos} (ho:PE X o to) (ha:PE X a ta) (hs:starEach [a] X.env=[(false,eval a X.env)]:=by rfl)
    (hbase:attributeBase o "count" X.env (eval o X.env)=eval o X.env:=by rfl) (hline:(apos.endLine==pos.line)=true:=by rfl) (hK:X.K=K:=by rfl)
    (hfew:((backTo pos (starEach [a] X.env)).all (fun x=>!x.1)&&(backToKw pos (keywordEach [] X.env)).all (fun x=>x.1.isSome)
      && decide ([a].length+([]:List Keyword).length+(if ([]:List Keyword).isEmpty then 0 else 1)<30))=true:=by rfl) :
    PE X (.Call (.Attribute o "count" apos) [a] [] pos) (tBM K "list" zgo to (z5m ta zfw)):=by
  subst hK
  exact zkd PySem.F.plainAttrs_list PySem.F.slot_list_count PySem.F.type_list_count zh5 ho (z0n ha z16 hs) hbase hfew hline hs
theorem zl0 (K:PySem.W.Frag) {apos:Pos} (ho:PE X o to) (ha:PE X a ta) (hs:starEach [a] X.env=[(false,eval a X.env)]:=by rfl)
    (hbase:attributeBase o "index" X.env (eval o X.env)=eval o X.env:=by rfl) (hline:(apos.endLine==pos.line)=true:=by rfl) (hK:X.K=K:=by rfl)
    (hfew:((backTo pos (starEach [a] X.env)).all (fun x=>!x.1)&&(backToKw pos (keywordEach [] X.env)).all (fun x=>x.1.isSome)
      && decide ([a].length+([]:List Keyword).length+(if ([]:List Keyword).isEmpty then 0 else 1)<30))=true:=by rfl) :
    PE X (.Call (.Attribute o "index" apos) [a] [] pos) (tBM K "list" zgn to (z5m ta zfw)):=by
  subst hK
  exact zkd PySem.F.plainAttrs_list PySem.F.slot_list_index PySem.F.type_list_index zh4 ho (z0n ha z16 hs) hbase hfew hline hs
end
end L2
namespace L3
open PySem PySem.Spec L2
section
variable {X:Cx} {K:PySem.W.Frag} {a:Expr} {ea:EV} {p pos:Pos}
noncomputable def zpc:D→D→Option Bool
  | .int a,.int b=>some (a==b)
  | .bl a,.bl b=>some (a==b)
  | _,_=>none
theorem zol {W:Wd} {d e:D} {v u:V} {b:Bool} (h:zpc d e=some b) (r:DR K W d v) (r2:DR K W e u):zok v u=some b:=by
  unfold zpc at h
  split at h
  · cases r;cases r2;exact h
  · cases r;cases r2;exact h
  · cases h
theorem z9s {W:Wd} {e:D} {u:V} (r2:DR K W e u):∀ {ds:List D} {vs:List V} {bs:List Bool},DRs K W ds vs→optAll (fun y=>zpc y e) ds=some bs→optAll (fun y=>zok y u) vs=some bs
  | _,_,_,.nil,h=>h
  | _,_,_,.cons r t,h=>by
    refine z05 h fun b e1 h=>?_
    refine z05 h fun bs e2 h=>?_
    cases h
    simp only [optAll,zol e1 r r2,z9s r2 t e2,Option.bind_some]
noncomputable def z5h (x y:D) (μ:M):Option (D×M):=(zeg μ x).bind fun ds=>(optAll (fun d=>zpc d y) ds).bind fun bs=>some (.int (bs.countP id:Nat),μ)
noncomputable def zi0 (x y:D) (μ:M):Option (D×M):=(zeg μ x).bind fun ds=>(optAll (fun d=>zpc d y) ds).bind fun bs=>(bs.findIdx? id).bind fun j=>some (.int (j:Nat),μ)
theorem zfn {o:Expr} {eo:EV} {apos:Pos} (ho:PE X o (tD K eo)) (ha:PE X a (tD K ea)) (hs:starEach [a] X.env=[(false,eval a X.env)]:=by rfl)
    (hbase:attributeBase o "count" X.env (eval o X.env)=eval o X.env:=by rfl) (hline:(apos.endLine==pos.line)=true:=by rfl) (hK:X.K=K:=by rfl)
    (hfew:((backTo pos (starEach [a] X.env)).all (fun x=>!x.1)&&(backToKw pos (keywordEach [] X.env)).all (fun x=>x.1.isSome)
      && decide ([a].length+([]:List Keyword).length+(if ([]:List Keyword).isEmpty then 0 else 1)<30))=true:=by rfl) :
    PE X (.Call (.Attribute o "count" apos) [a] [] pos) (tD K (v2l z5h eo ea)):=z0l (zl1 K ho ha hs hbase hline hK hfew) (zfx (by
  intro W x y d e z μ' Q ok r1 r2 hf q
  refine z05 hf fun ds h1 hf=>?_
  refine z05 hf fun bs h2 hf=>?_
  cases hf
  obtain ⟨a,vs,rfl,hh,hs⟩:=z6s ok h1 r1
  exact ⟨a,vs,y,bs,rfl,rfl,hh,z9s r2 hs h2,q _ W rfl ok .refl (.int _)⟩))
theorem zmt {o:Expr} {eo:EV} {apos:Pos} (ho:PE X o (tD K eo)) (ha:PE X a (tD K ea)) (hs:starEach [a] X.env=[(false,eval a X.env)]:=by rfl)
    (hbase:attributeBase o "index" X.env (eval o X.env)=eval o X.env:=by rfl) (hline:(apos.endLine==pos.line)=true:=by rfl) (hK:X.K=K:=by rfl)
    (hfew:((backTo pos (starEach [a] X.env)).all (fun x=>!x.1)&&(backToKw pos (keywordEach [] X.env)).all (fun x=>x.1.isSome)
      && decide ([a].length+([]:List Keyword).length+(if ([]:List Keyword).isEmpty then 0 else 1)<30))=true:=by rfl) :
    PE X (.Call (.Attribute o "index" apos) [a] [] pos) (tD K (v2l zi0 eo ea)):=z0l (zl0 K ho ha hs hbase hline hK hfew) (zfx (by
  intro W x y d e z μ' Q ok r1 r2 hf q
  refine z05 hf fun ds h1 hf=>?_
  refine z05 hf fun bs h2 hf=>?_
  refine z05 hf fun j h3 hf=>?_
  cases hf
  obtain ⟨a,vs,rfl,hh,hs⟩:=z6s ok h1 r1
  exact ⟨a,vs,y,bs,j,rfl,rfl,hh,z9s r2 hs h2,h3,q _ W rfl ok .refl (.int _)⟩))
end
class Enc (α:Type) where
  d:α→D
  p:α→PyData
  k:Nat
  py_eq:∀ (a:α) (μ:M) (n:Nat),k<n→py n μ (d a)=some (p a)
  lay:∀ a,(p a).canLay0=true
  dep:∀ a,(p a).depth≤k
  eqv:∀ a b,PyData.eqv (p a) (p b)=true↔a=b
noncomputable instance encInt:Enc Int where
  d i:=.int i
  p i:=.int i
  k:=0
  py_eq a μ n h:=by cases n with | zero=>omega | succ n=>rfl
  lay a:=rfl
  dep a:=by simp [PyData.depth]
  eqv a b:=by simp [PyData.eqv]
noncomputable instance encBool:Enc Bool where
  d i:=.bl i
  p i:=.bool i
  k:=0
  py_eq a μ n h:=by cases n with | zero=>omega | succ n=>rfl
  lay a:=rfl
  dep a:=by simp [PyData.depth]
  eqv a b:=by cases a <;> cases b <;> simp [PyData.eqv]
section
variable {α β γ:Type} [Enc α] [Enc β] [Enc γ]
theorem z9u {μ:M} {n:Nat} (h:Enc.k α<n):∀ l:List α,optAll (py n μ) (l.map Enc.d)=some (l.map Enc.p)
  | []=>rfl
  | a::r=>by simp only [List.map_cons,optAll,Enc.py_eq a μ n h,z9u h r,Option.bind_some]
theorem zhb:∀ l:List α,PyData.canLayAll0 (l.map Enc.p)=true
  | []=>rfl
  | a::r=>by simp only [List.map_cons,PyData.canLayAll0,Enc.lay a,zhb r,Bool.and_self]
theorem zi7:∀ l:List α,PyData.depthAll (l.map Enc.p)≤Enc.k α
  | []=>by simp [PyData.depthAll]
  | a::r=>by
    have h1:=Enc.dep a
    have h2:=zi7 r
    simp only [List.map_cons,PyData.depthAll]
    omega
theorem zi5:∀ l m:List α,PyData.eqvAll (l.map Enc.p) (m.map Enc.p)=true↔l=m
  | [],[]=>by simp [PyData.eqvAll]
  | [],_::_=>by simp [PyData.eqvAll]
  | _::_,[]=>by simp [PyData.eqvAll]
  | a::r,b::s=>by
    have h1:=Enc.eqv a b
    have h2:=zi5 r s
    simp only [List.map_cons,PyData.eqvAll,Bool.and_eq_true,h1,h2,List.cons.injEq]
noncomputable instance encList:Enc (List α) where
  d l:=.lst (l.map Enc.d)
  p l:=.list (l.map Enc.p)
  k:=Enc.k α+1
  py_eq l μ n h:=by
    cases n with
    | zero=>omega
    | succ n=>rw [zqm,z9u (by omega)];rfl
  lay l:=by simp only [PyData.canLay0];exact zhb l
  dep l:=by
    have:=zi7 l
    simp only [PyData.depth];omega
  eqv l m:=by simp only [PyData.eqv];exact zi5 l m
structure Tri (α β γ:Type) where
  a:α
  b:β
  c:γ
  deriving DecidableEq
noncomputable instance encTri:Enc (Tri α β γ) where
  d t:=.tup [Enc.d t.a,Enc.d t.b,Enc.d t.c]
  p t:=.tuple [Enc.p t.a,Enc.p t.b,Enc.p t.c]
  k:=max (Enc.k α) (max (Enc.k β) (Enc.k γ))+1
  py_eq a μ n h:=by
    cases n with
    | zero=>exact absurd h (Nat.not_lt_zero _)
    | succ n =>
      have h:=Nat.lt_of_succ_lt_succ h
      have h1:=Nat.lt_of_le_of_lt (Nat.le_max_left (Enc.k α) _) h
      have h0:=Nat.lt_of_le_of_lt (Nat.le_max_right (Enc.k α) _) h
      have h2:=Nat.lt_of_le_of_lt (Nat.le_max_left (Enc.k β) _) h0
      have h3:=Nat.lt_of_le_of_lt (Nat.le_max_right (Enc.k β) _) h0
      rw [zqj,optAll,Enc.py_eq a.a μ n h1,bs,optAll,Enc.py_eq a.b μ n h2,bs,optAll,Enc.py_eq a.c μ n h3]
      rfl
  lay a:=by
    show ((Enc.p a.a).canLay0&&((Enc.p a.b).canLay0&&((Enc.p a.c).canLay0&&true)))=true
    rw [Enc.lay,Enc.lay,Enc.lay];rfl
  dep a:=Nat.succ_le_succ (Nat.max_le.mpr ⟨Nat.le_trans (Enc.dep a.a) (Nat.le_max_left _ _),Nat.max_le.mpr ⟨Nat.le_trans (Enc.dep a.b) (Nat.le_trans (Nat.le_max_left _ _) (Nat.le_max_right _ _)),Nat.max_le.mpr ⟨Nat.le_trans (Enc.dep a.c) (Nat.le_trans (Nat.le_max_right _ _) (Nat.le_max_right _ _)),Nat.zero_le _⟩⟩⟩)
  eqv a b:=by
    obtain ⟨a1,a2,a3⟩:=a
    obtain ⟨b1,b2,b3⟩:=b
    show (PyData.eqv (Enc.p a1) (Enc.p b1)&&(PyData.eqv (Enc.p a2) (Enc.p b2)&&(PyData.eqv (Enc.p a3) (Enc.p b3)&&true)))=true↔_
    rw [Bool.and_true,Bool.and_eq_true,Bool.and_eq_true,Enc.eqv,Enc.eqv,Enc.eqv,Tri.mk.injEq]
end
section
variable {μ:M} {x y:D} {a b:PyData}
noncomputable def isInt:D→Bool
  | .int _=>true
  | _=>false
noncomputable def zey:D→Bool
  | .str _=>true
  | _=>false
theorem zs7 (h:(isInt x&&isInt y)=false) (h2:(zey x&&zey y)=false):eqD x y μ=(py 65 μ x).bind fun d=>(py 65 μ y).bind fun e=>if (d.canLay0&&e.canLay0&&decide (d.depth≤64))=true then some (PyData.eqv d e) else none:=by
  cases x <;> cases y <;> first | rfl | (simp [isInt] at h;done) | (simp [zey] at h2;done)
def Rds (μ:M) (x:D) (α:Type) [Enc α] (a:α):Prop:=py 65 μ x=some (Enc.p a)
variable {α:Type} [Enc α] [DecidableEq α] {s t:α}
theorem zcx (hk:Enc.k α≤64) (h1:Rds μ x α s) (h2:Rds μ y α t) (h:(isInt x&&isInt y)=false) (h':(zey x&&zey y)=false):eqD x y μ=some (decide (s=t)):=by
  rw [zs7 h h',h1,h2]
  have l1:=Enc.lay s
  have l2:=Enc.lay t
  have l3:=Enc.dep s
  simp only [Option.bind_some,l1,l2,Bool.and_self,Bool.true_and]
  rw [if_pos (by simp;omega)]
  congr 1
  have:=Enc.eqv s t
  by_cases e:s=t
  · rw [this.mpr e,decide_eq_true e]
  · rw [decide_eq_false e]
    cases hq:PyData.eqv (Enc.p s) (Enc.p t) with
    | false=>rfl
    | true=>exact absurd (this.mp hq) e
end
theorem zjz {α:Type} [Enc α] {μ:M} (hk:Enc.k α≤64) (a:α):Rds μ (Enc.d a) α a:=Enc.py_eq a μ 65 (by omega)
theorem zql {n:Nat} {μ:M} {k:Nat} {ds:List D} (h:μ[k]?=some (some (.lst ds))):py (n+1) μ (.ref k)=(optAll (py n μ) ds).bind fun ys=>some (.list ys):=by
  simp only [py,h]
theorem zqk {n:Nat} {μ:M} {ds:List D}:py (n+1) μ (.scr ds)=(optAll (py n μ) ds).bind fun ys=>some (.list ys):=rfl
theorem zgi {α:Type} [Enc α] {μ:M} {k:Nat} {l:List α} (hk:Enc.k α≤63) (h:μ[k]?=some (some (.lst (l.map Enc.d)))):Rds μ (.ref k) (List α) l:=by
  unfold Rds
  rw [zql h,z9u (by omega)];rfl
theorem zky {α:Type} [Enc α] [DecidableEq α] {μ:M} {k:Nat} {l m:List α} (hk:Enc.k α≤63) (h:μ[k]?=some (some (.lst (l.map Enc.d)))):eqD (.ref k) (.lst (m.map Enc.d)) μ=some (decide (l=m)) :=
  zcx (α:=List α) (by show Enc.k α+1≤64;omega) (zgi hk h) (zjz (α:=List α) (by show Enc.k α+1≤64;omega) m) rfl rfl
theorem zom {α:Type} [Enc α] [DecidableEq α] {μ:M} {l m:List α} (hk:Enc.k α≤63):eqD (.lst (l.map Enc.d)) (.lst (m.map Enc.d)) μ=some (decide (l=m)) :=
  zcx (α:=List α) (by show Enc.k α+1≤64;omega) (zjz (α:=List α) (by show Enc.k α+1≤64;omega) l) (zjz (α:=List α) (by show Enc.k α+1≤64;omega) m) rfl rfl
section
variable {Γ:G} {μ:M}
theorem zjg {ev:BV} {b:Bool} {μ1:M} (h:ev Γ μ=some (b,μ1)):upB ev Γ μ=some (.ok b,μ1):=by unfold upB;rw [h];rfl
theorem z7z {ev:LV} {ds:List D} {μ1:M} (h:ev Γ μ=some (ds,μ1)):upL ev Γ μ=some (.ok ds,μ1):=by unfold upL;rw [h];rfl
theorem zbw {es:SV} {o:Out} {Γ1:G} {μ1:M} (h:es Γ μ=some (o,Γ1,μ1)):upS es Γ μ=some (upO o,Γ1,μ1):=by unfold upS;rw [h];rfl
theorem z6z {a b:SX} {Γ1:G} {μ1:M} (h:a Γ μ=some (.nx,Γ1,μ1)):z4f a b Γ μ=b Γ1 μ1:=by unfold z4f;rw [h];rfl
theorem zn5 {a b:SX} {C:Addr} {Γ1:G} {μ1:M} (h:a Γ μ=some (.ex C,Γ1,μ1)):z4f a b Γ μ=some (.ex C,Γ1,μ1):=by unfold z4f;rw [h];rfl
theorem zu6 {t:BX} {a b:SX} {μ1:M} (h:t Γ μ=some (.ok true,μ1)):zde t a b Γ μ=a Γ μ1:=by unfold zde;rw [h];rfl
theorem zhr {t:BX} {a b:SX} {μ1:M} (h:t Γ μ=some (.ok false,μ1)):zde t a b Γ μ=b Γ μ1:=by unfold zde;rw [h];rfl
theorem zna {ea:EV} {C:Addr} {d:D} {μ1:M} (h:ea Γ μ=some (d,μ1)):zdd C ea Γ μ=some (.ex C,Γ,μ1):=by unfold zdd;rw [h];rfl
theorem z6u {f:FX} {el:LX} {ds:List D} {μ1:M} (h:el Γ μ=some (.ok ds,μ1)):vLX f el Γ μ=f ds μ1:=by unfold vLX;rw [h];rfl
theorem zsi {ea:EX} {i:Nat} {d:D} {μ1:M} (h:ea Γ μ=some (.ok d,μ1)):zah ea (z00 i) Γ μ=some (.nx,Γ.set i (some d),μ1):=by unfold zah;rw [h];rfl
theorem zsj {ea:EX} {g:GV} {C:Addr} {μ1:M} (h:ea Γ μ=some (.ex C,μ1)):zah ea g Γ μ=some (.ex C,Γ,μ1):=by unfold zah;rw [h];rfl
theorem zi1 {ea:EX} {d:D} {μ1:M} (h:ea Γ μ=some (.ok d,μ1)):z71 ea Γ μ=some (.nx,Γ,μ1):=by unfold z71;rw [h];rfl
theorem zoh {ea:EX} {C:Addr} {μ1:M} (h:ea Γ μ=some (.ex C,μ1)):z71 ea Γ μ=some (.ex C,Γ,μ1):=by unfold z71;rw [h];rfl
theorem zlr {ea:EX} {d:D} {μ1:M} (h:ea Γ μ=some (.ok d,μ1)):z93 ea Γ μ=some (.rt d,Γ,μ1):=by unfold z93;rw [h];rfl
theorem zq5 {ea:EX} {C:Addr} {μ1:M} (h:ea Γ μ=some (.ex C,μ1)):z93 ea Γ μ=some (.ex C,Γ,μ1):=by unfold z93;rw [h];rfl
theorem zpq {cs:List Addr} {i:Nat} {b:SX} {s:SV} {Γ1:G} {μ1:M} (h:b Γ μ=some (.nx,Γ1,μ1)):zlq cs i b s Γ μ=some (.nx,Γ1,μ1):=by unfold zlq;rw [h];rfl
theorem zpr {cs:List Addr} {i:Nat} {b:SX} {s:SV} {C:Addr} {Γ1 Γ2:G} {μ1 μ2:M} {o:Out} (h:b Γ μ=some (.ex C,Γ1,μ1)) (hc:C∈cs) (h2:s (Γ1.set i (some (.ref μ1.length))) (μ1++[some (.exc C)])=some (o,Γ2,μ2)):zlq cs i b s Γ μ=some (o,Γ2.set i none,μ2):=by
  unfold zlq;rw [h]
  show (if C∈cs then _ else none)=_
  rw [if_pos hc,h2];rfl
theorem z94 {n m:Nat} {es:SX} {ds:List D} {d:D} {Γ1:G} {μ1:M} (hl:ds.length=m) (h:es (ds.map some++List.replicate (n - ds.length) none) μ=some (.rt d,Γ1,μ1)):zc4 n m es ds μ=some (.ok d,μ1):=by
  unfold zc4;rw [if_pos hl,h];rfl
theorem zgh {n m:Nat} {es:SX} {ds:List D} {Γ1:G} {μ1:M} (hl:ds.length=m) (h:es (ds.map some++List.replicate (n - ds.length) none) μ=some (.nx,Γ1,μ1)):zc4 n m es ds μ=some (.ok .non,μ1):=by
  unfold zc4;rw [if_pos hl,h];rfl
theorem zc3 {n m:Nat} {es:SX} {ds:List D} {C:Addr} {Γ1:G} {μ1:M} (hl:ds.length=m) (h:es (ds.map some++List.replicate (n - ds.length) none) μ=some (.ex C,Γ1,μ1)):zc4 n m es ds μ=some (.ex C,μ1):=by
  unfold zc4;rw [if_pos hl,h];rfl
end
structure Gr (μ μ':M):Prop where
  len:μ.length≤μ'.length
  at_:∀ j,j<μ.length→μ'[j]?=μ[j]?
theorem Gr.refl {μ:M}:Gr μ μ:=⟨Nat.le_refl _,fun _ _=>rfl⟩
theorem Gr.trans {μ μ1 μ2:M} (h:Gr μ μ1) (g:Gr μ1 μ2):Gr μ μ2:=⟨Nat.le_trans h.len g.len,fun j hj=>(g.at_ j (Nat.lt_of_lt_of_le hj h.len)).trans (h.at_ j hj)⟩
theorem Gr.get {j:Nat} {μ μ':M} {o:Option O} (h:Gr μ μ') (e:μ[j]?=some o):μ'[j]?=some o:=(h.at_ j (List.getElem?_eq_some_iff.mp e).1).trans e
theorem gr_app {μ ex:M}:Gr μ (μ++ex):=⟨by simp,fun j hj=>List.getElem?_append_left hj⟩
open Classical in
noncomputable def qOf (K:PySem.W.Frag) (cv:Value) (C:Addr):Option Bool:=if ExcIn K C then PySem.W.kitOne K (.ref C) cv else none
theorem z9h {K:PySem.W.Frag} {c:V} {cv:Value} (h:clV c=some cv):IsX K c (qOf K cv):=⟨cv,h,fun C b e=>by
  unfold qOf at e
  split at e
  · rename_i hC;exact ⟨hC,e⟩
  · cases e⟩
theorem z5o {K:PySem.W.Frag} {cv:Value} {C:Addr} {b:Bool} (h:ExcIn K C) (k:PySem.W.kitOne K (.ref C) cv=some b):qOf K cv C=some b:=by unfold qOf;rw [if_pos h];exact k
theorem zi2 {K:PySem.W.Frag} {C T:Addr} {cd:ClassData} (h1:PySem.W.subIn K (.ref T) (.type "BaseException")=some true) (h2:PySem.W.clsIn K T=some cd) (h3:PySem.W.typeIn K (.ref T)=some (.type "type")) (h4:PySem.W.subIn K (.ref C) (.ref T)=some true):PySem.W.exmOne K (.ref C) (.ref T)=some true:=by
  unfold PySem.W.exmOne PySem.W.kitCls
  rw [h1]
  simp only [h2,h3,h4,Option.isSome_some,Bool.true_and,beq_self_eq_true,if_true]
end L3
namespace L2
open PySem PySem.Spec PyProof.Rows
end L2
namespace L3
open PySem PySem.Spec L2
section
variable {K:PySem.W.Frag} {W:Wd}
end
section
variable {X:Cx} {K:PySem.W.Frag} {o e value:Expr} {es:List Expr} {f m:Str} {pos pos' tpos apos p:Pos} {eo ev:EV} {el:LV} {C:Addr}
end
noncomputable def dn (f:FX):List D→M→Option (D×M):=fun ds μ=>(f ds μ).bind fun p=>match p.1 with
  | .ok d=>some (d,p.2)
  | .ex _=>none
section
variable {P:Program} {w:World} {K:PySem.W.Frag} {mg:Str→Option Value} {base:Heap} {k:Nat} {f:Addr} {fd:FuncData} {ps:List Str} {g:FX}
end
section
variable {X:Cx} {E:St→XK} {K:PySem.W.Frag} {o e:Expr} {es:List Expr} {m:Str} {pos apos:Pos} {eo:EX} {el:LX} {C:Addr} {g:FX} {k:Nat} {ps:List Str}
end
end L3
namespace L2
open PySem PySem.W PySem.Spec PyProof.Rows
section
variable {X:Cx} {a o:Expr} {ta to:TE} {p pos:Pos}
theorem zjj {ms ns:List Int} (h1:ms.Perm ns) (h2:ms.Pairwise (·≤·)):ms=ns.mergeSort (fun a b=>decide (a≤b)):=by
  have h3:(ns.mergeSort (fun a b=>decide (a≤b))).Pairwise (fun a b=>decide (a≤b)=true):=List.pairwise_mergeSort (fun a b c=>by simp;omega) (fun a b=>by simp;omega) ns
  have h3:(ns.mergeSort (fun a b=>decide (a≤b))).Pairwise (fun a b:Int=>a≤b):=h3.imp fun h=>by simpa using h
  exact List.Perm.eq_of_pairwise (le:=fun a b:Int=>a≤b) (fun a b _ _ h h'=>Int.le_antisymm h h') h2 h3 (h1.trans (List.mergeSort_perm ns _).symm)
theorem zbd:z3u X (.builtin "sorted") (fun xs H Q=>∃ (p:Addr) (ns:List Int),xs=[.ref p]∧SqL X.K H p (ns.map V.int)∧ns.length<64∧∀ (l:Addr),H l=none→Q (.ref l) (upd H l (.lst ((ns.mergeSort (fun a b=>decide (a≤b))).map V.int)))):=by
  intro pins s σ H xs us Q I r h
  refine bq fun bG=>?_
  obtain ⟨p,ns,rfl,hq,h64,q⟩:=h
  obtain ⟨u,rfl,ru⟩:=z67 r
  cases ru
  obtain ⟨its,rv,pl,hz⟩:=I.list hq
  have hl:=rv.length
  simp only [List.length_map] at hl
  refine bG (sorted_ints pl.isList (z4b rv) (by omega) fun out ms hm hp ho=>?_)
  obtain ⟨e,he⟩:=sortedAll_at s.heap its out
  have hb:H (s.heap.objs.size+1)=none:=I.hok.fresh (Nat.le_succ _)
  have em:=zjj hp ho
  refine ⟨.ref (s.heap.objs.size+1),_,I.laid (t':=s.toks) (a:=s.heap.objs.size+1) (o:=.lst (ms.map V.int)) (fun b o hb=>sortedAll_old hb) (Nat.le_succ _) ?_,rfl,by rw [em];exact q _ hb⟩
  refine ⟨by rw [List.length_map,hp.length_eq];rw [List.length_map] at hz;exact hz,out.toList,e,z6t hm,?_⟩
  exact he
theorem zs9 (K:PySem.W.Frag) (mm:X.mg "sorted" = none) (ha:PE X a ta) (hg:Gl X "sorted" := by rfl) (hs:starEach [a] X.env=[(false,eval a X.env)]:=by rfl) (hK:X.K=K:=by rfl) :
    PE X (.Call (.Name "sorted" p) [a] [] pos) (fun σ H Q=>ta σ H fun x H1=>∃ (q:Addr) (ns:List Int),[x]=[.ref q]∧SqL K H1 q (ns.map V.int)∧ns.length<64∧∀ l,H1 l=none→Q (.ref l) (upd H1 l (.lst ((ns.mergeSort (fun a b=>decide (a≤b))).map V.int)))):=by
  subst hK
  exact z1u zbd hg mm rfl (z0n ha z16 hs) (he:=hs)
end
end L2
namespace L3
open PySem PySem.Spec L2
section
variable {X:Cx} {K:PySem.W.Frag} {a b o:Expr} {ea eb eo:EV} {p pos apos:Pos}
noncomputable def zel (ns:List Int):List Int:=ns.mergeSort (fun a b=>decide (a≤b))
noncomputable def z9n (x:D) (μ:M):Option (D×M):=(z2h μ x).bind fun ds=>(optAll inI ds).bind fun ns=>if ns.length<64 then some (.lst ((zel ns).map D.int),μ) else none
theorem zj4 (mm:X.mg "sorted" = none) (ha:PE X a (tD K ea)) (hg:Gl X "sorted" := by rfl) (hs:starEach [a] X.env=[(false,eval a X.env)]:=by rfl) (hK:X.K=K:=by rfl):PE X (.Call (.Name "sorted" p) [a] [] pos) (tD K (v1 z9n ea)):=z0l (zs9 K mm ha hg hs hK) (z2v (by
  intro W x d z μ' Q ok r1 hf q
  refine z05 hf fun ds h1 hf=>?_
  refine z05 hf fun ns h2 hf=>?_
  split at hf
  · rename_i h64
    cases hf
    obtain ⟨a,vs,rfl,hs,hv⟩:=z2x ok h1 r1
    have:=z7e h2 hv
    subst this
    exact ⟨a,ns,rfl,hs,h64,fun p hp=>q _ (W.lay p _) rfl (z1v ok hp) (z0m hp) (z64 ok hp (z6p _))⟩
  · cases hf))
end
end L3
namespace L2
open PySem PySem.W PySem.Spec PyProof.Rows
section
variable {prog:Program} {w:World} {A:Around} {R:Result→Shared→Prop} {I:Addr} {fp wr:List Addr} {n:Nat} {P:Nat→Value→Prop} {St:Nat→Heap→Prop}
end
section
variable {prog:Program} {w:World} {A:Around} {E:Value→Shared→Prop} {s:Shared}
end
section
variable {X:Cx} {a b:Expr} {ta tb:TE} {p pos:Pos}
end
end L2
namespace L3
open PySem PySem.Spec L2
section
variable {X:Cx} {K:PySem.W.Frag} {a b:Expr} {ea eb:EV} {p pos:Pos}
end
section
variable {K:PySem.W.Frag} {W W1 W':Wd} {p:Addr} {x:O} {h:Addr→Prop}
end
section
variable {X:Cx} {K:PySem.W.Frag} {N' own:List Str} {cap:List (Str×Nat)} {scope:Scope} {tg iter elt:Expr} {ifs:List Expr} {pos:Pos} {iv:IV} {g:GV} {tc:BV} {te:EV}
end
end L3
namespace L2
open PySem PySem.W PySem.Spec PyProof.Rows
section
variable {X:Cx} {k:Nat} {x:Str} {ps:List Str} {sp:Sp} {e:Expr} {es:List Expr} {t:TA} {p pos:Pos} {f:Addr} {fd:FuncData}
end
end L2
namespace L3
open PySem PySem.Spec L2
open PyProof.Rows (envOfC)
section
variable {P:Program} {w:World} {K:PySem.W.Frag} {mg:Str→Option Value} {base:Heap}
end
section
variable {X:Cx} {K:PySem.W.Frag} {e:Expr} {es:List Expr} {p pos:Pos}
end
end L3
namespace L2
open PySem PyProof.Rows
section
open PySem.SeqAt
open PySem.AutoSeq1 (wpAny_loadPart')
open PySem.MeetsSeq PySem.MeetsSeq2 PySem.MeetsSeq3
end
end L2
namespace L3
open PySem PySem.Spec L2
section
variable {X:Cx} {K:PySem.W.Frag} {a b:Expr} {ea eb:EV} {pos p p2 pos2:Pos} {k:Nat} {P:Program} {w:World} {mg:Str→Option Value} {base:Heap}
noncomputable def z54 (x:D) (μ:M):Option (D×M):=(z2h μ x).bind fun ds=>(optAll inI ds).bind fun ns=>if ns.length≤4000 then some (.int (z4h ns),μ) else none
theorem zj7 (ml:X.mg "len" = none) (ms:X.mg "set" = none) (ha:PE X a (tD K ea)) (hc:X.calm=true:=by rfl) (hg:Gl X "set" := by rfl) (hg2:Gl X "len" := by rfl) (hs:starEach [a] X.env=[(false,eval a X.env)]:=by rfl)
    (hs2:starEach [.Call (.Name "set" p2) [a] [] pos2] X.env=[(false,eval (.Call (.Name "set" p2) [a] [] pos2) X.env)]:=by rfl) (hK:X.K=K:=by rfl) :
    PE X (.Call (.Name "len" p) [.Call (.Name "set" p2) [a] [] pos2] [] pos) (tD K (v1 z54 ea)):=z0l (zuc ml (zvl K ms ha hc hg hs hK) hg2 hs2) (z2v (r:=fun x H1 Q=>∃ (q:Addr) (ns:List Int),[x]=[.ref q]∧SqL K H1 q (ns.map V.int)∧ns.length≤4000∧∀ d,H1 d=none→∃ (d':Addr) (S:Int→Bool) (n:Nat),[V.ref d]=[.ref d']∧(upd H1 d (.set (zcy ns) (z4h ns))) d'=some (.set S n)∧Q (.int (n:Int)) (upd H1 d (.set (zcy ns) (z4h ns)))) (by
  intro W x d z μ' Q ok r1 hf q
  refine z05 hf fun ds h1 hf=>?_
  refine z05 hf fun ns h2 hf=>?_
  split at hf
  · rename_i hl
    cases hf
    obtain ⟨a,vs,rfl,hs,hv⟩:=z2x ok h1 r1
    have:=z7e h2 hv
    subst this
    exact ⟨a,ns,rfl,hs,hl,fun d hd=>⟨d,zcy ns,z4h ns,rfl,by simp [upd],q _ (W.lay d (.set (zcy ns) (z4h ns))) rfl (z1v ok hd) (z0m hd) (.int _)⟩⟩
  · cases hf))
end
end L3
namespace L2
open PySem PySem.Spec PyProof.Rows
theorem slot_long_next:Slot "longrange_iterator" "__next__" "longrange_iterator.__next__" :=
  .of (owner := "longrange_iterator") (n := "__next__") (by rw [typeLookup_type,builtinLookup_eq_fast];kernel_rfl) (by decide +kernel) (by decide +kernel) (by decide +kernel)
    (by first | exact .inl (by decide +kernel) | exact .inr (by decide +kernel)) (by rw [isSubtype_type];kernel_rfl)
theorem z7m:entryFor table "longrange_iterator.__next__" = some Builtin.«longrange_iterator.__next__»:=entryFor_of_tree (by kernel_rfl)
theorem z8k:Manifest.owners.lookup (String.ofList ['r','o','t','a','r','e','t','i','_','e','g','n','a','r','g','n','o','l'].reverse)=some Manifest.sig_longrange_iterator:=by kernel_rfl
theorem z6d (a:Value):argsOk "longrange_iterator.__next__" ⟨[a],[]⟩:=by
  unfold argsOk;rw [signature?_of (id := "longrange_iterator.__next__") (n:=['_','_','t','x','e','n','_','_']) (o:=['r','o','t','a','r','e','t','i','_','e','g','n','a','r','g','n','o','l']) (by kernel_rfl) z8k];kernel_rfl
theorem z4l:Slot "longrange_iterator" "__iter__" "longrange_iterator.__iter__" :=
  .of (owner := "longrange_iterator") (n := "__iter__") (by rw [typeLookup_type,builtinLookup_eq_fast];kernel_rfl) (by decide +kernel) (by decide +kernel) (by decide +kernel)
    (by first | exact .inl (by decide +kernel) | exact .inr (by decide +kernel)) (by rw [isSubtype_type];kernel_rfl)
theorem z6e (a:Value):argsOk "longrange_iterator.__iter__" ⟨[a],[]⟩:=by
  unfold argsOk;rw [signature?_of (id := "longrange_iterator.__iter__") (n:=['_','_','r','e','t','i','_','_']) (o:=['r','o','t','a','r','e','t','i','_','e','g','n','a','r','g','n','o','l']) (by kernel_rfl) z8k];kernel_rfl
theorem z7n:entryFor table "longrange_iterator.__iter__" = some Builtin.«dict_keyiterator.__iter__» :=
  entryFor_alias (id' := "dict_keyiterator.__iter__") (by kernel_rfl) (by first | rfl | decide +kernel | (unfold String.splitOn;simp +decide [String.splitOnAux])) (by decide +kernel) (by kernel_rfl)
def ziv (h:Heap) (it:Addr):Prop:=h.get? it=some { cls:=.type "longrange_iterator",dict:=none,data:=.fields #[rawInt 0,rawInt 0,rawInt 1],slots:=#[] }
section
variable {prog:Program} {w:World} {A:Around} {E:Value→Shared→Prop} {s:Shared}
theorem z5l {r:Addr} {b:Int} {t u v:Tok} {Q:Value→Shared→Prop} (hr:IsRange s.heap r 0 b 1 t u v) (hb:b < -(2 ^ 62)) (hsmall:Builtin.Range.small 0 b 1=false)
    (hQ:Q (.ref s.heap.objs.size) { s with heap:=s.heap.push { cls:=.type "longrange_iterator",data:=.fields #[rawInt 0,rawInt 0,rawInt 1] } }) :
    wpAny (model prog w) A (pyIter (.ref r)) Q E s:=by
  have hT:s.TypeIs (.ref r) "range" := ⟨_,hr,rfl⟩
  refine wpAny_pyIter_slot hT F.slot_range_iter (call_meets F.slot_range_iter hT F.entry_range_iter (F.args_range_iter_1 _)
    (AutoRange.range___iter___range_0 r 0 b 1 t u v (by unfold Builtin.Range.small at hsmall;rw [hsmall];rfl)) ⟨hr,?_⟩)
  unfold Builtin.Range.small at hsmall
  have hz:Builtin.Range.rangeSize 0 b 1=0:=by rw [rangeSize_one];split <;> omega
  simp only [hsmall,Bool.false_eq_true,if_false]
  rw [hz]
  exact ⟨"longrange_iterator",_,⟨_,Heap.get?_push_size _ rfl,rfl⟩,slot_long_next.lookup,hQ⟩
theorem z40 {it:Addr} {Q:Value→Shared→Prop} (hit:ziv s.heap it) (h:Q (.ref it) s):wpAny (model prog w) A (pyIter (.ref it)) Q E s:=by
  have hT:s.TypeIs (.ref it) "longrange_iterator" := ⟨_,hit,rfl⟩
  refine wpAny_pyIter_slot hT z4l (wpAny_call_entry z4l hT z7n ?_ (z6e _))
  show wpAny _ _ (ret (.ref it)) _ _ s
  exact wpAny_pure ⟨_,rfl, "longrange_iterator",_,hT,slot_long_next.lookup,h⟩
theorem z3z {it:Addr} {Q:Option Value→Shared→Prop} (hh:A.handled=none) (hit:ziv s.heap it)
    (hQ:∀ h',Heap.ExtBut it s.heap h'→Q none { s with heap:=h' }):wpAny (model prog w) A (pyNext (.ref it)) Q E s:=by
  have hT:s.TypeIs (.ref it) "longrange_iterator" := ⟨_,hit,rfl⟩
  unfold pyNext
  refine wpAny_bind (wpAny_attempt (wpAny_callSpecial?_slot (name:=Str.ofString "__next__") hT slot_long_next
    (wpAny_call_entry slot_long_next hT z7m ?_ (z6d _))))
  unfold Builtin.«longrange_iterator.__next__»
  wp_walk
  simp only [raiseNew]
  refine wpAny_bind (wpAny_handled ?_)
  first | rw [show A.in1.handled=none from hh] | rw [hh]
  refine wpAny_bind (wpAny_pure (wpAny_throw ?_))
  refine wpAny_bind (wpAny_isInstance (T := "StopIteration") (b:=true) ⟨_,Heap.get?_push_size _ rfl,rfl⟩ isSubtype_stop ?_)
  exact wpAny_pure (hQ _ (((Heap.ExtBut.refl it s.heap).push _).push _))
end
theorem zfs {P:Program} {w:World} {K:PySem.W.Frag} {tg:Expr} (it:Addr):Turn P w K tg (Itr 0 0) [it] it (fun _ h=>ziv h it) where
  mem:=by simp
  obj:=fun i h st b hb=>by
    have e:b=it:=by simpa using hb
    subst e
    exact ⟨_,st,fun v z=>by
      have z':Data.fields _=Data.cell v:=z
      cases z'⟩
  keep:=fun i h h' st k=>k it (by simp) _ st
  item:=by
    intro X hP hw hK hc i pins s σ H E I hf st hg
    exact absurd (show i<0 from hg) (Nat.not_lt_zero _)
  done:=by
    intro X hP hw hK hc i pins s σ H E I hf st hg
    subst hP hw hK
    refine bq fun bG=>?_
    obtain ⟨f0,f1,f2,f3,f4,f5⟩:=hf it (by simp)
    exact bG (z3z (I.ok.hd hc) st fun h' eb=>⟨rfl,I.turned (t':=s.toks) (fun b o hb e=>eb b o hb e) f0 f1 f3 f4 f5⟩)
  self:=fun _ _ _ _ _ st h=>z40 st h
section
variable {X:Cx} {tg:Expr}
theorem zgk {pins:List (Addr×Obj)} {σ:St} {H:Hp} {s:Shared} {R:It→Hp→Prop} {E:Value→Shared→Prop} {hi:Int} {t u v:Tok} {tk:Nat} (I:Inv X pins σ H s) (h3:hi < -(2 ^ 62)) (hs:Builtin.Range.small 0 hi 1=false)
    (q:R (Itr 0 0) H):wpAny (model X.prog X.w) X.A (pyIter (.ref s.heap.objs.size)) (PIE X pins σ tg R) E { s with heap:=s.heap.push { cls:=.type "range",data:=.fields #[.int 0 t,.int hi u,.int 1 v] },toks:=tk }:=by
  refine z5l (IsRange.new ..) h3 hs ?_
  have I1:Inv X pins σ H { s with heap:=s.heap.push { cls:=.type "range",data:=.fields #[.int 0 t,.int hi u,.int 1 v] },toks:=tk }:=I.kept fun b o e=>Heap.get?_push_of_some _ e
  refine ⟨(s.heap.push { cls:=.type "range",data:=.fields #[.int 0 t,.int hi u,.int 1 v] }).objs.size,[(s.heap.push { cls:=.type "range",data:=.fields #[.int 0 t,.int hi u,.int 1 v] }).objs.size],_,_,H,rfl,
    I1.kept (t':=tk) fun b o e=>Heap.get?_push_of_some _ e,zfs _,?_,fun b hb=>?_,q⟩
  · exact Heap.get?_push_size _ rfl
  · have e:b=(s.heap.push { cls:=.type "range",data:=.fields #[.int 0 t,.int hi u,.int 1 v] }).objs.size:=by simpa using hb
    subst e
    exact I1.fpOk (Nat.le_refl _) (I1.hok.fresh (Nat.le_refl _))
theorem zgj {pins:List (Addr×Obj)} {σ:St} {H:Hp} {s:Shared} {R:It→Hp→Prop} {E:Value→Shared→Prop} {hi:Int} {t u v:Tok} {tk:Nat} (I:Inv X pins σ H s) (h3:hi < -(2 ^ 62)) (hs:Builtin.Range.small 0 hi 1=true)
    (q:R (Itr 0 0) H):wpAny (model X.prog X.w) X.A (pyIter (.ref s.heap.objs.size)) (PIE X pins σ tg R) E { s with heap:=s.heap.push { cls:=.type "range",data:=.fields #[.int 0 t,.int hi u,.int 1 v] },toks:=tk }:=by
  refine wpAny_pyIter_range (IsRange.new ..) hs ?_
  have I1:Inv X pins σ H { s with heap:=s.heap.push { cls:=.type "range",data:=.fields #[.int 0 t,.int hi u,.int 1 v] },toks:=tk }:=I.kept fun b o e=>Heap.get?_push_of_some _ e
  refine ⟨(s.heap.push { cls:=.type "range",data:=.fields #[.int 0 t,.int hi u,.int 1 v] }).objs.size,[(s.heap.push { cls:=.type "range",data:=.fields #[.int 0 t,.int hi u,.int 1 v] }).objs.size],_,_,H,rfl,
    I1.kept (t':=tk) fun b o e=>Heap.get?_push_of_some _ e,z8f _ 0 0,?_,fun b hb=>?_,q⟩
  · have e1:(0:Int)+((0:Nat):Int)*1=0:=by simp
    have e2:(((0:Nat):Nat):Int) - ((0:Nat):Int)=Builtin.Range.rangeSize 0 hi 1:=by rw [rangeSize_one];split <;> omega
    show IsRangeIter _ _ (0+((0:Nat):Int)*1) (((0:Nat):Int) - ((0:Nat):Int)) 1
    rw [e1,e2]
    exact Heap.get?_push_size _ rfl
  · have e:b=(s.heap.push { cls:=.type "range",data:=.fields #[.int 0 t,.int hi u,.int 1 v] }).objs.size:=by simpa using hb
    subst e
    exact I1.fpOk (Nat.le_refl _) (I1.hok.fresh (Nat.le_refl _))
def zu7 (ta:TA):TI:=fun σ H R=>ta σ H fun vs H1=>∃ j:Int,vs=[.int j]∧j<2 ^ 62∧R (Itr 0 j.toNat) H1
theorem zgv {a:Expr} {ta:TA} {p pos:Pos} (hg:Gl X "range") (hm:X.mg "range" = none) (ha:PA X [a] ta) (hs:starEach [a] X.env=[(false,eval a X.env)]:=by rfl):PI X tg (.Call (.Name "range" p) [a] [] pos) (zu7 ta):=by
  intro pins s σ H R I h
  refine Call_ (z62 I hg hm boot_range (PyProof.Rows.callWith_type1 (thn (ha pos pins s σ H _ I h) fun us s1 hm=>?_) hs rfl))
  obtain ⟨vs,H1,I1,r1,q1⟩:=hm
  obtain ⟨j,e,q2,q⟩:=q1
  subst e
  cases r1 with
  | cons r rr =>
    cases rr
    obtain ⟨t,rfl⟩:=r
    by_cases hj:-(2 ^ 62)≤j
    · exact call_range_1 (zdg I1 (by omega) (by omega) hj q2 (by simpa using q))
    · have e0:j.toNat=0:=by omega
      rw [e0] at q
      cases hsm:Builtin.Range.small 0 j 1 with
      | false=>exact call_range_1 (zgk I1 (by omega) hsm q)
      | true=>exact call_range_1 (zgj I1 (by omega) hsm q)
end
end L2
namespace L3
open PySem PySem.Spec L2
section
variable {X:Cx} {K:PySem.W.Frag} {ea:EV} {pos:Pos}
noncomputable def zrw (ea:EV):IV:=fun Γ μ=>(ea Γ μ).bind fun p=>match p.1 with
  | .int j=>if j≤1000000000 then some ((z4w 0 j.toNat,none),p.2) else none
  | _=>none
theorem zfj (mr:X.mg "range" = none) {tg a:Expr} {p:Pos} (ha:PE X a (tD K ea)) (hg:Gl X "range" := by rfl) (hs:starEach [a] X.env=[(false,eval a X.env)]:=by rfl):PI X tg (.Call (.Name "range" p) [a] [] pos) (tDI K (zrw ea)):=zec (zgv hg mr (z0n ha z16 hs) hs) fun σ H R h=>by
  refine el5 h fun W Γ its c μ' eH ok en e q=>?_;subst eH
  refine z05 e fun p1 e1 e=>?_
  split at e
  · rename_i j hj
    split at e
    · rename_i hb
      cases e
      refine ⟨W,Γ,p1.1,p1.2,rfl,ok,en,e1,fun v W1 hμ ok1 s1 r1=>?_⟩
      rw [hj] at r1
      cases r1
      exact ⟨j,rfl,by omega,q _ W1 hμ ok1 s1 zdt⟩
    · cases e
  · cases e
theorem zrv {Γ:G} {μ μ1:M} {j:Int} (h:ea Γ μ=some (.int j,μ1)) (hj:j≤1000000000):zrw ea Γ μ=some ((z4w 0 j.toNat,none),μ1):=by
  unfold zrw;rw [h];show (if j≤1000000000 then _ else _)=_;rw [if_pos hj]
end
noncomputable def Wd.ice (W:Wd) (k:Nat) (d:Addr) (u:HO):Wd:=⟨W.ρ,W.μ.set k none,upd W.H d u,W.hid⟩
section
variable {K:PySem.W.Frag} {W:Wd} {k:Nat} {d:Addr} {x:O} {u:HO}
theorem zq4 {a:Addr} (h:RL (W.ice k d u) a):∃ j o,j≠k∧W.μ[j]?=some (some o)∧W.ρ[j]?=some a:=by
  obtain ⟨j,o,h1,h2⟩:=h
  have h1:(W.μ.set k none)[j]?=some (some o):=h1
  by_cases e:j=k
  · subst e
    rw [List.getElem?_set] at h1
    simp at h1
  · rw [List.getElem?_set_ne (Ne.symm e)] at h1
    exact ⟨j,o,e,h1,h2⟩
theorem z6i (hk:W.μ[k]?=some (some x)) (ha:W.ρ[k]?=some d):Step W (W.ice k d u) where
  ρ _ _ h:=h
  live a h:=let ⟨j,o,_,h1,h2⟩:=zq4 h;.inl ⟨j,o,h1,h2⟩
  keep a o e n:=by
    show upd W.H d u a=_
    have hne:a≠d:=fun z=>n ⟨k,x,hk,by rw [z];exact ha⟩
    rw [z0h hne];exact e
  hid:=rfl
  still a h:=by
    show upd W.H d u a≠none
    by_cases z:a=d
    · subst z;rw [z0k];simp
    · rw [z0h z];exact h
theorem zrf (ok:Ok K W) (hk:W.μ[k]?=some (some x)) (ha:W.ρ[k]?=some d):Ok K (W.ice k d u) where
  len:=by show W.ρ.length=(W.μ.set k none).length;rw [List.length_set];exact ok.len
  nd:=ok.nd
  rs a m:=(z6i (u:=u) hk ha).still a (ok.rs a m)
  at_ j o e:=by
    have e:(W.μ.set k none)[j]?=some (some o):=e
    have hj:j≠k:=fun z=>by subst z;rw [List.getElem?_set] at e;simp at e
    rw [List.getElem?_set_ne (Ne.symm hj)] at e
    obtain ⟨a,ho,h1,h2,h3⟩:=ok.at_ j o e
    have hne:a≠d:=fun z=>by
      subst z
      obtain ⟨l1,g1⟩:=List.getElem?_eq_some_iff.mp h1
      obtain ⟨l2,g2⟩:=List.getElem?_eq_some_iff.mp ha
      have hn:=List.pairwise_iff_getElem.mp ok.nd
      rcases Nat.lt_trichotomy j k with z | z | z
      · exact hn j k l1 l2 z (g1.trans g2.symm)
      · exact hj z
      · exact hn k j l2 l1 z (g2.trans g1.symm)
    refine ⟨a,ho,h1,by show upd W.H d u a=_;rw [z0h hne];exact h2,?_⟩
    have st:=z6i (W:=W) (u:=u) hk ha
    cases o with
    | lst ds=>obtain ⟨vs,e,q⟩:=h3;exact ⟨vs,e,q.step ok st⟩
    | dK kvs=>obtain ⟨vs,e,q⟩:=h3;exact ⟨vs,e,Paired.mapP q fun _ _ ⟨e,q⟩=>⟨e,q.step ok st⟩⟩
    | ins C fs=>obtain ⟨vs,e,q⟩:=h3;exact ⟨vs,e,Paired.mapP q fun _ _ ⟨e,q⟩=>⟨e,q.step ok st⟩⟩
    | exc C=>exact h3
  hd0 a z:=⟨(z6i (u:=u) hk ha).still a (ok.hd0 a z).1,(ok.hd0 a z).2⟩
end
noncomputable def zhh:Key→D
  | .inl i=>.int i
  | .inr x=>.str x
theorem zkl {K:PySem.W.Frag} {W:Wd} (k:Key):DR K W (zhh k) (kV k):=by
  cases k with
  | inl i=>exact .int i
  | inr x=>exact .str x
theorem KR.get {K:PySem.W.Frag} {W:Wd} {kvs:List (Key×D)} {vs:List (Key×V)} (r:KR K W kvs vs):∀ {i:Nat} {k:Key} {d:D} {k':Key} {v:V},kvs[i]?=some (k,d)→vs[i]?=some (k',v)→k=k'∧DR K W d v:=by
  induction r with
  | nil=>intro i k d k' v h;simp at h
  | @cons a b l r hd tl ih =>
    intro i k d k' v h h2
    cases i with
    | zero =>
      simp at h h2
      subst h h2
      exact hd
    | succ i=>exact ih (by simpa using h) (by simpa using h2)
noncomputable def z8y (own:List Str) (cap:List (Str×Nat)) (eo:EV) (g:GV) (tc:BV) (tk tv:EV):EV:=fun Γ μ=>(eo Γ μ).bind fun s=>(z8c s.2 s.1).bind fun kvs=>match s.1 with
  | .ref n=>chk (kvs.length≤1000000) ((z4q s.2.length none g tc tk tv (kvs.map fun kv=>.tup [zhh kv.1,kv.2]) (z4r own cap Γ) (s.2.set n none++[some (.dK [])])).bind fun μ'=>some (.ref s.2.length,μ'))
  | _=>none
section
variable {X:Cx} {K:PySem.W.Frag} {N' own:List Str} {cap:List (Str×Nat)} {scope:Scope} {kx vx o:Expr} {ifs elts:List Expr} {pos apos cpos tpos:Pos} {eo:EV} {g:GV} {tc:BV} {tk tv:EV} {n:Nat}
theorem zb7 {W1:Wd} {J:It} {its:List D} {c:Ck} {Γ0:G} {σ0:St} {μ':M} {p:Addr} {Z:Hp→Prop} (ok1:Ok K W1) (hp:W1.H p=none) (jr:z33 c W1.μ∧∀ (W2:Wd) (i:Nat),Ok K W2→z33 c W2.μ→Step W1 W2→(its.length≤i→J.stop i W2.H)∧∀ d,its[i]?=some d→J.go i W2.H∧∀ x H',J.yld i W2.H x H'→∃ W3,W3.H=H'∧W3.μ=W2.μ∧Ok K W3∧Step W2 W3∧DR K W3 d x) (en:EnvR K W1 Γ0 σ0)
    (c0:z33 c (W1.μ++[some (.dK [])])) (e:z4q W1.μ.length c g tc tk tv its Γ0 (W1.μ++[some (.dK [])])=some μ') (hZ:∀ W',W'.μ=μ'→Ok K W'→Step W1 W'→DR K W' (.ref W1.μ.length) (.ref p)→Z W'.H) :
    z4d J (tDG K g) (tDB K tc) (tD K tk) (tD K tv) p σ0 W1.H Z:=by
  obtain ⟨c1,hj⟩:=jr
  have ok0:=zam (x:=.dK []) (o:=.dK []) ok1 hp ⟨[],rfl,.nil⟩
  have s0:=z27 (K:=K) (x:=.dK []) (o:=.dK []) ok1 hp
  have r0:=zb6 (K:=K) (W:=W1) (p:=p) (o:=.dK []) (x:=.dK []) ok1
  obtain ⟨P,hP⟩:∃ P:Nat→St→Hp→Prop,∀ i σ2 H2,P i σ2 H2↔(i≤its.length∧∃ W2 Γ2,W2.H=H2∧Ok K W2∧Step (W1.new p (.dK []) (.dK [])) W2∧EnvR K W2 Γ2 σ2∧z33 c W2.μ∧z4q W1.μ.length c g tc tk tv (its.drop i) Γ2 W2.μ=some μ'):=⟨_,fun _ _ _=>Iff.rfl⟩
  refine ⟨fun i m σ2 H2=>m=its.length - i∧P i σ2 H2,?_,?_⟩
  · exact ⟨its.length,by simp,(hP _ _ _).2 ⟨Nat.zero_le _,W1.new p (.dK []) (.dK []),Γ0,rfl,ok0,.refl,en.step ok1 s0,c0,e⟩⟩
  rintro i m σ2 H2 ⟨rfl,hi⟩
  refine bq fun hG=>?_
  obtain ⟨hi,W2,Γ2,rfl,ok2,s2,en2,c2,e2⟩:=(hP _ _ _).1 hi
  obtain ⟨hstop,hgo⟩:=hj W2 i ok2 c2 (s0.trans s2)
  by_cases hlt:i<its.length
  · have hd:its[i]?=some its[i]:=List.getElem?_eq_getElem hlt
    refine bq fun bG=>?_
    obtain ⟨h1,h2⟩:=hgo _ hd
    rw [List.drop_eq_getElem_cons hlt] at e2
    refine z05 e2 fun pg e3 e2=>?_
    refine z05 e2 fun pt e4 e2=>?_
    refine bG (hG (.inr ⟨h1,P (i+1),fun σ' H' hN=>⟨its.length - (i+1),by omega,rfl,hN⟩,fun x H' hy=>?_⟩))
    refine bq fun hF=>?_
    obtain ⟨W3,rfl,hμ3,ok3,s3,r3⟩:=h2 x H' hy
    refine hF ⟨W3,Γ2,its[i],pg.1,pg.2,rfl,ok3,en2.step ok2 s3,r3,by rw [hμ3];exact e3,fun W4 σ4 hμ4 ok4 s4 en4=>⟨W4,pg.1,pt.1,pt.2,rfl,ok4,en4,by rw [hμ4];exact e4,fun W5 hμ5 ok5 s5=>?_⟩⟩
    have s25:=s3.trans (s4.trans s5)
    split at e2
    · rename_i ht
      refine z05 e2 fun py e5 e2=>?_
      refine z05 e2 fun pv e6 e2=>?_
      refine z05 e2 fun k e7 e2=>?_
      refine z05 e2 fun kvs e8 e2=>?_
      refine bq fun bG=>?_
      obtain ⟨⟨hl,c5⟩,e2⟩:=za0 e2
      refine bG (zma (fun _=>?_) (fun n=>absurd ht n))
      refine ⟨W5,pg.1,py.1,py.2,rfl,ok5,en4.step ok4 s5,by rw [hμ5];exact e5,fun y W6 hμ6 ok6 s6 r6=>⟨W6,pg.1,pv.1,pv.2,rfl,ok6,(en4.step ok4 s5).step ok5 s6,by rw [hμ6];exact e6,fun v W7 hμ7 ok7 s7 r7=>?_⟩⟩
      have s27:=(s25.trans s6).trans s7
      rw [← hμ7] at e8
      have rp:DR K W7 (.ref W1.μ.length) (.ref p):=(r0.step ok0 s2).step ok2 s27
      obtain ⟨n,a,us,hd,hv,hk,ha,hh,hs⟩:=z5u ok7 e8 rp
      cases hd
      cases hv
      obtain ⟨o8,s8⟩:=zlt (vs':=zdh us k v) (kvs':=zc5 kvs k pv.1) ok7 hk ha (hs.put k r7)
      exact ⟨us,k,hh,z79 (by rw [← hs.len];omega),zco e7 (r6.step ok6 s7),(hP _ _ _).2 ⟨hlt,W7.put W1.μ.length p (.dK (zdh us k v)) (.dK (zc5 kvs k pv.1)),pg.1,rfl,o8,(s2.trans s27).trans s8,(((en4.step ok4 s5).step ok5 s6).step ok6 s7).step ok7 s8,by show z33 c (W7.μ.set _ _);rw [hμ7];exact c5,by show z4q _ c g tc tk tv _ _ (W7.μ.set _ _)=_;rw [hμ7];exact e2⟩⟩
    · rename_i ht
      refine z3x e2 fun c5 e2=>?_
      refine zma (fun n=>absurd n ht) (fun _=>?_)
      exact (hP _ _ _).2 ⟨hlt,W5,pg.1,rfl,ok5,s2.trans s25,en4.step ok4 s5,by rw [hμ5];exact c5,by rw [hμ5];exact e2⟩
  · have e':i=its.length:=by omega
    subst e'
    rw [List.drop_eq_nil_of_le (Nat.le_refl _)] at e2
    cases e2
    exact hG (.inl ⟨hstop (Nat.le_refl _),hZ W2 rfl ok2 (s0.trans s2) (r0.step ok0 s2)⟩)
theorem zj8 (S:CompScope X N' own cap scope) (ho:PE X o (tD K eo))
    (hg:∀ cl C s₀ H₀ ex,PG (z0a X N' scope cl C s₀ H₀ ex) (.Tuple elts n tpos) (tDG K g)) (ht:∀ cl C s₀ H₀ ex,PIf (z0a X N' scope cl C s₀ H₀ ex) ifs (tDB K tc)) (hk:∀ cl C s₀ H₀ ex,PE (z0a X N' scope cl C s₀ H₀ ex) kx (tD K tk)) (hv:∀ cl C s₀ H₀ ex,PE (z0a X N' scope cl C s₀ H₀ ex) vx (tD K tv))
    (hx:∀ e s,X.xe e s→False:=by exact fun _ _ z=>z) (hc:X.calm=true:=by rfl) (hs:∀ x,foldedSetIterable (.Call (.Attribute o "items" apos) [] [] cpos) X.env x=pure x:=by intro _;rfl)
    (hbase:attributeBase o "items" X.env (eval o X.env)=eval o X.env:=by rfl) (hline:(apos.endLine==cpos.line)=true:=by rfl) (hK:X.K=K:=by rfl) :
    PE X (.DictComp kx vx [⟨.Tuple elts n tpos,.Call (.Attribute o "items" apos) [] [] cpos,ifs,0⟩] scope pos) (tD K (z8y own cap eo g tc tk tv)):=z0l (zka S (zk5 (zon K ho hbase hline hK)) hg ht hk hv hx hc hs) fun σ H Q h=>by
  refine el4 h fun W Γ d μ' eH ok en e q=>?_;subst eH
  refine z05 e fun p1 e1 e=>?_
  refine z05 e fun kvs e2 e=>?_
  refine ⟨W,Γ,p1.1,p1.2,rfl,ok,en,e1,fun x W1 hμ1 ok1 s1 r1=>?_⟩
  rw [← hμ1] at e2
  refine bq fun bG=>?_
  obtain ⟨k,a,vs,hd,rfl,hk1,ha1,hh,hs1⟩:=z5u ok1 e2 r1
  rw [hd] at e
  refine z3x e fun hl e=>?_
  refine z05 e fun μ2 e3 e=>?_
  cases e
  refine bG (⟨zbx ok1 e2 r1,a,vs,rfl,rfl,hh,fun v hv=>?_⟩)
  have hav:a≠v:=fun z=>by rw [z,hv] at hh;cases hh
  refine ⟨v,a,vs,rfl,z0k,by rw [z0h hav];exact hh,fun ob p hp=>?_⟩
  have okL:=z1v (o:=viO v a) ok1 hv
  have stL:=z0m (W:=W1) (o:=viO v a) hv
  have hkL:(W1.lay v (viO v a)).μ[k]?=some (some (.dK kvs)):=hk1
  have haL:(W1.lay v (viO v a)).ρ[k]?=some a:=ha1
  have okI:=zrf (u:=.frz ob (.dK vs)) okL hkL haL
  have stI:=z6i (W:=W1.lay v (viO v a)) (u:=.frz ob (.dK vs)) hkL haL
  have krI:KR K ((W1.lay v (viO v a)).ice k a (.frz ob (.dK vs))) kvs vs:=Paired.mapP hs1 fun _ _ ⟨e,q⟩=>⟨e,(q.step ok1 stL).step okL stI⟩
  have hfI:((W1.lay v (viO v a)).ice k a (.frz ob (.dK vs))).H a=some (.frz ob (.dK vs)):=z0k
  generalize hWI:(W1.lay v (viO v a)).ice k a (.frz ob (.dK vs))=WI at okI stI krI hfI
  have hμI:WI.μ=p1.2.set k none:=by rw [← hWI];show W1.μ.set k none=_;rw [hμ1]
  have hHI:WI.H=upd (upd W1.H v (viO v a)) a (.frz ob (.dK vs)):=by rw [← hWI];rfl
  have hlen:p1.2.length=WI.μ.length:=by rw [hμI,List.length_set]
  have stA:=(s1.trans stL).trans stI
  rw [← hHI] at hp ⊢
  refine zb7 (c:=none) (its:=kvs.map fun kv=>.tup [zhh kv.1,kv.2]) (Γ0:=z4r own cap Γ) okI hp ⟨trivial,fun W2 i ok2 _ s2=>?_⟩ ((en.step ok stA).cap own cap) trivial (μ':=μ') (by rw [← hlen,hμI];exact e3) fun W' h1 h2 h3 h4=>?_
  · have hf2:W2.H a=some (.frz ob (.dK vs)):=s2.keep _ _ hfI (okI.nofrz hfI)
    have kr2:KR K W2 kvs vs:=Paired.mapP krI fun _ _ ⟨e,q⟩=>⟨e,q.step okI s2⟩
    refine ⟨fun hi=>⟨hf2,by rw [List.length_map,krI.len] at hi;exact hi⟩,fun dd hdd=>?_⟩
    rw [List.getElem?_map] at hdd
    cases hkv:kvs[i]? with
    | none=>rw [hkv] at hdd;cases hdd
    | some kv =>
      rw [hkv] at hdd
      simp at hdd
      subst hdd
      have hi:i<vs.length:=by rw [← krI.len];exact (List.getElem?_eq_some_iff.mp hkv).1
      refine ⟨⟨hf2,hi⟩,fun x H' hy=>?_⟩
      refine bq fun bG=>?_
      obtain ⟨pp,kk,vv,rfl,hpn,rfl,hvs⟩:=hy
      obtain ⟨ek,rv⟩:=kr2.get (k:=kv.1) (d:=kv.2) hkv hvs
      refine bG (⟨W2.lay pp (.tup [kV kk,vv]),rfl,rfl,z1v ok2 hpn,z0m hpn,?_⟩)
      rw [ek]
      exact zb5 ok2 hpn (.cons (zkl kk) (.cons rv .nil))
  · refine q _ W' h1 h2 (stA.trans h3) ?_
    rw [hlen]
    exact h4
end
end L3
namespace L2
open PySem PySem.Spec PyProof.Rows
section
open PySem.SeqAt
open PySem.AutoSeq1 (wpAny_loadPart')
open PySem.MeetsSeq PySem.MeetsSeq2 PySem.MeetsSeq3 PySem.SeqRoads2
theorem z7q (l:Addr) (items:Array Value) (n:Nat) (dd:Option Addr) (sl:Array (Option Value)) (x:Value) (e:Nat→Bool) (k:Nat) :
    ∀ i:Nat,items.size - i=k→Meets (Builtin.«list.__contains__.loop» ⟨[.ref l,x,rawInt i],[]⟩)
      (fun A R s=>s.heap.get? l=some { cls:=.type "list",dict:=dd,data:=.seq items n,slots:=sl }∧(∀ j (h:j<items.size),EqAt A.in1 s items[j] x (e j))∧R (.ok (.ret (.bool (((List.range items.size).drop i).any e)))) s):=by
  induction k with
  | zero =>
    intro i hk prog w A R s h
    obtain ⟨hp,g,d,tk,os⟩:=s;obtain ⟨hl,he,h⟩:=h
    wp_walk using wpAny_loadPart' hl
    have hi:items[((i:Nat):Int).toNat]?=none:=by simp;omega
    have hd:(List.range items.size).drop i=[]:=by simp;omega
    rw [hd] at h
    rw [hi]
    wp_walk
    exact h
  | succ k ih =>
    intro i hk prog w A R s h
    obtain ⟨hp,g,d,tk,os⟩:=s;obtain ⟨hl,he,h⟩:=h
    wp_walk using wpAny_loadPart' hl
    have hlt:i<items.size:=by omega
    have hi:items[((i:Nat):Int).toNat]?=some items[i]:=by simp [hlt]
    have hd:(List.range items.size).drop i=i::(List.range items.size).drop (i+1):=by simp [List.drop_eq_getElem_cons,hlt]
    rw [hd,List.any_cons] at h
    rw [hi]
    refine wpAny_bind (he i hlt prog w _ _ ?_)
    cases hb:e i with
    | true =>
      rw [hb] at h
      wp_walk
      exact h
    | false =>
      rw [hb] at h
      have hc:((i:Int)+1)=((i+1:Nat):Int):=by push_cast;rfl
      wp_walk
      rw [hc]
      exact ⟨plainId_quiet plain_contains_loop _,codeAny_builtin entry_contains_loop (by
        rw [Around.under_plainId plain_contains_loop _]
        exact ih (i+1) (by omega) prog w A R _ ⟨hl,he,by simpa using h⟩)⟩
theorem z7a (l:Addr) (items:Array Value) (n:Nat) (dd:Option Addr) (sl:Array (Option Value)) (x:Value) (e:Nat→Bool) :
    Meets (Builtin.«list.__contains__» ⟨[.ref l,x],[]⟩)
      (fun A R s=>s.heap.get? l=some { cls:=.type "list",dict:=dd,data:=.seq items n,slots:=sl }∧(∀ j (h:j<items.size),EqAt A.in1 s items[j] x (e j))∧R (.ok (.ret (.bool ((List.range items.size).any e)))) s):=by
  intro prog w A R s h
  obtain ⟨hp,g,d,tk,os⟩:=s;obtain ⟨hl,he,h⟩:=h
  wp_walk using wpAny_loadPart' hl
  exact ⟨plainId_quiet plain_contains_loop _,codeAny_builtin entry_contains_loop (by
    rw [Around.under_plainId plain_contains_loop _]
    exact z7q l items n dd sl x e _ 0 rfl prog w A R _ ⟨hl,he,by simpa using h⟩)⟩
theorem zhq {prog:Program} {w:World} {A:Around} {E:Value→Shared→Prop} {s:Shared} {l:Addr} {items:Array Value} {x:Value} {Q:Value→Shared→Prop} (e:Nat→Bool) (hl:s.heap.IsList l items) (he:∀ j (h:j<items.size),EqAt A.in1 s items[j] x (e j))
    (h:Q (.bool ((List.range items.size).any e)) s):wpAny (model prog w) A (compareOp .In x (.ref l)) Q E s:=by
  obtain ⟨⟨cls,dd,data,sl⟩,ho,hc,n,hd⟩:=id hl
  simp only at hc hd
  subst hc hd
  exact in_meets ⟨_,ho,rfl⟩ F.slot_list_contains F.entry_list_contains (F.args_list_contains_2 _ _) (z7a l items n dd sl x e) ⟨ho,he,_,rfl,h⟩
end
theorem zha:∀ {ds:List PyData} {i:Nat} {d:PyData},PyData.canLayAll0 ds=true→ds[i]?=some d→d.canLay0=true
  | [],i,d,_,h=>by simp at h
  | a::r,0,d,hl,h=>by simp [PyData.canLayAll0] at hl;simp at h;subst h;exact hl.1
  | a::r,i+1,d,hl,h=>by simp [PyData.canLayAll0] at hl;simp at h;exact zha hl.2 h
theorem zrb {X:Cx} (hu:X.A.units+64<cLine):OpR X (compareOp .In) (fun x y H Q=>∃ p xs ds d,y=.ref p∧SqL X.K H p xs∧Dps X.K H xs ds∧Dp X.K H x d∧(PyData.canLayAll0 ds&&d.canLay0&&decide (d.depth≤60))=true∧Q (.bl (ds.any fun e=>PyData.eqv e d)) H):=by
  intro pins s σ H x y v u Q I rx ry h
  refine bq fun bG=>?_
  obtain ⟨p,xs,ds,d,rfl,hq,hs,hd,hc,q⟩:=h
  simp only [Bool.and_eq_true,decide_eq_true_eq] at hc
  cases ry
  obtain ⟨its,rv,pl,hz⟩:=I.list hq
  obtain ⟨as,r1⟩:=hd.reads I rx
  have hl:=rv.length
  have hl2:=hs.len
  refine bG (zhq (fun j=>PyData.eqv (ds.getD j .none) d) pl.isList (fun j hj=>?_) ?_)
  · have hj':j<its.length:=by simpa using hj
    have hx:xs[j]?=some (xs[j]'(by omega)):=List.getElem?_eq_getElem (by omega)
    obtain ⟨e,he,hde⟩:=hs.get hx
    obtain ⟨w,hw,rw'⟩:=rv.get hx
    obtain ⟨bs,r2⟩:=hde.reads I rw'
    have e1:its.toArray[j]=w:=by
      have:its[j]?=some (its[j]'hj'):=List.getElem?_eq_getElem hj'
      rw [this] at hw
      cases hw
      simp
    have e2:ds.getD j .none=e:=by simp [List.getD_eq_getElem?_getD,he]
    rw [e1,e2]
    refine SeqAt.eqAt_reads e d _ s _ _ _ _ r2 r1 (zha hc.1.1 he) hc.1.2 ?_
    have:X.A.in1.units≤X.A.units+1:=by simp [Around.in1]
    have:=Nat.min_le_right e.depth d.depth
    omega
  · have e:(List.range its.toArray.size).any (fun j=>PyData.eqv (ds.getD j .none) d)=ds.any fun e=>PyData.eqv e d:=by
      have hsz:its.toArray.size=ds.length:=by simp;omega
      rw [hsz,Bool.eq_iff_iff]
      simp only [List.any_eq_true,List.mem_range]
      constructor
      · rintro ⟨j,hj,e⟩
        exact ⟨ds[j],List.getElem_mem _,by simpa [List.getD_eq_getElem?_getD,List.getElem?_eq_getElem hj] using e⟩
      · rintro ⟨e,hm,he⟩
        refine bq fun bG=>?_
        obtain ⟨j,hj⟩:=List.getElem?_of_mem hm
        exact bG (⟨j,(List.getElem?_eq_some_iff.mp hj).1,by simpa [List.getD_eq_getElem?_getD,hj] using he⟩)
    rw [e]
    exact ⟨.bl _,H,I,rfl,q⟩
section
variable {X:Cx} {N' own:List Str} {cap:List (Str×Nat)} {scope:Scope} {tg iter elt:Expr} {ifs:List Expr} {pos:Pos} {wi:TI} {g:TG} {tc:TT} {te:TE}
theorem zkb (S:CompScope X N' own cap scope) (hi:PI X tg iter wi)
    (hg:∀ cl C s₀ H₀ ex,PG (z0a X.nox N' scope cl C s₀ H₀ ex) tg g) (ht:∀ cl C s₀ H₀ ex,PIf (z0a X.nox N' scope cl C s₀ H₀ ex) ifs tc) (he:∀ cl C s₀ H₀ ex,PE (z0a X.nox N' scope cl C s₀ H₀ ex) elt te)
    (hc:X.calm=true:=by rfl) (hs:∀ x,foldedSetIterable iter X.env x=pure x:=by intro _;rfl) :
    PE X (.ListComp elt [⟨tg,iter,ifs,0⟩] scope pos) (zpv own cap wi g tc te):=by
  intro pins s σ H Q I h
  rw [eval_ListComp]
  refine bq fun bG=>?_
  obtain ⟨cl,hcl,c1,c2⟩:=z1s (scope:=scope) (env:=X.env) fun y hy hk=>I.ok.has y.1 (S.free y hy hk)
  refine bG (wpAny_comprehension_free (use:=none) rfl hs hcl S.kind S.names (thn (hi pins s σ H _ I h) fun v s1 h1=>thn h1 fun itv s2 h2=>?_))
  refine bq fun bG=>?_
  obtain ⟨it,fp,tn,J,H2,e,I2,T,st2,f2,q⟩:=h2
  subst e
  have S':CompScope X.nox N' own cap scope:=⟨S.kind,S.own1,S.free1,S.names,S.free,S.eq,S.cap⟩
  refine bG (z7s (X:=X.nox) (RR:=fun acc C=>compPost (model X.prog X.w) X.A X.xe none (EP X pins σ Q) acc C) (Z:=fun D=>Q (.ref D)) (fun _ _ z=>z) hc S' hg ht he (I2.wish _) T st2 f2 c1 c2 q ?_)
  intro D C s' m' H' I' hn' f' z
  exact ⟨m',hn',fun h'' hs''=>⟨.ref D,H',I'.unwish.letgo f' hs'',rfl,z⟩⟩
end
end L2
namespace L3
open PySem PySem.Spec L2
section
variable {X:Cx} {K:PySem.W.Frag} {a b:Expr} {ea eb:EV} {pos p:Pos} {k:Nat}
noncomputable def zkv (neg:Bool) (x y:D) (μ:M):Option (D×M):=if neg=true then none else (z2h μ y).bind fun ds=>(optAll (py 65 μ) ds).bind fun es=>(py 65 μ x).bind fun d=>if (PyData.canLayAll0 es&&d.canLay0&&decide (d.depth≤60))=true then some (.bl (es.any fun e=>PyData.eqv e d),μ) else none
theorem zqg:R2A K (fun x y H Q=>∃ p xs ds d,y=.ref p∧SqL K H p xs∧Dps K H xs ds∧Dp K H x d∧(PyData.canLayAll0 ds&&d.canLay0&&decide (d.depth≤60))=true∧Q (.bl (ds.any fun e=>PyData.eqv e d)) H) (zkv false):=by
  intro W x y d e z μ' Q ok r1 r2 hf q
  unfold zkv at hf
  rw [if_neg (by simp)] at hf
  refine z05 hf fun ds h1 hf=>?_
  refine z05 hf fun es h2 hf=>?_
  obtain ⟨d',h3,hf⟩:=bnd hf
  split at hf
  · rename_i hc
    cases hf
    refine bq fun bG=>?_
    obtain ⟨a,vs,rfl,hs,hv⟩:=z2x ok h1 r2
    exact bG (⟨a,vs,es,d',rfl,hs,z5a (z97 ok 65) hv h2,z97 ok _ _ _ _ r1 h3,hc,q _ W rfl ok .refl (.bl _)⟩)
  · cases hf
theorem ztb (hr:Room k X.A) (ha:PE X a (tD K ea)) (hb:PE X b (tD K eb)) (hm:behindInMarks .In b=false:=by rfl) (hK:X.K=K:=by rfl):PE X (.Compare a [.In] [b] pos) (tD K (v2 (zkv false) ea eb)):=by
  subst hK;exact zj9 (zrb hr.units) zqg ha hb hm
end
section
variable {X:Cx} {E:St→XK} {K:PySem.W.Frag} {N' own:List Str} {cap:List (Str×Nat)} {scope:Scope} {tg iter elt:Expr} {ifs:List Expr} {pos:Pos} {ex:EX} {g:GV} {tc:BV} {te:EV}
noncomputable def z4i (own:List Str) (cap:List (Str×Nat)) (ex:EX) (g:GV) (tc:BV) (te:EV):EX:=fun Γ μ=>(ex Γ μ).bind fun p=>match p.1 with
  | .ok d=>(lsC p.2 d).bind fun s=>if s.1.length≤1000000 then (z2s s.2 g tc te s.1 (z4r own cap Γ) p.2).bind fun q=>some (.ok (.lst q.1),q.2) else none
  | .ex C=>some (.ex C,p.2)
theorem zlb (S:CompScope X N' own cap scope) (hi:PE X iter (tX K E ex))
    (hg:∀ cl C s₀ H₀ ex,PG (z0a X.nox N' scope cl C s₀ H₀ ex) tg (tDG K g)) (ht:∀ cl C s₀ H₀ ex,PIf (z0a X.nox N' scope cl C s₀ H₀ ex) ifs (tDB K tc)) (he:∀ cl C s₀ H₀ ex,PE (z0a X.nox N' scope cl C s₀ H₀ ex) elt (tD K te))
    (hc:X.calm=true:=by rfl) (hs:∀ x,foldedSetIterable iter X.env x=pure x:=by intro _;rfl) (hK:X.K=K:=by rfl) :
    PE X (.ListComp elt [⟨tg,iter,ifs,0⟩] scope pos) (tX K E (z4i own cap ex g tc te)):=by
  subst hK
  refine z0l (zkb S (zgx hi) hg ht he hc hs) fun σ H Q h=>?_
  refine el4 h fun W Γ r μ' eH ok en e q=>?_;subst eH
  refine bq fun bG=>?_
  obtain ⟨⟨r1,μ1⟩,e1,e⟩:=bnd e
  refine bG (⟨W,Γ,r1,μ1,rfl,ok,en,e1,fun W1 hμ1 ok1 s1=>?_⟩)
  cases r1 with
  | ex C =>
    cases e
    exact q W1 hμ1 ok1 s1
  | ok d =>
    intro v rv
    obtain ⟨⟨its,c⟩,e2,e⟩:=bnd e
    split at e
    · rename_i hl
      refine bq fun bG=>?_
      obtain ⟨⟨rs,μ2⟩,e3,e⟩:=bnd e
      cases e
      obtain ⟨c0,a,rfl,hh⟩:=zh9 ok1 (by rw [hμ1];exact e2) rv
      obtain ⟨vs0,h0,_⟩:=hh W1 ok1 c0 rv
      refine bG (⟨a,rfl,⟨_,h0⟩,fun p hp=>?_⟩)
      have jr:JR X.K W1 (Itl X.K a) its c:=⟨c0,[d],[.ref a],.cons rv .nil,fun W2 i ok2 c2 r2=>by
        cases r2 with
        | cons r2 _ =>
          obtain ⟨vs,hs,hv⟩:=hh W2 ok2 c2 r2
          refine ⟨fun hi=>⟨vs,hs,by rw [← hv.length];exact hi⟩,fun d hd=>?_⟩
          refine bq fun bG=>?_
          obtain ⟨v,hv1,hv2⟩:=hv.get hd
          refine bG (⟨⟨vs,v,hs,hv1⟩,fun x H' y=>?_⟩)
          obtain ⟨rfl,y⟩:=y
          have:=y vs hs
          rw [hv1] at this
          cases this
          exact ⟨W2,rfl,rfl,ok2,.refl,hv2⟩⟩
      refine z8t ok1 hp jr ((en.step ok s1).cap own cap) hl (by rw [hμ1];exact e3) fun W' ys hμ' ok' s' hp' hy r=>?_
      refine bq fun bG=>?_
      obtain ⟨a1,a2,a3⟩:=z7r s1 hp ok1 ok' s' hp' hy r
      exact bG (q (W'.show W1.hid) hμ' a1 a2 _ a3)
    · cases e
end
section
variable {X:Cx} {K:PySem.W.Frag} {a b:Expr} {ea eb:EV} {pos p p2 pos2:Pos} {k:Nat}
noncomputable def z8s (x:D) (μ:M):Option (D×M):=match x with
  | .int j=>if 0≤j∧j≤1000000 then some (.lst (z4w 0 j.toNat),μ) else none
  | _=>none
theorem zoq {W:Wd} (n:Nat):DRs K W (z4w 0 n) ((List.range n).map fun k:Nat=>V.int (k:Int)):=by
  have h:=z6p (K:=K) (W:=W) ((List.range n).map fun k:Nat=>(k:Int))
  rw [List.map_map,List.map_map] at h
  have e:z4w 0 n=(List.range n).map (D.int ∘ fun k:Nat=>(k:Int)):=by
    unfold z4w
    exact List.map_congr_left fun k _=>by simp
  rw [e]
  exact h
theorem zmq (ml:X.mg "list" = none) (mr:X.mg "range" = none) (ha:PE X a (tD K ea)) (hc:X.calm=true:=by rfl) (hg:Gl X "range" := by rfl) (hg2:Gl X "list" := by rfl) (hs:starEach [a] X.env=[(false,eval a X.env)]:=by rfl)
    (hs2:starEach [.Call (.Name "range" p2) [a] [] pos2] X.env=[(false,eval (.Call (.Name "range" p2) [a] [] pos2) X.env)]:=by rfl) :
    PE X (.Call (.Name "list" p) [.Call (.Name "range" p2) [a] [] pos2] [] pos) (tD K (v1 z8s ea)):=z0l (zsb ml (zsa mr ha hg hs) hg2 hs2 hc) (z2v (r:=fun x H1 Q=>∃ j:Int,x=.int j∧∀ r,H1 r=none→∃ (r':Addr) (n:Nat),[V.ref r]=[.ref r']∧(upd H1 r (.rng 0 j)) r'=some (.rng 0 (n:Int))∧n≤1000000∧∀ l,(upd H1 r (.rng 0 j)) l=none→Q (.ref l) (upd (upd H1 r (.rng 0 j)) l (.lst ((List.range n).map fun k:Nat=>V.int (k:Int))))) (by
  intro W x d z μ' Q ok r1 hf q
  unfold z8s at hf
  split at hf
  · rename_i j
    split at hf
    · rename_i hj
      cases hf
      cases r1
      refine ⟨j,rfl,fun r hr=>⟨r,j.toNat,rfl,by rw [z0k];congr 2;omega,by omega,fun l hl=>?_⟩⟩
      have ok1:=z1v (o:=.rng 0 j) ok hr
      have hl1:(W.lay r (.rng 0 j)).H l=none:=hl
      exact q _ ((W.lay r (.rng 0 j)).lay l (.lst ((List.range j.toNat).map fun k:Nat=>V.int (k:Int)))) rfl (z1v ok1 hl1) ((z0m hr).trans (z0m hl1)) (z64 ok1 hl1 (zoq _))
    · cases hf
  · cases hf))
end
section
variable {X:Cx} {K:PySem.W.Frag} {a b:Expr} {ea eb:EV} {pos p:Pos} {k:Nat}
end
end L3
namespace L2
open PySem PySem.Spec PyProof.Rows
section
variable {prog:Program} {w:World} {A:Around} {E:Value→Shared→Prop} {s:Shared}
end
section
variable {prog:Program} {w:World} {A:Around} {E:Value→Shared→Prop} {s:Shared}
end
section
variable {X:Cx} {pins:List (Addr×Obj)} {σ:St} {H:Hp} {s:Shared}
end
section
variable {X:Cx}
end
end L2
namespace L3
open PySem PySem.Spec L2
section
variable {X:Cx} {K:PySem.W.Frag} {ea eb:EV} {p pos:Pos}
end
end L3
namespace Law
open PySem L2 L3
noncomputable def top (i:Nat):Stmt:=PySem.Challenge.pw_morethanhalf_k33_what_answers_tell_of_mo.main.body.getD i (.Pass ⟨0,0,0,0⟩)
section
variable {P:Program} {w:World} {K:PySem.W.Frag} {mg:Str→Option Value} {base:Heap} {f:Addr} {fd:FuncData}
theorem sc_check_things:FnScope ["many", "answers", "i", "j", "alike"] ["many", "answers"] (z07 (top 21)):=⟨rfl,rfl,rfl,by decide +kernel,rfl,by decide +kernel,by decide +kernel⟩
noncomputable def z2z (C_NoThing:Addr):SX :=
    (z4f (zde (upB (vT (v2 fLt (z01 0) (vC (.int 0)))))
      (z4v C_NoThing ((z01 0)::[]))
      (upS sNx))
    (zq0 (ivL (z01 1)) (z2p 3 (z0e (z00 2) (z0e (z00 3) (z0e (z00 4) z2q))))
      (z4f (zde (upB (zfd (zim (vT (z4k fLe fLt (vC (.int 0)) (z01 2) (z01 0))) (vT (z4k fLe fLt (vC (.int 0)) (z01 3) (z01 0))))))
        (z4v C_NoThing ((z01 2)::((z01 3)::((z01 0)::[]))))
        (upS sNx))
      (zde (upB (vT (v2 fEq (z01 2) (z01 3))))
        (z4v C_NoThing ((z01 2)::[]))
        (upS sNx)))))
noncomputable def z1g (C_NoThing:Addr):FX:=zc4 5 2 (z2z C_NoThing)
theorem z73 {k:Nat} {C_NoThing:Addr} (F:Fun K "check_things" "check_things" (top 21) f fd) (e_NoThing:mg "NoThing" = some (.ref C_NoThing)∧z3d K C_NoThing):FnOk P w K mg base (CXr P w) (k+1) f fd ["many", "answers"] (spX K (z1g C_NoThing)):=by
  unfold z1g z2z
  exact zp9 F sc_check_things fun cdv A outer s H E hr =>
    (z6q (zfe (zj2 (zmo (z03 0) z0q))
      (z3y (z5c (zj6 (ziw (by decide) (znl (z03 0) (ziw (by decide) pj0)))) e_NoThing.1 e_NoThing.2))
      za5)
    (z3y (zpg (zod ⟨rfl,rfl⟩) rfl (zsl (z15 (z03 1))) (zsm (z6r (n:=3) (z0x (z0g (i:=2) sc_check_things.nd rfl (Or.inl rfl)) (z0x (z0g (i:=3) sc_check_things.nd rfl (Or.inl rfl)) (z0x (z0g (i:=4) sc_check_things.nd rfl (Or.inl rfl)) z4s)))))
      (z6q (zfe (zj2 (za6 (PW.pt (zlc (zd8 zr9 zqe zny zqc z0q (z03 2) (z03 0)) (zfh (zd8 zr9 zqe zny zqc z0q (z03 3) (z03 0)))))))
        (z3y (z5c (zj6 (ziw (by decide) (znl (z03 2) (ziw (by decide) (znl (z03 3) (ziw (by decide) (znl (z03 0) (ziw (by decide) pj0)))))))) e_NoThing.1 e_NoThing.2))
        za5)
      (z3y (zfe (zj2 (za9 hr (z03 2) (z03 3)))
        (z3y (z5c (zj6 (ziw (by decide) (znl (z03 2) (ziw (by decide) pj0)))) e_NoThing.1 e_NoThing.2))
        za5))))))
theorem zjl:FnScope ["homes", "old", "new"] ["homes", "old", "new"] (z07 (top 22)):=⟨rfl,rfl,rfl,by decide +kernel,rfl,by decide +kernel,by decide +kernel⟩
theorem z8l:((["thing", "home"]:List Str)++([("old",1),("new",2)]:List (Str×Nat)).map (·.1)).Nodup:=by decide +kernel
noncomputable def z9r:SV :=
    (z32 (z8y ["thing", "home"] [("old",1),("new",2)] (z01 0) (z2p 2 (z0e (z00 0) (z0e (z00 1) z2q))) z1i (z01 0) (vIf (vT (v2 fEq (z01 1) (z01 2))) (z01 3) (z01 1))))
noncomputable def z1w:List D→M→Option (D×M):=z6j 3 3 (z9r)
theorem zkg {k:Nat} (F:Fun K "moved" "moved" (top 22) f fd):FnOk P w K mg base CX0 (k+1) f fd ["homes", "old", "new"] (spM K (z1w)):=by
  unfold z1w z9r
  exact z9k F zjl fun cdv A outer s H E hr =>
    (z0j (z0t (zj8 (own:=["thing", "home"]) (cap:=[("old",1),("new",2)]) (z2i rfl) (z03 0)
      (fun _ _ _ _ _=>(z6r (n:=2) (z0x (z0g (i:=0) z8l rfl (Or.inl rfl)) (z0x (z0g (i:=1) z8l rfl (Or.inl rfl)) z4s)))) (fun _ _ _ _ _=>z1o)
      (fun _ _ _ _ _=>(z03 0)) (fun _ _ _ _ _=>(zmu (za9 hr (z03 1) (z03 2)) (z03 3) (z03 1))))))
theorem sc_homes_of:FnScope ["answers", "homes", "i", "j", "alike"] ["answers"] (z07 (top 23)):=⟨rfl,rfl,rfl,by decide +kernel,rfl,by decide +kernel,by decide +kernel⟩
noncomputable def z59 (f_moved:List D→M→Option (D×M)):SV :=
    (z0v (z10 zfq (z00 1))
    (z0v (z82 (ivL (z01 0)) (z2p 3 (z0e (z00 2) (z0e (z00 3) (z0e (z00 4) z2q))))
      (z0v (z43 (z21 (z01 1) (z01 2) (z01 2)))
      (z0v (z43 (z21 (z01 1) (z01 3) (z01 3)))
      (sIf (z65 (z01 4))
        (z10 (vL f_moved (z02 (z01 1) (z02 (v2 z55 (z01 1) (z01 3)) (z02 (v2 z55 (z01 1) (z01 2)) z0b)))) (z00 1))
        sNx))))
    (z32 (z01 1))))
noncomputable def z1p (f_moved:List D→M→Option (D×M)):List D→M→Option (D×M):=z6j 5 1 (z59 f_moved)
theorem zce {f_moved:List D→M→Option (D×M)} {k_moved k:Nat} (F:Fun K "homes_of" "homes_of" (top 23) f fd) (D_moved:Df P w K mg base k_moved "moved" ["homes", "old", "new"] (spM K f_moved)) (h_moved:k_moved≤k):FnOk P w K mg base CX0 (k+1) f fd ["answers"] (spM K (z1p f_moved)):=by
  unfold z1p z59
  exact z9k F sc_homes_of fun cdv A outer s H E hr =>
    (z08 (z0s (i:=1) sc_homes_of.nd rfl (Or.inl rfl) zlh)
    (z08 (z3f PassesOwn.never rfl (z15 (z03 0)) (z6r (n:=3) (z0x (z0g (i:=2) sc_homes_of.nd rfl (Or.inl rfl)) (z0x (z0g (i:=3) sc_homes_of.nd rfl (Or.inl rfl)) (z0x (z0g (i:=4) sc_homes_of.nd rfl (Or.inl rfl)) z4s))))
      (z08 (z5k (z8x (z03 1) (z03 2) (z03 2)))
      (z08 (z5k (z8x (z03 1) (z03 3) (z03 3)))
      (z0j (z3e (z2d (z03 4))
        (z0j (z0s (i:=1) sc_homes_of.nd rfl (Or.inl rfl) (z4e D_moved (hr.mono h_moved) (z06 (z03 1) (z06 (zd7 hr (z03 1) (z03 3)) (z06 (zd7 hr (z03 1) (z03 2)) z0c))))))
        z1m)))))
    (z0j (z0t (z03 1)))))
theorem sc_can_be:FnScope ["many", "answers", "homes"] ["many", "answers"] (z07 (top 24)):=⟨rfl,rfl,rfl,by decide +kernel,rfl,by decide +kernel,by decide +kernel⟩
theorem z51:((["i", "j", "alike"]:List Str)++([("homes",2)]:List (Str×Nat)).map (·.1)).Nodup:=by decide +kernel
noncomputable def z7l (f_homes_of:List D→M→Option (D×M)) (f_check_things:FX):SX :=
    (z4f (z71 (vLX f_check_things (upL (z02 (z01 0) (z02 (z01 1) z0b)))))
    (upS (z0v (z10 (vL f_homes_of (z02 (z01 1) z0b)) (z00 2))
    (z32 (v1 ze2 (z1d ["i", "j", "alike"] [("homes",2)] (ivL (z01 1)) (z2p 3 (z0e (z00 0) (z0e (z00 1) (z0e (z00 2) z2q)))) z1i (vOr (z01 2) (v2 fNe (v2 z55 (z01 3) (z01 0)) (v2 z55 (z01 3) (z01 1))))))))))
noncomputable def z78 (f_homes_of:List D→M→Option (D×M)) (f_check_things:FX):FX:=zc4 3 2 (z7l f_homes_of f_check_things)
theorem zh0 {f_homes_of:List D→M→Option (D×M)} {f_check_things:FX} {k_homes_of k_check_things k:Nat} (F:Fun K "can_be" "can_be" (top 24) f fd) (D_homes_of:Df P w K mg base k_homes_of "homes_of" ["answers"] (spM K f_homes_of)) (h_homes_of:k_homes_of≤k) (D_check_things:DfX P w K mg base k_check_things "check_things" ["many", "answers"] (spX K f_check_things)) (h_check_things:k_check_things≤k) (m_all:mg "all" = none):FnOk P w K mg base (CXr P w) (k+1) f fd ["many", "answers"] (spX K (z78 f_homes_of f_check_things)):=by
  unfold z78 z7l
  exact zp9 F sc_can_be fun cdv A outer s H E hr =>
    (z6q (zff (zee D_check_things (hr.mono h_check_things) (zbp (z06 (z03 0) (z06 (z03 1) z0c)))))
    (zl9 (z08 (z0s (i:=2) sc_can_be.nd rfl (Or.inr rfl) (z4e D_homes_of (hr.mono h_homes_of) (z06 (z03 1) z0c)))
    (z0j (z0t (zjd m_all (z5e (own:=["i", "j", "alike"]) (cap:=[("homes",2)]) (z2i rfl) (z15 (z03 1))
      (fun _ _ _ _ _=>(z6r (n:=3) (z0x (z0g (i:=0) z51 rfl (Or.inl rfl)) (z0x (z0g (i:=1) z51 rfl (Or.inl rfl)) (z0x (z0g (i:=2) z51 rfl (Or.inl rfl)) z4s))))) (fun _ _ _ _ _=>z1o)
      (fun _ _ _ _ _=>(zv0 (z03 2) (zj5 (zv1 hr (zd7 hr (z03 3) (z03 0)) (zd7 hr (z03 3) (z03 1)))))))))))))
theorem z81:FnScope ["many", "answers"] ["many", "answers"] (z07 (top 25)):=⟨rfl,rfl,rfl,by decide +kernel,rfl,by decide +kernel,by decide +kernel⟩
noncomputable def z2a (f_can_be:FX) (C_NoFit:Addr):SX :=
    (zde (zfa (bTX (vLX f_can_be (upL (z02 (z01 0) (z02 (z01 1) z0b))))))
      (zdd C_NoFit (vC (.str "the answers cannot all be right")))
      (upS sNx))
noncomputable def z38 (f_can_be:FX) (C_NoFit:Addr):FX:=zc4 2 2 (z2a f_can_be C_NoFit)
theorem z86 {f_can_be:FX} {k_can_be k:Nat} {C_NoFit:Addr} (F:Fun K "check_right" "check_right" (top 25) f fd) (D_can_be:DfX P w K mg base k_can_be "can_be" ["many", "answers"] (spX K f_can_be)) (h_can_be:k_can_be≤k) (e_NoFit:mg "NoFit" = some (.ref C_NoFit)∧z3d K C_NoFit):FnOk P w K mg base (CXr P w) (k+1) f fd ["many", "answers"] (spX K (z38 f_can_be C_NoFit)):=by
  unfold z38 z2a
  exact zp9 F z81 fun cdv A outer s H E hr =>
    (z3y (zfe (zpe (zpd (zee D_can_be (hr.mono h_can_be) (zbp (z06 (z03 0) (z06 (z03 1) z0c))))))
      (z3y (zj3 z8w e_NoFit.1 e_NoFit.2))
      za5))
theorem sc_fits:FnScope ["kinds", "answers", "i", "j", "alike"] ["kinds", "answers"] (z07 (top 26)):=⟨rfl,rfl,rfl,by decide +kernel,rfl,by decide +kernel,by decide +kernel⟩
noncomputable def zcv:SV :=
    (z0v (z82 (ivL (z01 1)) (z2p 3 (z0e (z00 2) (z0e (z00 3) (z0e (z00 4) z2q))))
      (sIf (vT (v2 fNe (v2 fEq (v2 fIx (z01 0) (z01 2)) (v2 fIx (z01 0) (z01 3))) (z01 4)))
        (z32 (vC (.bl false)))
        sNx))
    (z32 (vC (.bl true))))
noncomputable def z45:List D→M→Option (D×M):=z6j 5 2 (zcv)
theorem zo1 {k:Nat} (F:Fun K "fits" "fits" (top 26) f fd):FnOk P w K mg base CX0 (k+1) f fd ["kinds", "answers"] (spM K (z45)):=by
  unfold z45 zcv
  exact z9k F sc_fits fun cdv A outer s H E hr =>
    (z08 (z3f PassesOwn.never rfl (z15 (z03 1)) (z6r (n:=3) (z0x (z0g (i:=2) sc_fits.nd rfl (Or.inl rfl)) (z0x (z0g (i:=3) sc_fits.nd rfl (Or.inl rfl)) (z0x (z0g (i:=4) sc_fits.nd rfl (Or.inl rfl)) z4s))))
      (z0j (z3e (zbu hr (zmv hr (z66 (z03 0) (z03 2)) (z66 (z03 0) (z03 3))) (z03 4))
        (z0j (z0t zja))
        z1m)))
    (z0j (z0t zja)))
theorem sc_one_thing_more:FnScope ["sort", "most", "used"] ["sort", "most"] (z07 (top 14)):=⟨rfl,rfl,rfl,by decide +kernel,rfl,by decide +kernel,by decide +kernel⟩
theorem z50:((["number"]:List Str)++([("sort",0)]:List (Str×Nat)).map (·.1)).Nodup:=by decide +kernel
noncomputable def z25:SV :=
    (z0v (z10 (v2 z0w (v2 z9o (z01 0) (v1 zof (vC (.int 1)))) (vC (.int 1))) (z00 2))
    (z32 (z1d ["number"] [("sort",0)] (zrw (v2 zt3 (v2 z0w (z01 2) (vC (.int 1))) (z01 1))) (z00 0) z1i (v2 z0w (z01 1) (vL z3j (z02 (z01 0) z0b))))))
noncomputable def z0f:List D→M→Option (D×M):=z6j 3 2 (z25)
theorem z5q {k:Nat} (F:Fun K "one_thing_more" "one_thing_more" (top 14) f fd) (m_max:mg "max" = none) (m_min:mg "min" = none) (m_range:mg "range" = none):FnOk P w K mg base CX0 (k+1) f fd ["sort", "most"] (spM K (z0f)):=by
  unfold z0f z25
  exact z9k F sc_one_thing_more fun cdv A outer s H E hr =>
    (z08 (z0s (i:=2) sc_one_thing_more.nd rfl (Or.inl rfl) (z34 (zld m_max (z03 0) (zt8 z0q)) z0q))
    (z0j (z0t (z5e (own:=["number"]) (cap:=[("sort",0)]) (z2i rfl) (zfj m_range (zt9 m_min (z34 (z03 2) z0q) (z03 1)))
      (fun _ _ _ _ _=>(z0g (i:=0) z50 rfl (Or.inl rfl))) (fun _ _ _ _ _=>z1o)
      (fun _ _ _ _ _=>(z34 (z03 1) (z5d (z06 (z03 0) z0c))))))))
theorem sc_all_sorts:FnScope ["many", "most", "sorts", "step"] ["many", "most"] (z07 (top 15)):=⟨rfl,rfl,rfl,by decide +kernel,rfl,by decide +kernel,by decide +kernel⟩
theorem z4n:((["sort", "longer"]:List Str)++([("most",1)]:List (Str×Nat)).map (·.1)).Nodup:=by decide +kernel
noncomputable def z48 (f_one_thing_more:List D→M→Option (D×M)) (c_MOST_THINGS:D) (C_TooMany:Addr):SX :=
    (z4f (zde (upB (bOr (vT (v2 fLt (z01 0) (vC (.int 0)))) (vT (v2 fGt (z01 0) (vC c_MOST_THINGS)))))
      (z4v C_TooMany ((vC c_MOST_THINGS)::((z01 0)::[])))
      (upS sNx))
    (upS (z0v (z10 (vL z3j (z02 (vL z3j z0b) z0b)) (z00 2))
    (z0v (z82 (ivR (z01 0)) (z00 3)
      (z10 (z4j ["sort", "longer"] [("most",1)] (ivL (z01 2)) (z00 0) z1i (ivL (vL f_one_thing_more (z02 (z01 0) (z02 (z01 2) z0b)))) (z00 1) z1i (z01 1)) (z00 2)))
    (z32 (z01 2))))))
noncomputable def z1q (f_one_thing_more:List D→M→Option (D×M)) (c_MOST_THINGS:D) (C_TooMany:Addr):FX:=zc4 4 2 (z48 f_one_thing_more c_MOST_THINGS C_TooMany)
theorem zao {f_one_thing_more:List D→M→Option (D×M)} {k_one_thing_more k:Nat} {c_MOST_THINGS:D} {v_MOST_THINGS:V} {u_MOST_THINGS:Value} {C_TooMany:Addr} (F:Fun K "all_sorts" "all_sorts" (top 15) f fd) (D_one_thing_more:Df P w K mg base k_one_thing_more "one_thing_more" ["sort", "most"] (spM K f_one_thing_more)) (h_one_thing_more:k_one_thing_more≤k) (g_MOST_THINGS:mg "MOST_THINGS" = some u_MOST_THINGS∧RelV v_MOST_THINGS u_MOST_THINGS∧∀ W,DR K W c_MOST_THINGS v_MOST_THINGS) (e_TooMany:mg "TooMany" = some (.ref C_TooMany)∧z3d K C_TooMany) (m_range:mg "range" = none):FnOk P w K mg base (CXr P w) (k+1) f fd ["many", "most"] (spX K (z1q f_one_thing_more c_MOST_THINGS C_TooMany)):=by
  unfold z1q z48
  exact zp9 F sc_all_sorts fun cdv A outer s H E hr =>
    (z6q (zfe (zj2 (PW.pt (zfg (zmo (z03 0) z0q) (zd5 (zpm (z03 0) (zfm g_MOST_THINGS.1 g_MOST_THINGS.2.1 g_MOST_THINGS.2.2))))))
      (z3y (z5c (zj6 (ziw (by decide) (znl (zfm g_MOST_THINGS.1 g_MOST_THINGS.2.1 g_MOST_THINGS.2.2) (ziw (by decide) (znl (z03 0) pj0))))) e_TooMany.1 e_TooMany.2))
      za5)
    (zl9 (z08 (z0s (i:=2) sc_all_sorts.nd rfl (Or.inl rfl) (z5d (z06 (z5d z0c) z0c)))
    (z08 (z3f PassesOwn.never rfl (z3k m_range (z03 0)) (z0g (i:=3) sc_all_sorts.nd rfl (Or.inl rfl))
      (z0j (zbq (i:=2) sc_all_sorts.nd rfl rfl (own:=["sort", "longer"]) (cap:=[("most",1)]) (z2i rfl) (z15 (z03 2))
      (fun _ _ _ _ _=>(z0g (i:=0) z4n rfl (Or.inl rfl))) (fun _ _ _ _ _=>z1o)
      (fun _ _ _ _ _=>(z15 (z4e D_one_thing_more (hr.mono h_one_thing_more) (z06 (z03 0) (z06 (z03 2) z0c))))) (fun _ _ _ _ _=>(z0g (i:=1) z4n rfl (Or.inl rfl))) (fun _ _ _ _ _=>z1o)
      (fun _ _ _ _ _=>(z03 1)))))
    (z0j (z0t (z03 2)))))))
theorem z5n:FnScope ["many", "answers"] ["many", "answers"] (z07 (top 27)):=⟨rfl,rfl,rfl,by decide +kernel,rfl,by decide +kernel,by decide +kernel⟩
theorem z4z:((["sort"]:List Str)++([("answers",1)]:List (Str×Nat)).map (·.1)).Nodup:=by decide +kernel
noncomputable def z1k (f_fits:List D→M→Option (D×M)) (f_check_right:FX) (f_all_sorts:FX):SX :=
    (z4f (z71 (vLX f_check_right (upL (z02 (z01 0) (z02 (z01 1) z0b)))))
    (z93 (z4i ["sort"] [("answers",1)] (vLX f_all_sorts (upL (z02 (z01 0) (z02 (z01 0) z0b)))) (z00 0) (z65 (vL f_fits (z02 (z01 0) (z02 (z01 1) z0b)))) (z01 0))))
noncomputable def z23 (f_fits:List D→M→Option (D×M)) (f_check_right:FX) (f_all_sorts:FX):FX:=zc4 2 2 (z1k f_fits f_check_right f_all_sorts)
theorem z5p {f_fits:List D→M→Option (D×M)} {f_check_right f_all_sorts:FX} {k_fits k_check_right k_all_sorts k:Nat} (F:Fun K "sorts_that_fit" "sorts_that_fit" (top 27) f fd) (D_fits:Df P w K mg base k_fits "fits" ["kinds", "answers"] (spM K f_fits)) (h_fits:k_fits≤k) (D_check_right:DfX P w K mg base k_check_right "check_right" ["many", "answers"] (spX K f_check_right)) (h_check_right:k_check_right≤k) (D_all_sorts:DfX P w K mg base k_all_sorts "all_sorts" ["many", "most"] (spX K f_all_sorts)) (h_all_sorts:k_all_sorts≤k):FnOk P w K mg base (CXr P w) (k+1) f fd ["many", "answers"] (spX K (z23 f_fits f_check_right f_all_sorts)):=by
  unfold z23 z1k
  exact zp9 F z5n fun cdv A outer s H E hr =>
    (z6q (zff (zee D_check_right (hr.mono h_check_right) (zbp (z06 (z03 0) (z06 (z03 1) z0c)))))
    (z3y (zla (zlb (own:=["sort"]) (cap:=[("answers",1)]) (z2i rfl) (zee D_all_sorts (hr.mono h_all_sorts) (zbp (z06 (z03 0) (z06 (z03 0) z0c))))
      (fun _ _ _ _ _=>(z0g (i:=0) z4z rfl (Or.inl rfl))) (fun _ _ _ _ _=>(zbt (z2d (z4e D_fits (hr.mono h_fits) (z06 (z03 0) (z06 (z03 1) z0c))))))
      (fun _ _ _ _ _=>(z03 0))))))
theorem sc_alike_things:FnScope ["kinds", "by_kind", "thing", "kind"] ["kinds"] (z07 (top 12)):=⟨rfl,rfl,rfl,by decide +kernel,rfl,by decide +kernel,by decide +kernel⟩
noncomputable def z30:SV :=
    (z0v (z10 zfq (z00 1))
    (z0v (z82 (zu3 (z01 0)) (z2p 2 (z0e (z00 2) (z0e (z00 3) z2q)))
      (z43 (v2l z8b (z21 (z01 1) (z01 3) (vL z7g z0b)) (z01 2))))
    (z32 (v1 ze1 (z01 1)))))
noncomputable def z11:List D→M→Option (D×M):=z6j 4 1 (z30)
theorem z74 {k:Nat} (F:Fun K "alike_things" "alike_things" (top 12) f fd) (m_enumerate:mg "enumerate" = none) (m_list:mg "list" = none):FnOk P w K mg base CX0 (k+1) f fd ["kinds"] (spM K (z11)):=by
  unfold z11 z30
  exact z9k F sc_alike_things fun cdv A outer s H E hr =>
    (z08 (z0s (i:=1) sc_alike_things.nd rfl (Or.inl rfl) zlh)
    (z08 (z3f PassesOwn.never rfl (zml m_enumerate (z03 0)) (z6r (n:=2) (z0x (z0g (i:=2) sc_alike_things.nd rfl (Or.inl rfl)) (z0x (z0g (i:=3) sc_alike_things.nd rfl (Or.inl rfl)) z4s)))
      (z0j (z5k (zjb (z8x (z03 1) (z03 3) (zef z0c)) (z03 2)))))
    (z0j (z0t (zmp m_list (z03 1))))))
theorem sc_most_are:FnScope ["kinds", "groups", "greatest"] ["kinds"] (z07 (top 13)):=⟨rfl,rfl,rfl,by decide +kernel,rfl,by decide +kernel,by decide +kernel⟩
theorem z9c:((["things"]:List Str)++([]:List (Str×Nat)).map (·.1)).Nodup:=by decide +kernel
theorem z9b:((["things"]:List Str)++([("greatest",2)]:List (Str×Nat)).map (·.1)).Nodup:=by decide +kernel
noncomputable def z56 (f_alike_things:List D→M→Option (D×M)):SV :=
    (z0v (z10 (vL f_alike_things (z02 (z01 0) z0b)) (z00 1))
    (z0v (z10 (v2 z9o (z1d ["things"] [] (ivL (z01 1)) (z00 0) z1i (v1 z6b (z01 0))) (vC (.int 0))) (z00 2))
    (z32 (z1d ["things"] [("greatest",2)] (ivL (z01 1)) (z00 0) (vT (v2 fEq (v1 z6b (z01 0)) (z01 1))) (z01 0)))))
noncomputable def z3p (f_alike_things:List D→M→Option (D×M)):List D→M→Option (D×M):=z6j 3 1 (z56 f_alike_things)
theorem zc8 {f_alike_things:List D→M→Option (D×M)} {k_alike_things k:Nat} (F:Fun K "most_are" "most_are" (top 13) f fd) (D_alike_things:Df P w K mg base k_alike_things "alike_things" ["kinds"] (spM K f_alike_things)) (h_alike_things:k_alike_things≤k) (m_len:mg "len" = none) (m_max:mg "max" = none):FnOk P w K mg base CX0 (k+1) f fd ["kinds"] (spM K (z3p f_alike_things)):=by
  unfold z3p z56
  exact z9k F sc_most_are fun cdv A outer s H E hr =>
    (z08 (z0s (i:=1) sc_most_are.nd rfl (Or.inl rfl) (z4e D_alike_things (hr.mono h_alike_things) (z06 (z03 0) z0c)))
    (z08 (z0s (i:=2) sc_most_are.nd rfl (Or.inr rfl) (zld m_max (z5e (own:=["things"]) (cap:=[]) (z2i rfl) (z15 (z03 1))
      (fun _ _ _ _ _=>(z0g (i:=0) z9c rfl (Or.inl rfl))) (fun _ _ _ _ _=>z1o)
      (fun _ _ _ _ _=>(zbv m_len (z03 0)))) z0q))
    (z0j (z0t (z5e (own:=["things"]) (cap:=[("greatest",2)]) (z2i rfl) (z15 (z03 1))
      (fun _ _ _ _ _=>(z0g (i:=0) z9b rfl (Or.inl rfl))) (fun _ _ _ _ _=>(zbt (za9 hr (zbv m_len (z03 0)) (z03 1))))
      (fun _ _ _ _ _=>(z03 0)))))))
theorem sc_most_ends:FnScope ["kinds", "things"] ["kinds"] (z07 (top 18)):=⟨rfl,rfl,rfl,by decide +kernel,rfl,by decide +kernel,by decide +kernel⟩
theorem z4m:((["group", "thing"]:List Str)++([]:List (Str×Nat)).map (·.1)).Nodup:=by decide +kernel
theorem z87:((["thing"]:List Str)++([]:List (Str×Nat)).map (·.1)).Nodup:=by decide +kernel
noncomputable def z47 (f_most_are:List D→M→Option (D×M)):SV :=
    (z0v (z10 (v1 z9n (z4j ["group", "thing"] [] (ivL (vL f_most_are (z02 (z01 0) z0b))) (z00 0) z1i (ivL (z01 0)) (z00 1) z1i (z01 1))) (z00 1))
    (z32 (z1d ["thing"] [] (ivL (z01 1)) (z00 0) z1i (vL za3 (z02 (vC (.str "one")) (z02 (z01 0) z0b))))))
noncomputable def z35 (f_most_are:List D→M→Option (D×M)):List D→M→Option (D×M):=z6j 2 1 (z47 f_most_are)
theorem zan {f_most_are:List D→M→Option (D×M)} {k_most_are k:Nat} (F:Fun K "most_ends" "most_ends" (top 18) f fd) (D_most_are:Df P w K mg base k_most_are "most_are" ["kinds"] (spM K f_most_are)) (h_most_are:k_most_are≤k) (m_sorted:mg "sorted" = none):FnOk P w K mg base CX0 (k+1) f fd ["kinds"] (spM K (z35 f_most_are)):=by
  unfold z35 z47
  exact z9k F sc_most_ends fun cdv A outer s H E hr =>
    (z08 (z0s (i:=1) sc_most_ends.nd rfl (Or.inl rfl) (zj4 m_sorted (zmw (own:=["group", "thing"]) (cap:=[]) (z2i rfl) (z15 (z4e D_most_are (hr.mono h_most_are) (z06 (z03 0) z0c)))
      (fun _ _ _ _ _=>(z0g (i:=0) z4m rfl (Or.inl rfl))) (fun _ _ _ _ _=>z1o)
      (fun _ _ _ _ _=>(z15 (z03 0))) (fun _ _ _ _ _=>(z0g (i:=1) z4m rfl (Or.inl rfl))) (fun _ _ _ _ _=>z1o)
      (fun _ _ _ _ _=>(z03 1)))))
    (z0j (z0t (z5e (own:=["thing"]) (cap:=[]) (z2i rfl) (z15 (z03 1))
      (fun _ _ _ _ _=>(z0g (i:=0) z87 rfl (Or.inl rfl))) (fun _ _ _ _ _=>z1o)
      (fun _ _ _ _ _=>(zfl (z06 z8w (z06 (z03 0) z0c))))))))
theorem sc_common_end:FnScope ["ends", "end"] ["ends"] (z07 (top 19)):=⟨rfl,rfl,rfl,by decide +kernel,rfl,by decide +kernel,by decide +kernel⟩
theorem z76:((["others"]:List Str)++([("end",1)]:List (Str×Nat)).map (·.1)).Nodup:=by decide +kernel
noncomputable def z3t (c_OPEN:D):SV :=
    (z0v (z82 (ivL (v2 fIx (z01 0) (vC (.int 0)))) (z00 1)
      (sIf (z65 (v1 ze2 (z1d ["others"] [("end",1)] (ivL (z01 0)) (z00 0) z1i (v2 (zkv false) (z01 1) (z01 0)))))
        (z32 (z01 1))
        sNx))
    (z32 (vC c_OPEN)))
noncomputable def z19 (c_OPEN:D):List D→M→Option (D×M):=z6j 2 1 (z3t c_OPEN)
theorem z9a {k:Nat} {c_OPEN:D} {v_OPEN:V} {u_OPEN:Value} (F:Fun K "common_end" "common_end" (top 19) f fd) (g_OPEN:mg "OPEN" = some u_OPEN∧RelV v_OPEN u_OPEN∧∀ W,DR K W c_OPEN v_OPEN) (m_all:mg "all" = none):FnOk P w K mg base CX0 (k+1) f fd ["ends"] (spM K (z19 c_OPEN)):=by
  unfold z19 z3t
  exact z9k F sc_common_end fun cdv A outer s H E hr =>
    (z08 (z3f PassesOwn.never rfl (z15 (z66 (z03 0) z0q)) (z0g (i:=1) sc_common_end.nd rfl (Or.inr rfl))
      (z0j (z3e (z2d (zjd m_all (z5e (own:=["others"]) (cap:=[("end",1)]) (z2i rfl) (z15 (z03 0))
      (fun _ _ _ _ _=>(z0g (i:=0) z76 rfl (Or.inl rfl))) (fun _ _ _ _ _=>z1o)
      (fun _ _ _ _ _=>(ztb hr (z03 1) (z03 0))))))
        (z0j (z0t (z03 1)))
        z1m)))
    (z0j (z0t (zfm g_OPEN.1 g_OPEN.2.1 g_OPEN.2.2))))
theorem z92:FnScope ["many", "answers"] ["many", "answers"] (z07 (top 29)):=⟨rfl,rfl,rfl,by decide +kernel,rfl,by decide +kernel,by decide +kernel⟩
theorem z75:((["sort"]:List Str)++([]:List (Str×Nat)).map (·.1)).Nodup:=by decide +kernel
noncomputable def z2r (f_common_end:List D→M→Option (D×M)) (f_most_ends:List D→M→Option (D×M)) (f_sorts_that_fit:FX):SX :=
    (z93 (vLX (upF f_common_end) (z8n (z4i ["sort"] [] (vLX f_sorts_that_fit (upL (z02 (z01 0) (z02 (z01 1) z0b)))) (z00 0) z1i (vL f_most_ends (z02 (z01 0) z0b))) (upL z0b))))
noncomputable def z3o (f_common_end:List D→M→Option (D×M)) (f_most_ends:List D→M→Option (D×M)) (f_sorts_that_fit:FX):FX:=zc4 2 2 (z2r f_common_end f_most_ends f_sorts_that_fit)
theorem z98 {f_common_end f_most_ends:List D→M→Option (D×M)} {f_sorts_that_fit:FX} {k_common_end k_most_ends k_sorts_that_fit k:Nat} (F:Fun K "tells_most" "tells_most" (top 29) f fd) (D_common_end:Df P w K mg base k_common_end "common_end" ["ends"] (spM K f_common_end)) (h_common_end:k_common_end≤k) (D_most_ends:Df P w K mg base k_most_ends "most_ends" ["kinds"] (spM K f_most_ends)) (h_most_ends:k_most_ends≤k) (D_sorts_that_fit:DfX P w K mg base k_sorts_that_fit "sorts_that_fit" ["many", "answers"] (spX K f_sorts_that_fit)) (h_sorts_that_fit:k_sorts_that_fit≤k):FnOk P w K mg base (CXr P w) (k+1) f fd ["many", "answers"] (spX K (z3o f_common_end f_most_ends f_sorts_that_fit)):=by
  unfold z3o z2r
  exact zp9 F z92 fun cdv A outer s H E hr =>
    (z3y (zla (zuz D_common_end (hr.mono h_common_end) (zmk (zlb (own:=["sort"]) (cap:=[]) (z2i rfl) (zee D_sorts_that_fit (hr.mono h_sorts_that_fit) (zbp (z06 (z03 0) (z06 (z03 1) z0c))))
      (fun _ _ _ _ _=>(z0g (i:=0) z75 rfl (Or.inl rfl))) (fun _ _ _ _ _=>z1o)
      (fun _ _ _ _ _=>(z4e D_most_ends (hr.mono h_most_ends) (z06 (z03 0) z0c)))) (zbp z0c)))))
end
section
variable {P:Program} {w:World} {K:PySem.W.Frag} {mg:Str→Option Value} {base:Heap} {f:Addr} {fd:FuncData}
theorem z80:FnScope ["script", "k"] ["script", "k"] (z07 (top 31)):=⟨rfl,rfl,rfl,by decide +kernel,rfl,by decide +kernel,by decide +kernel⟩
noncomputable def z29:SV :=
    (z0v (sIf (vT (v2 fLt (z01 1) (v1 z6b (z01 0))))
      (z32 (v2 fIx (z01 0) (z01 1)))
      sNx)
    (z32 (vC (.int 0))))
noncomputable def z0u:List D→M→Option (D×M):=z6j 2 2 (z29)
theorem z84 {k:Nat} (F:Fun K "_law_cell_at" "_law_cell_at" (top 31) f fd) (m_len:mg "len" = none):FnOk P w K mg base CX0 (k+1) f fd ["script", "k"] (spM K (z0u)):=by
  unfold z0u z29
  exact z9k F z80 fun cdv A outer s H E hr =>
    (z08 (z3e (zmo (z03 1) (zbv m_len (z03 0)))
      (z0j (z0t (z66 (z03 0) (z03 1))))
      z1m)
    (z0j (z0t z0q)))
theorem zc1:FnScope ["cell"] ["cell"] (z07 (top 32)):=⟨rfl,rfl,rfl,by decide +kernel,rfl,by decide +kernel,by decide +kernel⟩
noncomputable def z58:SV :=
    (z32 (vL z7g (z02 (v2 zuw (vC (.int 0)) (v2 zpa (z01 0) (v2 zuv (vC (.int 10)) (vC (.int 18))))) (z02 (v2 zhz (z01 0) (vC (.int 2147483629))) (z02 (vC (.int 0)) z0b)))))
noncomputable def z1f:List D→M→Option (D×M):=z6j 1 1 (z58)
theorem zcd {k:Nat} (F:Fun K "_law_deck" "_law_deck" (top 32) f fd) (m_max:mg "max" = none):FnOk P w K mg base CX0 (k+1) f fd ["cell"] (spM K (z1f)):=by
  unfold z1f z58
  exact z9k F zc1 fun cdv A outer s H E hr =>
    (z0j (z0t (zef (z06 (zta m_max z0q (zpi (z03 0) (zt7 z0q z0q))) (z06 (za7 (z03 0) z0q) (z06 z0q z0c))))))
theorem sc_law_take:FnScope ["deck", "many", "digit", "stir"] ["deck", "many"] (z07 (top 33)):=⟨rfl,rfl,rfl,by decide +kernel,rfl,by decide +kernel,by decide +kernel⟩
noncomputable def z3s:SV :=
    (z0v (z10 (v2 z0w (v2 fIx (z01 0) (vC (.int 2))) (vC (.int 1))) (z89 (z01 0) (vC (.int 2))))
    (z0v (sIf (vT (v2 fGt (v2 fIx (z01 0) (vC (.int 0))) (vC (.int 0))))
      (z0v (z10 (v2 zhz (v2 fIx (z01 0) (vC (.int 0))) (vC (.int 65536))) (z00 2))
      (z0v (z10 (v2 zua (v2 fIx (z01 0) (vC (.int 0))) (vC (.int 65536))) (z89 (z01 0) (vC (.int 0))))
      (z32 (v2 zhz (z01 2) (z01 1)))))
      sNx)
    (z0v (z10 (v2 zhz (v2 z20 (v2 z0w (v2 fIx (z01 0) (vC (.int 1))) (v2 z20 (vC (.int 7919)) (v2 fIx (z01 0) (vC (.int 2))))) (vC (.int 48271))) (vC (.int 2147483647))) (z00 3))
    (z0v (z10 (v2 zhz (v2 z20 (z01 3) (z01 3)) (vC (.int 2147483629))) (z00 3))
    (z32 (v2 zhz (v2 zua (v2 zhz (v2 z20 (v2 z0w (z01 3) (v2 z20 (vC (.int 40692)) (v2 fIx (z01 0) (vC (.int 2))))) (vC (.int 69621))) (vC (.int 2147483563))) (vC (.int 8))) (z01 1)))))))
noncomputable def z04:List D→M→Option (D×M):=z6j 4 2 (z3s)
theorem zca {k:Nat} (F:Fun K "_law_take" "_law_take" (top 33) f fd):FnOk P w K mg base CX0 (k+1) f fd ["deck", "many"] (spM K (z04)):=by
  unfold z04 z3s
  exact z9k F sc_law_take fun cdv A outer s H E hr =>
    (z08 (zfi (z34 (z66 (z03 0) z0q) z0q) (zfk (z03 0) z0q))
    (z08 (z3e (zpm (z66 (z03 0) z0q) z0q)
      (z08 (z0s (i:=2) sc_law_take.nd rfl (Or.inl rfl) (za7 (z66 (z03 0) z0q) z0q))
      (z08 (zfi (zlg (z66 (z03 0) z0q) z0q) (zfk (z03 0) z0q))
      (z0j (z0t (za7 (z03 2) (z03 1))))))
      z1m)
    (z08 (z0s (i:=3) sc_law_take.nd rfl (Or.inl rfl) (za7 (z4t (z34 (z66 (z03 0) z0q) (z4t z0q (z66 (z03 0) z0q))) z0q) z0q))
    (z08 (z0s (i:=3) sc_law_take.nd rfl (Or.inl rfl) (za7 (z4t (z03 3) (z03 3)) z0q))
    (z0j (z0t (za7 (zlg (za7 (z4t (z34 (z03 3) (z4t z0q (z66 (z03 0) z0q))) z0q) z0q) z0q) (z03 1))))))))
theorem sc_law_answers:FnScope ["deck", "many", "sorts", "found", "turn", "i", "j", "alike"] ["deck", "many"] (z07 (top 34)):=⟨rfl,rfl,rfl,by decide +kernel,rfl,by decide +kernel,by decide +kernel⟩
theorem z6a:((["thing"]:List Str)++([("deck",0)]:List (Str×Nat)).map (·.1)).Nodup:=by decide +kernel
noncomputable def z3b (f_law_take:List D→M→Option (D×M)):SV :=
    (z0v (z10 (z1d ["thing"] [("deck",0)] (ivR (z01 1)) (z00 0) z1i (vL f_law_take (z02 (z01 1) (z02 (v2 z0w (vC (.int 1)) (vL f_law_take (z02 (z01 1) (z02 (vC (.int 4)) z0b)))) z0b)))) (z00 2))
    (z0v (z10 (vL z7g z0b) (z00 3))
    (z0v (z82 (ivR (v2 z20 (vL f_law_take (z02 (z01 0) (z02 (v2 fIx (vL z3j (z02 (vC (.int 4)) (z02 (vC (.int 15)) z0b))) (vL f_law_take (z02 (z01 0) (z02 (vC (.int 2)) z0b)))) z0b))) (v1 z7k (v2 fGt (z01 1) (vC (.int 1)))))) (z00 4)
      (z0v (z10 (vL f_law_take (z02 (z01 0) (z02 (z01 1) z0b))) (z00 5))
      (z0v (z10 (v2 zhz (v2 z0w (v2 z0w (z01 5) (vC (.int 1))) (vL f_law_take (z02 (z01 0) (z02 (v2 zpa (z01 1) (vC (.int 1))) z0b)))) (z01 1)) (z00 6))
      (z0v (z10 (v2 fEq (v2 fIx (z01 2) (z01 5)) (v2 fIx (z01 2) (z01 6))) (z00 7))
      (z0v (sIf (vT (v2 fEq (vL f_law_take (z02 (z01 0) (z02 (vC (.int 40)) z0b))) (vC (.int 0))))
        (z10 (v1 zf2 (z01 7)) (z00 7))
        sNx)
      (z43 (v2l z8b (z01 3) (vL za3 (z02 (z01 5) (z02 (z01 6) (z02 (z01 7) z0b)))))))))))
    (z0v (sIf (zim (vT (v2 fNe (z01 3) (vL z7g z0b))) (vT (v2 fEq (vL f_law_take (z02 (z01 0) (z02 (vC (.int 8)) z0b))) (vC (.int 3)))))
      (z10 (vSl (v2 z20 (z01 3) (vC (.int 300))) z5f (z4g (v2 z0w (vC (.int 100)) (vL f_law_take (z02 (z01 0) (z02 (vC (.int 199)) z0b)))))) (z00 3))
      sNx)
    (z32 (z01 3))))))
noncomputable def z1b (f_law_take:List D→M→Option (D×M)):List D→M→Option (D×M):=z6j 8 2 (z3b f_law_take)
theorem z85 {f_law_take:List D→M→Option (D×M)} {k_law_take k:Nat} (F:Fun K "_law_answers" "_law_answers" (top 34) f fd) (D_law_take:Df P w K mg base k_law_take "_law_take" ["deck", "many"] (spM K f_law_take)) (h_law_take:k_law_take≤k) (m_range:mg "range" = none) (m_int:mg "int" = none):FnOk P w K mg base CX0 (k+1) f fd ["deck", "many"] (spM K (z1b f_law_take)):=by
  unfold z1b z3b
  exact z9k F sc_law_answers fun cdv A outer s H E hr =>
    (z08 (z8e (i:=2) sc_law_answers.nd rfl rfl (own:=["thing"]) (cap:=[("deck",0)]) (z2i rfl) (z3k m_range (z03 1))
      (fun _ _ _ _ _=>(z0g (i:=0) z6a rfl (Or.inl rfl))) (fun _ _ _ _ _=>z1o)
      (fun _ _ _ _ _=>(z4e D_law_take (hr.mono h_law_take) (z06 (z03 1) (z06 (z34 z0q (z4e D_law_take (hr.mono h_law_take) (z06 (z03 1) (z06 z0q z0c)))) z0c)))))
    (z08 (z0s (i:=3) sc_law_answers.nd rfl (Or.inl rfl) (zef z0c))
    (z08 (z3f PassesOwn.never rfl (z3k m_range (z4t (z4e D_law_take (hr.mono h_law_take) (z06 (z03 0) (z06 (z66 (z5d (z06 z0q (z06 z0q z0c))) (z4e D_law_take (hr.mono h_law_take) (z06 (z03 0) (z06 z0q z0c)))) z0c))) (zlf m_int (zuk (z03 1) z0q)))) (z0g (i:=4) sc_law_answers.nd rfl (Or.inl rfl))
      (z08 (z0s (i:=5) sc_law_answers.nd rfl (Or.inl rfl) (z4e D_law_take (hr.mono h_law_take) (z06 (z03 0) (z06 (z03 1) z0c))))
      (z08 (z0s (i:=6) sc_law_answers.nd rfl (Or.inl rfl) (za7 (z34 (z34 (z03 5) z0q) (z4e D_law_take (hr.mono h_law_take) (z06 (z03 0) (z06 (zpi (z03 1) z0q) z0c)))) (z03 1)))
      (z08 (z0s (i:=7) sc_law_answers.nd rfl (Or.inl rfl) (zmv hr (z66 (z03 2) (z03 5)) (z66 (z03 2) (z03 6))))
      (z08 (z3e (za9 hr (z4e D_law_take (hr.mono h_law_take) (z06 (z03 0) (z06 z0q z0c))) z0q)
        (z0j (z0s (i:=7) sc_law_answers.nd rfl (Or.inl rfl) (zmm (z03 7))))
        z1m)
      (z0j (z5k (zjb (z03 3) (zfl (z06 (z03 5) (z06 (z03 6) (z06 (z03 7) z0c))))))))))))
    (z08 (z3e (PW.pt (zlc (zbu hr (z03 3) (zef z0c)) (zfh (za9 hr (z4e D_law_take (hr.mono h_law_take) (z06 (z03 0) (z06 z0q z0c))) z0q))))
      (z0j (z0s (i:=3) sc_law_answers.nd rfl (Or.inl rfl) (zt6 (z4t (z03 3) z0q) zbs (zbr (z34 z0q (z4e D_law_take (hr.mono h_law_take) (z06 (z03 0) (z06 z0q z0c))))))))
      z1m)
    (z0j (z0t (z03 3)))))))
theorem sc_law_all_sorts:FnScope ["many", "found", "thing", "longer", "sorts", "kind"] ["many"] (z07 (top 35)):=⟨rfl,rfl,rfl,by decide +kernel,rfl,by decide +kernel,by decide +kernel⟩
noncomputable def z2g:SV :=
    (z0v (z10 (vL z3j (z02 (vL z3j z0b) z0b)) (z00 1))
    (z0v (z82 (ivR (z01 0)) (z00 2)
      (z0v (z10 (vL z7g z0b) (z00 3))
      (z0v (z82 (ivL (z01 1)) (z00 4)
        (z82 (ivR (v2 z0w (v1 z54 (z01 4)) (vC (.int 1)))) (z00 5)
          (z43 (v2l z8b (z01 3) (v2 z0w (z01 4) (vL z3j (z02 (z01 5) z0b)))))))
      (z10 (z01 3) (z00 1)))))
    (z32 (z01 1))))
noncomputable def z0i:List D→M→Option (D×M):=z6j 6 1 (z2g)
theorem z69 {k:Nat} (F:Fun K "_law_all_sorts" "_law_all_sorts" (top 35) f fd) (m_range:mg "range" = none) (m_len:mg "len" = none) (m_set:mg "set" = none):FnOk P w K mg base CX0 (k+1) f fd ["many"] (spM K (z0i)):=by
  unfold z0i z2g
  exact z9k F sc_law_all_sorts fun cdv A outer s H E hr =>
    (z08 (z0s (i:=1) sc_law_all_sorts.nd rfl (Or.inl rfl) (z5d (z06 (z5d z0c) z0c)))
    (z08 (z3f PassesOwn.never rfl (z3k m_range (z03 0)) (z0g (i:=2) sc_law_all_sorts.nd rfl (Or.inl rfl))
      (z08 (z0s (i:=3) sc_law_all_sorts.nd rfl (Or.inl rfl) (zef z0c))
      (z08 (z3f PassesOwn.never rfl (z15 (z03 1)) (z0g (i:=4) sc_law_all_sorts.nd rfl (Or.inl rfl))
        (z0j (z3f PassesOwn.never rfl (z3k m_range (z34 (zj7 m_len m_set (z03 4)) z0q)) (z0g (i:=5) sc_law_all_sorts.nd rfl (Or.inl rfl))
          (z0j (z5k (zjb (z03 3) (z34 (z03 4) (z5d (z06 (z03 5) z0c)))))))))
      (z0j (z0s (i:=1) sc_law_all_sorts.nd rfl (Or.inl rfl) (z03 3))))))
    (z0j (z0t (z03 1)))))
theorem sc_law_fitting:FnScope ["many", "answers", "found", "sorts"] ["many", "answers"] (z07 (top 36)):=⟨rfl,rfl,rfl,by decide +kernel,rfl,by decide +kernel,by decide +kernel⟩
theorem z2f:((["i", "j", "alike"]:List Str)++([("sorts",3)]:List (Str×Nat)).map (·.1)).Nodup:=by decide +kernel
noncomputable def z3a (f_law_all_sorts:List D→M→Option (D×M)):SV :=
    (z0v (z10 (vL z7g z0b) (z00 2))
    (z0v (z82 (ivL (vL f_law_all_sorts (z02 (z01 0) z0b))) (z00 3)
      (sIf (z65 (v1 ze2 (z1d ["i", "j", "alike"] [("sorts",3)] (ivL (z01 1)) (z2p 3 (z0e (z00 0) (z0e (z00 1) (z0e (z00 2) z2q)))) z1i (v2 fEq (v2 fEq (v2 fIx (z01 3) (z01 0)) (v2 fIx (z01 3) (z01 1))) (z01 2)))))
        (z43 (v2l z8b (z01 2) (z01 3)))
        sNx))
    (z32 (z01 2))))
noncomputable def z0y (f_law_all_sorts:List D→M→Option (D×M)):List D→M→Option (D×M):=z6j 4 2 (z3a f_law_all_sorts)
theorem z83 {f_law_all_sorts:List D→M→Option (D×M)} {k_law_all_sorts k:Nat} (F:Fun K "_law_fitting" "_law_fitting" (top 36) f fd) (D_law_all_sorts:Df P w K mg base k_law_all_sorts "_law_all_sorts" ["many"] (spM K f_law_all_sorts)) (h_law_all_sorts:k_law_all_sorts≤k) (m_all:mg "all" = none):FnOk P w K mg base CX0 (k+1) f fd ["many", "answers"] (spM K (z0y f_law_all_sorts)):=by
  unfold z0y z3a
  exact z9k F sc_law_fitting fun cdv A outer s H E hr =>
    (z08 (z0s (i:=2) sc_law_fitting.nd rfl (Or.inl rfl) (zef z0c))
    (z08 (z3f PassesOwn.never rfl (z15 (z4e D_law_all_sorts (hr.mono h_law_all_sorts) (z06 (z03 0) z0c))) (z0g (i:=3) sc_law_fitting.nd rfl (Or.inr rfl))
      (z0j (z3e (z2d (zjd m_all (z5e (own:=["i", "j", "alike"]) (cap:=[("sorts",3)]) (z2i rfl) (z15 (z03 1))
      (fun _ _ _ _ _=>(z6r (n:=3) (z0x (z0g (i:=0) z2f rfl (Or.inl rfl)) (z0x (z0g (i:=1) z2f rfl (Or.inl rfl)) (z0x (z0g (i:=2) z2f rfl (Or.inl rfl)) z4s))))) (fun _ _ _ _ _=>z1o)
      (fun _ _ _ _ _=>(zmv hr (zmv hr (z66 (z03 3) (z03 0)) (z66 (z03 3) (z03 1))) (z03 2))))))
        (z0j (z5k (zjb (z03 2) (z03 3))))
        z1m)))
    (z0j (z0t (z03 2)))))
theorem sc_law_kind:FnScope ["caught", "kinds", "odd"] ["caught"] (z07 (top 37)):=⟨rfl,rfl,rfl,by decide +kernel,rfl,by decide +kernel,by decide +kernel⟩
noncomputable def z57 (q_TooMany:Addr→Option Bool) (q_NoFit:Addr→Option Bool) (q_NoThing:Addr→Option Bool) (q_NoneYet:Addr→Option Bool) (q_NoText:Addr→Option Bool) (q_NoName:Addr→Option Bool) (q_NoForm:Addr→Option Bool) (q_NoAsk:Addr→Option Bool) (q_ValueError:Addr→Option Bool):SV :=
    (z0v (z10 (vL z3j (z02 (v1 (zb1 q_NoThing) (z01 0)) (z02 (v1 (zb1 q_NoFit) (z01 0)) (z02 (v1 (zb1 q_TooMany) (z01 0)) z0b)))) (z00 1))
    (z0v (z10 (v1 (zb0 [q_NoAsk,q_NoForm,q_NoName,q_NoText,q_NoneYet]) (z01 0)) (z00 2))
    (z0v (sIf (bOr (z65 (z01 2)) (bOr (zfd (z65 (v1 (zb1 q_ValueError) (z01 0)))) (vT (v2 fNe (v2l z5h (z01 1) (vC (.bl true))) (vC (.int 1))))))
      (z32 (vC (.str "odd")))
      sNx)
    (z32 (v2 fIx (vL z3j (z02 (vC (.str "thing")) (z02 (vC (.str "fit")) (z02 (vC (.str "many")) z0b)))) (v2l zi0 (z01 1) (vC (.bl true))))))))
noncomputable def z24 (q_TooMany:Addr→Option Bool) (q_NoFit:Addr→Option Bool) (q_NoThing:Addr→Option Bool) (q_NoneYet:Addr→Option Bool) (q_NoText:Addr→Option Bool) (q_NoName:Addr→Option Bool) (q_NoForm:Addr→Option Bool) (q_NoAsk:Addr→Option Bool) (q_ValueError:Addr→Option Bool):List D→M→Option (D×M):=z6j 3 1 (z57 q_TooMany q_NoFit q_NoThing q_NoneYet q_NoText q_NoName q_NoForm q_NoAsk q_ValueError)
theorem zcc {k:Nat} {D_TooMany:Addr} {q_TooMany:Addr→Option Bool} {D_NoFit:Addr} {q_NoFit:Addr→Option Bool} {D_NoThing:Addr} {q_NoThing:Addr→Option Bool} {D_NoneYet:Addr} {q_NoneYet:Addr→Option Bool} {D_NoText:Addr} {q_NoText:Addr→Option Bool} {D_NoName:Addr} {q_NoName:Addr→Option Bool} {D_NoForm:Addr} {q_NoForm:Addr→Option Bool} {D_NoAsk:Addr} {q_NoAsk:Addr→Option Bool} {q_ValueError:Addr→Option Bool} (F:Fun K "_law_kind" "_law_kind" (top 37) f fd) (i_TooMany:mg "TooMany" = some (.ref D_TooMany)∧IsX K (.ref D_TooMany) q_TooMany) (i_NoFit:mg "NoFit" = some (.ref D_NoFit)∧IsX K (.ref D_NoFit) q_NoFit) (i_NoThing:mg "NoThing" = some (.ref D_NoThing)∧IsX K (.ref D_NoThing) q_NoThing) (i_NoneYet:mg "NoneYet" = some (.ref D_NoneYet)∧IsX K (.ref D_NoneYet) q_NoneYet) (i_NoText:mg "NoText" = some (.ref D_NoText)∧IsX K (.ref D_NoText) q_NoText) (i_NoName:mg "NoName" = some (.ref D_NoName)∧IsX K (.ref D_NoName) q_NoName) (i_NoForm:mg "NoForm" = some (.ref D_NoForm)∧IsX K (.ref D_NoForm) q_NoForm) (i_NoAsk:mg "NoAsk" = some (.ref D_NoAsk)∧IsX K (.ref D_NoAsk) q_NoAsk) (i_ValueError:IsX K (.ty "ValueError") q_ValueError) (m_isinstance:mg "isinstance" = none) (m_ValueError:mg "ValueError" = none):FnOk P w K mg base CX0 (k+1) f fd ["caught"] (spM K (z24 q_TooMany q_NoFit q_NoThing q_NoneYet q_NoText q_NoName q_NoForm q_NoAsk q_ValueError)):=by
  unfold z24 z57
  exact z9k F sc_law_kind fun cdv A outer s H E hr =>
    (z08 (z0s (i:=1) sc_law_kind.nd rfl (Or.inl rfl) (z5d (z06 (zd6 i_NoThing.2 m_isinstance (z03 0) (z3m rfl i_NoThing.1 rfl (v:=.ref D_NoThing))) (z06 (zd6 i_NoFit.2 m_isinstance (z03 0) (z3m rfl i_NoFit.1 rfl (v:=.ref D_NoFit))) (z06 (zd6 i_TooMany.2 m_isinstance (z03 0) (z3m rfl i_TooMany.1 rfl (v:=.ref D_TooMany))) z0c)))))
    (z08 (z0s (i:=2) sc_law_kind.nd rfl (Or.inl rfl) (zms (.cons i_NoAsk.2 (.cons i_NoForm.2 (.cons i_NoName.2 (.cons i_NoText.2 (.cons i_NoneYet.2 .nil))))) m_isinstance (z03 0) (zke (z3m rfl i_NoAsk.1 rfl (v:=.ref D_NoAsk)) (zke (z3m rfl i_NoForm.1 rfl (v:=.ref D_NoForm)) (zke (z3m rfl i_NoName.1 rfl (v:=.ref D_NoName)) (zke (z3m rfl i_NoText.1 rfl (v:=.ref D_NoText)) (zke (z3m rfl i_NoneYet.1 rfl (v:=.ref D_NoneYet)) znx)))))))
    (z08 (z3e (PW.pt (zfg (z2d (z03 2)) (zfg (za6 (z2d (zd6 i_ValueError m_isinstance (z03 0) (z22 rfl m_ValueError rfl (v:=.ty "ValueError") rfl)))) (zd5 (zbu hr (zfn (z03 1) zja) z0q)))))
      (z0j (z0t z8w))
      z1m)
    (z0j (z0t (z66 (z5d (z06 z8w (z06 z8w (z06 z8w z0c)))) (zmt (z03 1) zja)))))))
theorem zc0:FnScope ["found", "due"] ["found", "due"] (z07 (top 38)):=⟨rfl,rfl,rfl,by decide +kernel,rfl,by decide +kernel,by decide +kernel⟩
theorem z9d:((["k"]:List Str)++([("found",0),("due",1)]:List (Str×Nat)).map (·.1)).Nodup:=by decide +kernel
noncomputable def z1h (f_law_same:List D→M→Option (D×M)):SV :=
    (z0v (sIf (z65 (v1 (z7j ["list", "tuple"]) (z01 1)))
      (z0v (sIf (bOr (zfd (z65 (v1 (z7j ["list", "tuple"]) (z01 0)))) (vT (v2 fNe (v1 (z9q "list") (z01 0)) (v1 (z9q "list") (z01 1)))))
        (z32 (vC (.bl false)))
        sNx)
      (z0v (sIf (vT (v2 fNe (v1 z6b (z01 0)) (v1 z6b (z01 1))))
        (z32 (vC (.bl false)))
        sNx)
      (z32 (v1 ze2 (z1d ["k"] [("found",0),("due",1)] (ivR (v1 z6b (z01 1))) (z00 0) z1i (vL f_law_same (z02 (v2 fIx (z01 1) (z01 0)) (z02 (v2 fIx (z01 2) (z01 0)) z0b))))))))
      sNx)
    (z0v (sIf (z65 (v1 (z9q "str") (z01 1)))
      (z32 (zmx (v1 (z9q "str") (z01 0)) (v2 fEq (z01 0) (z01 1))))
      sNx)
    (z0v (sIf (z65 (v1 (z9q "bool") (z01 1)))
      (z32 (zmx (v1 (z9q "bool") (z01 0)) (v2 fEq (z01 0) (z01 1))))
      sNx)
    (z32 (zmx (v1 (z9q "int") (z01 0)) (zmx (v1 zf2 (v1 (z9q "bool") (z01 0))) (v2 fEq (z01 0) (z01 1))))))))
noncomputable def z12 (f_law_same:List D→M→Option (D×M)):List D→M→Option (D×M):=z6j 2 2 (z1h f_law_same)
theorem zcb {f_law_same:List D→M→Option (D×M)} {k_law_same k:Nat} (F:Fun K "_law_same" "_law_same" (top 38) f fd) (D_law_same:Df P w K mg base k_law_same "_law_same" ["found", "due"] (spM K f_law_same)) (h_law_same:k_law_same≤k) (m_tuple:mg "tuple" = none) (m_list:mg "list" = none) (m_isinstance:mg "isinstance" = none) (m_len:mg "len" = none) (m_range:mg "range" = none) (m_all:mg "all" = none) (m_str:mg "str" = none) (m_bool:mg "bool" = none) (m_int:mg "int" = none):FnOk P w K mg base CX0 (k+1) f fd ["found", "due"] (spM K (z12 f_law_same)):=by
  unfold z12 z1h
  exact z9k F zc0 fun cdv A outer s H E hr =>
    (z08 (z3e (z2d (zle ["list", "tuple"] m_isinstance (z03 1) (zke (z22 rfl m_list rfl (v:=.ty "list") rfl) (zke (z22 rfl m_tuple rfl (v:=.ty "tuple") rfl) znx))))
      (z08 (z3e (PW.pt (zfg (za6 (z2d (zle ["list", "tuple"] m_isinstance (z03 0) (zke (z22 rfl m_list rfl (v:=.ty "list") rfl) (zke (z22 rfl m_tuple rfl (v:=.ty "tuple") rfl) znx))))) (zd5 (zbu hr (za8 "list" m_isinstance (z03 0) (z22 rfl m_list rfl (v:=.ty "list") rfl)) (za8 "list" m_isinstance (z03 1) (z22 rfl m_list rfl (v:=.ty "list") rfl))))))
        (z0j (z0t zja))
        z1m)
      (z08 (z3e (zbu hr (zbv m_len (z03 0)) (zbv m_len (z03 1)))
        (z0j (z0t zja))
        z1m)
      (z0j (z0t (zjd m_all (z5e (own:=["k"]) (cap:=[("found",0),("due",1)]) (z2i rfl) (z3k m_range (zbv m_len (z03 1)))
      (fun _ _ _ _ _=>(z0g (i:=0) z9d rfl (Or.inl rfl))) (fun _ _ _ _ _=>z1o)
      (fun _ _ _ _ _=>(z4e D_law_same (hr.mono h_law_same) (z06 (z66 (z03 1) (z03 0)) (z06 (z66 (z03 2) (z03 0)) z0c))))))))))
      z1m)
    (z08 (z3e (z2d (za8 "str" m_isinstance (z03 1) (z22 rfl m_str rfl (v:=.ty "str") rfl)))
      (z0j (z0t (zjc (za8 "str" m_isinstance (z03 0) (z22 rfl m_str rfl (v:=.ty "str") rfl)) (zj5 (zmv hr (z03 0) (z03 1))))))
      z1m)
    (z08 (z3e (z2d (za8 "bool" m_isinstance (z03 1) (z22 rfl m_bool rfl (v:=.ty "bool") rfl)))
      (z0j (z0t (zjc (za8 "bool" m_isinstance (z03 0) (z22 rfl m_bool rfl (v:=.ty "bool") rfl)) (zj5 (zmv hr (z03 0) (z03 1))))))
      z1m)
    (z0j (z0t (zjc (za8 "int" m_isinstance (z03 0) (z22 rfl m_int rfl (v:=.ty "int") rfl)) (zjc (zmm (za8 "bool" m_isinstance (z03 0) (z22 rfl m_bool rfl (v:=.ty "bool") rfl))) (zj5 (zmv hr (z03 0) (z03 1))))))))))
theorem sc_law_due:FnScope ["many", "answers", "some", "left", "sorts", "counts"] ["many", "answers"] (z07 (top 39)):=⟨rfl,rfl,rfl,by decide +kernel,rfl,by decide +kernel,by decide +kernel⟩
theorem zaq:((["kind"]:List Str)++([("sorts",4)]:List (Str×Nat)).map (·.1)).Nodup:=by decide +kernel
theorem zap:((["thing"]:List Str)++([("counts",5)]:List (Str×Nat)).map (·.1)).Nodup:=by decide +kernel
noncomputable def z5t (f_law_fitting:List D→M→Option (D×M)):SV :=
    (z0v (z10 (vL f_law_fitting (z02 (z01 0) (z02 (z01 1) z0b))) (z00 2))
    (z0v (sIf (vT (v2 fEq (z01 2) (vL z3j z0b)))
      (z32 (vC (.str "fit")))
      sNx)
    (z0v (z10 (v1 z8s (z01 0)) (z00 3))
    (z0v (z82 (ivL (z01 2)) (z00 4)
      (z0v (z10 (z1d ["kind"] [("sorts",4)] (ivL (z01 4)) (z00 0) z1i (v2l z5h (z01 1) (z01 0))) (z00 5))
      (z10 (z1d ["thing"] [("counts",5)] (ivL (z01 3)) (z00 0) (vT (v2 fEq (v2 fIx (z01 1) (z01 0)) (v1 zcs (z01 1)))) (z01 0)) (z00 3))))
    (z0v (sIf (vT (v2 fEq (z01 3) (vL z3j z0b)))
      (z32 (vL za3 (z02 (vC (.str "open")) z0b)))
      sNx)
    (z32 (vL za3 (z02 (vC (.str "one")) (z02 (v2 fIx (z01 3) (vC (.int 0))) z0b)))))))))
noncomputable def z3h (f_law_fitting:List D→M→Option (D×M)):List D→M→Option (D×M):=z6j 6 2 (z5t f_law_fitting)
theorem zet {f_law_fitting:List D→M→Option (D×M)} {k_law_fitting k:Nat} (F:Fun K "_law_due" "_law_due" (top 39) f fd) (D_law_fitting:Df P w K mg base k_law_fitting "_law_fitting" ["many", "answers"] (spM K f_law_fitting)) (h_law_fitting:k_law_fitting≤k) (m_list:mg "list" = none) (m_range:mg "range" = none) (m_max:mg "max" = none):FnOk P w K mg base CX0 (k+1) f fd ["many", "answers"] (spM K (z3h f_law_fitting)):=by
  unfold z3h z5t
  exact z9k F sc_law_due fun cdv A outer s H E hr =>
    (z08 (z0s (i:=2) sc_law_due.nd rfl (Or.inl rfl) (z4e D_law_fitting (hr.mono h_law_fitting) (z06 (z03 0) (z06 (z03 1) z0c))))
    (z08 (z3e (za9 hr (z03 2) (z5d z0c))
      (z0j (z0t z8w))
      z1m)
    (z08 (z0s (i:=3) sc_law_due.nd rfl (Or.inl rfl) (zmq m_list m_range (z03 0)))
    (z08 (z3f PassesOwn.never rfl (z15 (z03 2)) (z0g (i:=4) sc_law_due.nd rfl (Or.inr rfl))
      (z08 (z0s (i:=5) sc_law_due.nd rfl (Or.inr rfl) (z5e (own:=["kind"]) (cap:=[("sorts",4)]) (z2i rfl) (z15 (z03 4))
      (fun _ _ _ _ _=>(z0g (i:=0) zaq rfl (Or.inl rfl))) (fun _ _ _ _ _=>z1o)
      (fun _ _ _ _ _=>(zfn (z03 1) (z03 0)))))
      (z0j (z8e (i:=3) sc_law_due.nd rfl rfl (own:=["thing"]) (cap:=[("counts",5)]) (z2i rfl) (z15 (z03 3))
      (fun _ _ _ _ _=>(z0g (i:=0) zap rfl (Or.inl rfl))) (fun _ _ _ _ _=>(zbt (za9 hr (z66 (z03 1) (z03 0)) (zpj m_max (z03 1)))))
      (fun _ _ _ _ _=>(z03 0))))))
    (z08 (z3e (za9 hr (z03 3) (z5d z0c))
      (z0j (z0t (zfl (z06 z8w z0c))))
      z1m)
    (z0j (z0t (zfl (z06 z8w (z06 (z66 (z03 3) z0q) z0c))))))))))
theorem sc_law_told:FnScope ["many", "answers", "found", "caught", "e"] ["many", "answers"] (z07 (top 40)):=⟨rfl,rfl,rfl,by decide +kernel,rfl,by decide +kernel,by decide +kernel⟩
noncomputable def z3r (f_law_kind:List D→M→Option (D×M)) (f_tells_most:FX) (cs_HalfError:List Addr):SV :=
    (z0v (z10 (vC .non) (z00 2))
    (z0v (z10 (vC .non) (z00 3))
    (z0v (zlq cs_HalfError 4
      (zah (vLX f_tells_most (upL (z02 (z01 0) (z02 (z01 1) z0b)))) (z00 2))
      (z10 (z01 4) (z00 3)))
    (z0v (sIf (vT (v2 zpb (z01 3) (vC .non)))
      (z32 (z01 2))
      sNx)
    (z32 (vL f_law_kind (z02 (z01 3) z0b)))))))
noncomputable def z2w (f_law_kind:List D→M→Option (D×M)) (f_tells_most:FX) (cs_HalfError:List Addr):List D→M→Option (D×M):=z6j 5 2 (z3r f_law_kind f_tells_most cs_HalfError)
theorem zc9 {f_law_kind:List D→M→Option (D×M)} {f_tells_most:FX} {k_law_kind k_tells_most k:Nat} {T_HalfError:Addr} {cs_HalfError:List Addr} (F:Fun K "_law_told" "_law_told" (top 40) f fd) (D_law_kind:Df P w K mg base k_law_kind "_law_kind" ["caught"] (spM K f_law_kind)) (h_law_kind:k_law_kind≤k) (D_tells_most:DfX P w K mg base k_tells_most "tells_most" ["many", "answers"] (spX K f_tells_most)) (h_tells_most:k_tells_most≤k) (t_HalfError:mg "HalfError" = some (.ref T_HalfError)∧∀ C∈cs_HalfError,PySem.W.exmOne K (.ref C) (.ref T_HalfError)=some true):FnOk P w K mg base CX0 (k+1) f fd ["many", "answers"] (spM K (z2w f_law_kind f_tells_most cs_HalfError)):=by
  unfold z2w z3r
  exact z9k F sc_law_told fun cdv A outer s H E hr =>
    (z08 (z0s (i:=2) sc_law_told.nd rfl (Or.inl rfl) zmn)
    (z08 (z0s (i:=3) sc_law_told.nd rfl (Or.inl rfl) zmn)
    (z08 (zph (i:=4) ⟨rfl,rfl⟩ sc_law_told.nd rfl rfl t_HalfError.1 t_HalfError.2 (fun _ _ =>
      (z3y (zpf (i:=2) sc_law_told.nd rfl (Or.inl rfl) (zee D_tells_most (hr.mono h_tells_most) (zbp (z06 (z03 0) (z06 (z03 1) z0c))))))) fun _ =>
      (z0j (z0s (i:=3) sc_law_told.nd rfl (Or.inl rfl) (z03 4))))
    (z08 (z3e (zpl (z03 3) zmn)
      (z0j (z0t (z03 2)))
      z1m)
    (z0j (z0t (z4e D_law_kind (hr.mono h_law_kind) (z06 (z03 3) z0c))))))))
theorem sc_law:FnScope ["script", "cell", "deck", "many", "answers", "handed", "due", "turn", "at"] ["script"] (z07 (top 41)):=⟨rfl,rfl,rfl,by decide +kernel,rfl,by decide +kernel,by decide +kernel⟩
noncomputable def zi4 (f_law_cell_at:List D→M→Option (D×M)) (f_law_deck:List D→M→Option (D×M)) (f_law_take:List D→M→Option (D×M)) (f_law_answers:List D→M→Option (D×M)) (f_law_due:List D→M→Option (D×M)) (f_law_told:List D→M→Option (D×M)) (f_law_same:List D→M→Option (D×M)):SV :=
    (z0v (z82 (ivL (v2 z0w (vSl (z01 0) z5f (z4g (vC (.int 3)))) (vL z3j (z02 (vL f_law_cell_at (z02 (z01 0) (z02 (vC (.int 0)) z0b))) z0b)))) (z00 1)
      (z0v (z10 (vL f_law_deck (z02 (z01 1) z0b)) (z00 2))
      (z0v (z10 (v2 fIx (vL z3j (z02 (vL f_law_take (z02 (z01 2) (z02 (vC (.int 8)) z0b))) (z02 (vL f_law_take (z02 (z01 2) (z02 (vC (.int 6)) z0b))) z0b))) (v1 z7k (v2 fGt (vL f_law_take (z02 (z01 2) (z02 (vC (.int 3)) z0b))) (vC (.int 0))))) (z00 3))
      (z0v (z10 (vL f_law_answers (z02 (z01 2) (z02 (z01 3) z0b))) (z00 4))
      (z0v (z10 (v1 zaz (z01 4)) (z00 5))
      (z0v (z10 (vL f_law_due (z02 (z01 3) (z02 (z01 4) z0b))) (z00 6))
      (z0v (z82 (ivR (vC (.int 2))) (z00 7)
        (sIf (bOr (zfd (z65 (vL f_law_same (z02 (vL f_law_told (z02 (z01 3) (z02 (z01 5) z0b))) (z02 (z01 6) z0b))))) (vT (v2 fNe (z01 5) (z01 4))))
          (z32 (vC (.bl false)))
          sNx))
      (sIf (vT (v2 fNe (z01 5) (vL z3j z0b)))
        (z0v (z10 (vL f_law_take (z02 (z01 2) (z02 (v1 z6b (z01 5)) z0b))) (z00 8))
        (z0v (z10 (v2 z0w (vSl (v2 fIx (z01 5) (z01 8)) z5f (z4g (vC (.int 2)))) (vL za3 (z02 (v1 zf2 (v2 fIx (v2 fIx (z01 5) (z01 8)) (vC (.int 2)))) z0b))) (z89 (z01 5) (z01 8)))
        (sIf (zfd (z65 (vL f_law_same (z02 (vL f_law_told (z02 (z01 3) (z02 (z01 5) z0b))) (z02 (vL f_law_due (z02 (z01 3) (z02 (v1 z7h (z01 5)) z0b))) z0b)))))
          (z32 (vC (.bl false)))
          sNx)))
        sNx))))))))
    (z32 (vC (.bl true))))
noncomputable def zdq (f_law_cell_at:List D→M→Option (D×M)) (f_law_deck:List D→M→Option (D×M)) (f_law_take:List D→M→Option (D×M)) (f_law_answers:List D→M→Option (D×M)) (f_law_due:List D→M→Option (D×M)) (f_law_told:List D→M→Option (D×M)) (f_law_same:List D→M→Option (D×M)):List D→M→Option (D×M):=z6j 9 1 (zi4 f_law_cell_at f_law_deck f_law_take f_law_answers f_law_due f_law_told f_law_same)
theorem zre {f_law_cell_at f_law_deck f_law_take f_law_answers f_law_due f_law_told f_law_same:List D→M→Option (D×M)} {k_law_cell_at k_law_deck k_law_take k_law_answers k_law_due k_law_told k_law_same k:Nat} (F:Fun K "law" "law" (top 41) f fd) (D_law_cell_at:Df P w K mg base k_law_cell_at "_law_cell_at" ["script", "k"] (spM K f_law_cell_at)) (h_law_cell_at:k_law_cell_at≤k) (D_law_deck:Df P w K mg base k_law_deck "_law_deck" ["cell"] (spM K f_law_deck)) (h_law_deck:k_law_deck≤k) (D_law_take:Df P w K mg base k_law_take "_law_take" ["deck", "many"] (spM K f_law_take)) (h_law_take:k_law_take≤k) (D_law_answers:Df P w K mg base k_law_answers "_law_answers" ["deck", "many"] (spM K f_law_answers)) (h_law_answers:k_law_answers≤k) (D_law_due:Df P w K mg base k_law_due "_law_due" ["many", "answers"] (spM K f_law_due)) (h_law_due:k_law_due≤k) (D_law_told:Df P w K mg base k_law_told "_law_told" ["many", "answers"] (spM K f_law_told)) (h_law_told:k_law_told≤k) (D_law_same:Df P w K mg base k_law_same "_law_same" ["found", "due"] (spM K f_law_same)) (h_law_same:k_law_same≤k) (m_int:mg "int" = none) (m_list:mg "list" = none) (m_range:mg "range" = none) (m_len:mg "len" = none):FnOk P w K mg base CX0 (k+1) f fd ["script"] (spM K (zdq f_law_cell_at f_law_deck f_law_take f_law_answers f_law_due f_law_told f_law_same)):=by
  unfold zdq zi4
  exact z9k F sc_law fun cdv A outer s H E hr =>
    (z08 (z3f PassesOwn.never rfl (z15 (z34 (zt6 (z03 0) zbs (zbr z0q)) (z5d (z06 (z4e D_law_cell_at (hr.mono h_law_cell_at) (z06 (z03 0) (z06 z0q z0c))) z0c)))) (z0g (i:=1) sc_law.nd rfl (Or.inl rfl))
      (z08 (z0s (i:=2) sc_law.nd rfl (Or.inl rfl) (z4e D_law_deck (hr.mono h_law_deck) (z06 (z03 1) z0c)))
      (z08 (z0s (i:=3) sc_law.nd rfl (Or.inl rfl) (z66 (z5d (z06 (z4e D_law_take (hr.mono h_law_take) (z06 (z03 2) (z06 z0q z0c))) (z06 (z4e D_law_take (hr.mono h_law_take) (z06 (z03 2) (z06 z0q z0c))) z0c))) (zlf m_int (zuk (z4e D_law_take (hr.mono h_law_take) (z06 (z03 2) (z06 z0q z0c))) z0q))))
      (z08 (z0s (i:=4) sc_law.nd rfl (Or.inl rfl) (z4e D_law_answers (hr.mono h_law_answers) (z06 (z03 2) (z06 (z03 3) z0c))))
      (z08 (z0s (i:=5) sc_law.nd rfl (Or.inl rfl) (zmr m_list (z03 4)))
      (z08 (z0s (i:=6) sc_law.nd rfl (Or.inl rfl) (z4e D_law_due (hr.mono h_law_due) (z06 (z03 3) (z06 (z03 4) z0c))))
      (z08 (z3f PassesOwn.never rfl (z3k m_range z0q) (z0g (i:=7) sc_law.nd rfl (Or.inl rfl))
        (z0j (z3e (PW.pt (zfg (za6 (z2d (z4e D_law_same (hr.mono h_law_same) (z06 (z4e D_law_told (hr.mono h_law_told) (z06 (z03 3) (z06 (z03 5) z0c))) (z06 (z03 6) z0c))))) (zd5 (zbu hr (z03 5) (z03 4)))))
          (z0j (z0t zja))
          z1m)))
      (z0j (z3e (zbu hr (z03 5) (z5d z0c))
        (z08 (z0s (i:=8) sc_law.nd rfl (Or.inl rfl) (z4e D_law_take (hr.mono h_law_take) (z06 (z03 2) (z06 (zbv m_len (z03 5)) z0c))))
        (z08 (zfi (z34 (zt6 (z66 (z03 5) (z03 8)) zbs (zbr z0q)) (zfl (z06 (zmm (z66 (z66 (z03 5) (z03 8)) z0q)) z0c))) (zfk (z03 5) (z03 8)))
        (z0j (z3e (za6 (z2d (z4e D_law_same (hr.mono h_law_same) (z06 (z4e D_law_told (hr.mono h_law_told) (z06 (z03 3) (z06 (z03 5) z0c))) (z06 (z4e D_law_due (hr.mono h_law_due) (z06 (z03 3) (z06 (zpk m_list (z03 5)) z0c))) z0c)))))
          (z0j (z0t zja))
          z1m))))
        z1m)))))))))
    (z0j (z0t zja)))
end
end Law
namespace Law
open PySem L2 L3 PyProof.Rows
theorem z8a {v v':Nat→Int} {i:Nat} (h:∀ j,j<i→v j=v' j):firstMet v i=firstMet v' i:=by
  unfold firstMet
  have:(List.range i).map v=(List.range i).map v':=List.map_congr_left fun j hj=>h j (List.mem_range.mp hj)
  rw [this]
theorem zf4 (s:List Int) (x:Int):z4h (s++[x])=if x∈s then z4h s else z4h s+1:=by
  unfold z4h
  rw [List.length_append,List.length_singleton,firstMet_succ,step_length]
  have e:firstMet (fun i=>(s++[x]).getD i 0) s.length=firstMet (fun i=>s.getD i 0) s.length:=z8a fun j hj=>by
    simp [List.getD_eq_getElem?_getD,List.getElem?_append_left hj]
  have ex:(s++[x]).getD s.length 0=x:=by simp [List.getD_eq_getElem?_getD]
  rw [e,ex,firstMet_any]
  have em:((List.range s.length).map fun i=>s.getD i 0)=s:=by
    apply List.ext_getElem
    · simp
    · intro i h1 h2
      simp [List.getD_eq_getElem?_getD,List.getElem?_eq_getElem h2]
  rw [em]
  have eb:s.any (·==x)=decide (x∈s):=by
    rw [Bool.eq_iff_iff];simp [List.any_eq_true]
  rw [eb]
  by_cases h:x∈s <;> simp [h]
noncomputable def Sx:Nat→Nat→List (List Int×Nat)
  | 0,_=>[([],0)]
  | n+1,m=>(Sx n m).flatMap fun p=>(List.range (min (p.2+1) m)).map fun (i:Nat)=>(p.1++[(i:Int)],max p.2 (i+1))
structure Gd (n m:Nat) (p:List Int×Nat):Prop where
  len:p.1.length=n
  mem:∀ x:Int,x∈p.1↔0≤x∧x<p.2
  dist:z4h p.1=p.2
  le:p.2≤m
  len2:p.2≤n
  rise:∀ (k:Nat) (x:Int),p.1[k]?=some x→0≤x∧x≤z4h (p.1.take k)
theorem z5w (m:Nat):∀ (n:Nat) (p:List Int×Nat),p∈Sx n m→Gd n m p
  | 0,p,h=>by
    simp [Sx] at h
    subst h
    exact ⟨rfl,fun x=>by simp,rfl,Nat.zero_le _,Nat.le_refl _,fun k x e=>by simp at e⟩
  | n+1,p,h=>by
    simp only [Sx,List.mem_flatMap,List.mem_map,List.mem_range] at h
    refine bq fun bG=>?_
    obtain ⟨q,hq,i,hi,rfl⟩:=h
    have g:=z5w m n q hq
    have him:i<m:=by omega
    have hiu:i≤q.2:=by omega
    refine bG (⟨by simp [g.len],fun x=>?_,?_,?_,?_,?_⟩)
    · simp only [List.mem_append,List.mem_singleton,g.mem]
      omega
    · show z4h (q.1++[(i:Int)])=max q.2 (i+1)
      rw [zf4,g.dist]
      by_cases hm:(i:Int)∈q.1
      · rw [if_pos hm]
        have:=(g.mem _).mp hm
        omega
      · rw [if_neg hm]
        have:¬ (i:Int)<q.2:=fun z=>hm ((g.mem _).mpr ⟨by omega,z⟩)
        omega
    · have:=g.le
      show max q.2 (i+1)≤m
      omega
    · have:=g.len2
      show max q.2 (i+1)≤n+1
      omega
    · intro k x e
      have e:(q.1++[(i:Int)])[k]?=some x:=e
      show 0≤x∧x≤z4h ((q.1++[(i:Int)]).take k)
      by_cases hk:k<q.1.length
      · rw [List.getElem?_append_left hk] at e
        rw [List.take_append_of_le_length (by omega)]
        exact g.rise k x e
      · rw [List.getElem?_append_right (by omega)] at e
        have hz:k=q.1.length:=by
          have:=(List.getElem?_eq_some_iff.mp e).1
          simp at this
          omega
        subst hz
        simp at e
        subst e
        rw [List.take_append_of_le_length (by omega),List.take_length,g.dist]
        omega
theorem Gd.used {n m:Nat} {p:List Int×Nat} (g:Gd n m p):(mxL p.1).getD (-1)+1=(p.2:Int):=by
  cases hn:mxL p.1 with
  | none =>
    have:p.1=[]:=by cases h:p.1 with
      | nil=>rfl
      | cons a r=>rw [h] at hn;cases hn
    have h0:p.2=0:=by
      rcases Nat.eq_zero_or_pos p.2 with z | z
      · exact z
      · have:=(g.mem 0).mpr ⟨by omega,by omega⟩
        rw [‹p.1=[]›] at this
        cases this
    simp [h0]
  | some M =>
    have hM:=zdo hn
    have h1:=(g.mem M).mp hM.1
    have h2:=hM.2 ((p.2:Int) - 1) ((g.mem _).mpr ⟨by omega,by omega⟩)
    simp only [Option.getD_some]
    omega
noncomputable def zby:Nat→List Int
  | 0=>[1]
  | n+1=>0::(List.range (zby n).length).map fun (j:Nat)=>((j:Int)+1)*(zby n++[0]).getD (j+1) 0+(zby n).getD j 0
theorem z6x:∀ n,(zby n).length=n+1
  | 0=>rfl
  | n+1=>by simp [zby,z6x n]
theorem zmg (n:Nat) {m:Nat} (h:8≤m):n≤7→Sx n m=Sx n 8:=by
  induction n with
  | zero=>intro _;rfl
  | succ n ih =>
    intro hn
    rw [Sx,Sx,ih (by omega)]
    rw [List.flatMap_def,List.flatMap_def]
    congr 1
    apply List.map_congr_left
    intro p hp
    have:=(z5w 8 n p hp).len2
    have e:min (p.2+1) m=min (p.2+1) 8:=by omega
    rw [e]
theorem zea:∀ n<8,∀ m<9,((Sx n m).length:Int)=((zby n).take (m+1)).sum:=by decide +kernel
theorem Sx_many {n:Nat} (hn:n≤7) (m:Nat):((Sx n m).length:Int)=((zby n).take (m+1)).sum:=by
  by_cases h:m<9
  · exact zea n (by omega) m h
  · rw [zmg n (by omega) hn,zea n (by omega) 8 (by omega),List.take_of_length_le (by rw [z6x];omega),List.take_of_length_le (by rw [z6x];omega)]
theorem zir:∀ n<8,∀ m<9,(Sx n m).length≤877:=by decide +kernel
theorem zbm {n:Nat} (hn:n≤7) (m:Nat):(Sx n m).length≤877:=by
  by_cases h:m<9
  · exact zir n (by omega) m h
  · rw [zmg n (by omega) hn];exact zir n (by omega) 8 (by omega)
noncomputable def zcr (s:List Int) (as:List An):Bool:=as.all fun a=>decide (s.getD a.1 0=s.getD a.2.1 0)==a.2.2
def InN (n:Nat) (as:List An):Prop:=∀ a∈as,a.1<n∧a.2.1<n
theorem zsk {α:Type} (f:Nat→α) (m:Nat):∀ n,n≤m→∃ p∈Sx n m,∀ x y,x<n→y<n→(p.1.getD x 0=p.1.getD y 0↔f x=f y)
  | 0,_=>⟨([],0),by simp [Sx],fun x y h=>by omega⟩
  | n+1,hn=>by
    obtain ⟨p,hp,hf⟩:=zsk f m n (by omega)
    have g:=z5w m n p hp
    have hg:=g.len2
    have lt_of:∀ x,x<n→p.1.getD x 0∈p.1:=fun x hx=>by
      rw [List.getD_eq_getElem?_getD,List.getElem?_eq_getElem (by rw [g.len];exact hx)]
      exact List.getElem_mem _
    obtain ⟨i,hi,him⟩:∃ i:Nat,i<min (p.2+1) m∧∀ x,x<n→(p.1.getD x 0=(i:Int)↔f x=f n):=by
      by_cases h:∃ x,x<n∧f x=f n
      · obtain ⟨x0,hx0,e0⟩:=h
        have h1:=(g.mem _).mp (lt_of x0 hx0)
        refine ⟨(p.1.getD x0 0).toNat,by have:=g.le;omega,fun x hx=>?_⟩
        have e:((p.1.getD x0 0).toNat:Int)=p.1.getD x0 0:=by omega
        rw [e,← e0]
        exact hf x x0 hx hx0
      · refine ⟨p.2,by omega,fun x hx=>⟨fun e=>?_,fun e=>absurd ⟨x,hx,e⟩ h⟩⟩
        have h1:=(g.mem _).mp (lt_of x hx)
        omega
    refine ⟨(p.1++[(i:Int)],max p.2 (i+1)),?_,?_⟩
    · simp only [Sx,List.mem_flatMap,List.mem_map,List.mem_range]
      exact ⟨p,hp,i,hi,rfl⟩
    · have old:∀ x,x<n→(p.1++[(i:Int)]).getD x 0=p.1.getD x 0:=fun x hx=>by
        simp [List.getD_eq_getElem?_getD,List.getElem?_append_left (show x<p.1.length by rw [g.len];exact hx)]
      have new:(p.1++[(i:Int)]).getD n 0=(i:Int):=by
        have:n=p.1.length:=g.len.symm
        simp [List.getD_eq_getElem?_getD,this]
      intro x y hx hy
      show (p.1++[(i:Int)]).getD x 0=(p.1++[(i:Int)]).getD y 0↔_
      rcases Nat.lt_succ_iff_lt_or_eq.mp hx with hx | rfl <;> rcases Nat.lt_succ_iff_lt_or_eq.mp hy with hy | rfl
      · rw [old x hx,old y hy];exact hf x y hx hy
      · rw [old x hx,new];exact him x hx
      · rw [old y hy,new]
        have:=him y hy
        constructor
        · intro e;exact (this.mp e.symm).symm
        · intro e;exact (this.mpr e.symm).symm
      · simp
theorem zox {n:Nat} {as:List An} (hv:InN n as) (h:zf8 as=true):∃ p∈Sx n n,zcr p.1 as=true:=by
  obtain ⟨p,hp,hf⟩:=zsk (fun x=>Conn as x) n n (Nat.le_refl _)
  have eqv:∀ x y,Conn as x=Conn as y↔Conn as x y:=fun x y =>
    ⟨fun e=>by rw [e];exact .refl y,fun c=>funext fun z=>propext ⟨fun d=>c.symm.trans d,fun d=>c.trans d⟩⟩
  refine ⟨p,hp,?_⟩
  unfold zcr
  rw [List.all_eq_true]
  intro a ha
  obtain ⟨h1,h2⟩:=hv a ha
  have e:=(hf a.1 a.2.1 h1 h2).trans (eqv _ _)
  have ok:=z9i as
  cases hb:a.2.2 with
  | true =>
    have hm:(a.1,a.2.1,true)∈as:=by
      have e0:(a.1,a.2.1,true)=a:=by rw [← hb]
      rw [e0];exact ha
    have:Conn as a.1 a.2.1:=Conn.one (mem_nb.mpr (.inl hm))
    rw [decide_eq_true (e.mpr this)]
    rfl
  | false =>
    have hc:=List.all_eq_true.mp h a ha
    rw [hb] at hc
    simp at hc
    have:¬ Conn as a.1 a.2.1:=fun c=>hc (ok.conn c)
    rw [decide_eq_false (mt e.mp this)]
    rfl
theorem zoe {s:List Int} {as:List An} (h:zcr s as=true):zf8 as=true:=by
  have hall:=List.all_eq_true.mp h
  have con:∀ x y,Conn as x y→s.getD x 0=s.getD y 0:=by
    intro x y c
    induction c with
    | refl=>rfl
    | step _ e ih =>
      rw [ih]
      rcases mem_nb.mp e with z | z
      · have:=hall _ z;simpa using this
      · have:=hall _ z;simp at this;exact this.symm
  unfold zf8
  rw [List.all_eq_true]
  intro a ha
  have ok:=z9i as
  cases hb:a.2.2 with
  | true=>simp
  | false =>
    have h1:=hall a ha
    rw [hb] at h1
    simp only [Bool.false_or,Bool.not_eq_true',decide_eq_false_iff_not]
    intro e
    have c:=(ok.iff (ok.named a ha).1).mp e
    rw [con _ _ c] at h1
    simp at h1
noncomputable def z2b (n:Nat) (as:List An):List (List Int):=((Sx n n).map (·.1)).filter fun s=>zcr s as
theorem ze0 {n:Nat} {as:List An} (hv:InN n as):z2b n as=[]↔zf8 as=false:=by
  constructor
  · intro h
    cases hc:zf8 as with
    | false=>rfl
    | true =>
      obtain ⟨p,hp,hf⟩:=zox hv hc
      have:p.1∈z2b n as:=List.mem_filter.mpr ⟨List.mem_map_of_mem hp,hf⟩
      rw [h] at this
      cases this
  · intro h
    unfold z2b
    rw [List.filter_eq_nil_iff]
    intro s hs hf
    rw [zoe hf] at h
    cases h
noncomputable def mst (s:List Int):List Nat:=(List.range s.length).filter fun t=>s.all fun x=>decide (s.count x≤s.count (s.getD t 0))
noncomputable def zc6 (gs:List (Int×List Int)) (k:Int) (t:Int):List (Int×List Int) :=
  if (gs.any fun g=>decide (g.1=k))=true then gs.map fun g=>if g.1=k then (g.1,g.2++[t]) else g else gs++[(k,[t])]
noncomputable def z2y:Nat→List Int→List (Int×List Int)→List (Int×List Int)
  | _,[],gs=>gs
  | i,k::r,gs=>z2y (i+1) r (zc6 gs k (i:Int))
noncomputable def grp (s:List Int):List (Int×List Int):=z2y 0 s []
noncomputable def grt (s:List Int):Int:=(mxL ((grp s).map fun g=>(g.2.length:Int))).getD 0
noncomputable def zri (s:List Int):List (Int×List Int):=(grp s).filter fun g=>decide ((g.2.length:Int)=grt s)
noncomputable def zas (s:List Int):List Int:=(zri s).flatMap (·.2)
theorem zev:∀ n<8,∀ p∈Sx n n,(zas p.1).isPerm ((mst p.1).map fun t:Nat=>(t:Int))=true:=by decide +kernel
theorem zeu (s:List Int):((mst s).map fun t:Nat=>(t:Int)).Pairwise (·≤·):=by
  rw [List.pairwise_map]
  refine List.Pairwise.imp ?_ (List.Pairwise.filter _ List.pairwise_lt_range)
  intro a b h
  omega
theorem zg2 {l m:List Int} (hp:l.Perm m) (hm:m.Pairwise (·≤·)):zel l=m:=by
  have h1:(zel l).Perm m:=(List.mergeSort_perm l _).trans hp
  have h2:(zel l).Pairwise (fun a b=>decide (a≤b)=true):=List.pairwise_mergeSort (le:=fun a b:Int=>decide (a≤b)) (fun a b c h1 h2=>by simp at *;omega) (fun a b=>by simp;omega) l
  refine h1.eq_of_pairwise (le:=(·≤·)) (fun a b _ _ h g=>Int.le_antisymm h g) (h2.imp fun h=>by simpa using h) hm
theorem zh7 {n:Nat} (hn:n≤7) {p:List Int×Nat} (hp:p∈Sx n n):zel (zas p.1)=(mst p.1).map fun t:Nat=>(t:Int) :=
  zg2 (List.isPerm_iff.mp (zev n (by omega) p hp)) (zeu _)
end Law
namespace Law
open PySem L2 L3
noncomputable def dA (a:An):D:=.tup [.int (a.1:Int),.int (a.2.1:Int),.bl a.2.2]
def Ls (μ:M) (d:D) (ds:List D):Prop:=z2h μ d=some ds∧∃ c,lsC μ d=some (ds,c)∧z33 c μ∧∀ μ',Gr μ μ'→z33 c μ'
theorem Ls.lst {μ:M} {ds:List D}:Ls μ (.lst ds) ds:=⟨rfl,none,rfl,trivial,fun _ _=>trivial⟩
theorem Ls.ref {μ:M} {k:Nat} {ds:List D} (h:μ[k]?=some (some (.lst ds))):Ls μ (.ref k) ds:=⟨z2m h,_,z52 h,h,fun _ g=>g.get h⟩
theorem z2l {μ:M} {d:D} {ds:List D} (h:Ls μ d ds):(∃ k,d=.ref k∧μ[k]?=some (some (.lst ds)))∨(d=.lst ds)∨d=.scr ds:=by
  obtain ⟨h1,_⟩:=h
  cases d with
  | lst xs=>cases h1;exact .inr (.inl rfl)
  | scr xs=>cases h1;exact .inr (.inr rfl)
  | ref k =>
    simp only [z2h] at h1
    split at h1
    · rename_i xs hk;cases h1;exact .inl ⟨k,rfl,hk⟩
    · cases h1
  | _=>cases h1
theorem Ls.gr {μ μ':M} {d:D} {ds:List D} (h:Ls μ d ds) (g:Gr μ μ'):Ls μ' d ds:=by
  rcases z2l h with ⟨k,rfl,hk⟩ | rfl | rfl
  · exact .ref (g.get hk)
  · exact .lst
  · exact ⟨rfl,none,rfl,trivial,fun _ _=>trivial⟩
theorem zdy {c:Ck} {g:GV} {body:SX} (Pv:G→M→Prop):∀ (its:List D) (Γ:G) (μ:M),Pv Γ μ →
    (∀ d∈its,∀ Γ μ,Pv Γ μ→∃ Γ1 μ1 Γ2 μ2,g d Γ μ=some (Γ1,μ1)∧body Γ1 μ1=some (.nx,Γ2,μ2)∧z33 c μ2∧Pv Γ2 μ2)→∃ Γ' μ',zp8 c g body its Γ μ=some (.nx,Γ',μ')∧Pv Γ' μ'
  | [],Γ,μ,h,_=>⟨Γ,μ,rfl,h⟩
  | d::r,Γ,μ,h,hs=>by
    refine bq fun bG=>?_
    obtain ⟨Γ1,μ1,Γ2,μ2,h1,h2,h3,h4⟩:=hs d (by simp) Γ μ h
    obtain ⟨Γ',μ',h5,h6⟩:=zdy Pv r Γ2 μ2 h4 fun d hd=>hs d (by simp [hd])
    refine bG (⟨Γ',μ',?_,h6⟩)
    simp only [zp8,h1,bs,h2]
    rw [z26 h3,h5]
def Ok2 (n:Nat) (as:List An):Prop:=∀ a∈as,a.1<n∧a.2.1<n∧a.1≠a.2.1
theorem Ok2.inN {n:Nat} {as:List An} (h:Ok2 n as):InN n as:=fun a ha=>⟨(h a ha).1,(h a ha).2.1⟩
theorem zgd {C:Addr} {n:Nat} {d:D} {as:List An} {μ:M} (hl:Ls μ d (as.map dA)) (hv:Ok2 n as):z1g C [.int (n:Int),d] μ=some (.ok .non,μ):=by
  obtain ⟨h1,c,h2,h3,h4⟩:=hl
  have main:=zdy (c:=c) (g:=(z2p 3 (z0e (z00 2) (z0e (z00 3) (z0e (z00 4) z2q))))) (body:=(z4f (zde (upB (zfd (zim (vT (z4k fLe fLt (vC (.int 0)) (z01 2) (z01 0))) (vT (z4k fLe fLt (vC (.int 0)) (z01 3) (z01 0))))))
        (z4v C ((z01 2)::((z01 3)::((z01 0)::[]))))
        (upS sNx))
      (zde (upB (vT (v2 fEq (z01 2) (z01 3))))
        (z4v C ((z01 2)::[]))
        (upS sNx))))
    (fun Γ μ'=>μ'=μ∧∃ o2 o3 o4,Γ=[some (.int (n:Int)),some d,o2,o3,o4]) (as.map dA) [some (.int (n:Int)),some d,none,none,none] μ ⟨rfl,_,_,_,rfl⟩ ?_
  · obtain ⟨Γ',μ',e,rfl,o2,o3,o4,rfl⟩:=main
    refine zgh (Γ1:=[some (.int (n:Int)),some d,o2,o3,o4]) rfl ?_
    unfold z2z
    show z4f _ _ [some (.int (n:Int)),some d,none,none,none] μ'=_
    have t:vT (v2 fLt (z01 0) (vC (.int 0))) [some (.int (n:Int)),some d,none,none,none] μ'=some (false,μ'):=by
      have:¬ ((n:Int)<0):=by omega
      simp [fLt,fI0,this]
    rw [z6z (Γ1:=[some (.int (n:Int)),some d,none,none,none]) (μ1:=μ') ((zhr (zjg t)).trans (zbw (o:=.nx) rfl))]
    have hi:ivL (z01 1) [some (.int (n:Int)),some d,none,none,none] μ'=some ((as.map dA,c),μ'):=by
      simp [h2]
    show (ivL (z01 1) _ μ').bind _=_
    rw [hi,bs]
    exact e
  · rintro x hx Γ μ' ⟨rfl,o2,o3,o4,rfl⟩
    refine bq fun bG=>?_
    obtain ⟨a,ha,rfl⟩:=List.mem_map.mp hx
    obtain ⟨q1,q2,q3⟩:=hv a ha
    refine bG (⟨[some (.int (n:Int)),some d,some (.int (a.1:Int)),some (.int (a.2.1:Int)),some (.bl a.2.2)],μ',[some (.int (n:Int)),some d,some (.int (a.1:Int)),some (.int (a.2.1:Int)),some (.bl a.2.2)],μ',rfl,?_,h3,rfl,some (.int (a.1:Int)),some (.int (a.2.1:Int)),some (.bl a.2.2),rfl⟩)
    have t1:(zfd (zim (vT (z4k fLe fLt (vC (.int 0)) (z01 2) (z01 0))) (vT (z4k fLe fLt (vC (.int 0)) (z01 3) (z01 0))))) [some (.int (n:Int)),some d,some (.int (a.1:Int)),some (.int (a.2.1:Int)),some (.bl a.2.2)] μ'=some (false,μ'):=by
      have b1:(0:Int)≤(a.1:Int):=by omega
      have b2:(0:Int)≤(a.2.1:Int):=by omega
      have b3:(a.1:Int)<(n:Int):=by omega
      have b4:(a.2.1:Int)<(n:Int):=by omega
      simp [fLe,fLt,fI0,b1,b2,b3,b4]
    have t2:vT (v2 fEq (z01 2) (z01 3)) [some (.int (n:Int)),some d,some (.int (a.1:Int)),some (.int (a.2.1:Int)),some (.bl a.2.2)] μ'=some (false,μ'):=by
      have:¬ ((a.1:Int)=(a.2.1:Int)):=by omega
      simp [fEq,eqD,this]
    rw [z6z (Γ1:=[some (.int (n:Int)),some d,some (.int (a.1:Int)),some (.int (a.2.1:Int)),some (.bl a.2.2)]) (μ1:=μ') ((zhr (zjg t1)).trans (zbw (o:=.nx) rfl))]
    exact (zhr (zjg t2)).trans (zbw (o:=.nx) rfl)
noncomputable def kvH (hs:List (Nat×Nat)):List (Key×D):=hs.map fun p=>(Sum.inl (p.1:Int),D.int (p.2:Int))
theorem zcm (hs:List (Nat×Nat)) (x:Nat):zab (kvH hs) (Sum.inl (x:Int))=(z2c hs x).map fun r=>D.int (r:Int):=by
  unfold zab z2c kvH
  induction hs with
  | nil=>rfl
  | cons p r ih =>
    rw [List.map_cons,List.find?_cons,List.find?_cons]
    by_cases z:p.1=x
    · subst z;simp
    · have z':¬ ((Sum.inl (p.1:Int):Key)=Sum.inl (x:Int)):=fun e=>z (by injection e with e;omega)
      simp only [z,z',decide_false]
      exact ih
theorem zdi {kvs:List (Key×D)} {k:Key} (v:D) (h:zab kvs k=none):zc5 kvs k v=kvs++[(k,v)]:=by
  unfold zc5
  rw [if_neg]
  intro hc
  obtain ⟨kv,hm,he⟩:=List.any_eq_true.mp hc
  unfold zab at h
  rw [Option.map_eq_none_iff,List.find?_eq_none] at h
  exact h kv hm he
theorem zhe {hs:List (Nat×Nat)} {k:Nat} (v:Nat) (h:k∉hs.map (·.1)):zc5 (kvH hs) (Sum.inl (k:Int)) (.int (v:Int))=kvH (hs++[(k,v)]):=by
  rw [zdi _ (by rw [zcm,hVal_none.mpr h];rfl)]
  simp [kvH]
theorem zdp {o w:Nat} {n:Nat}:∀ (hs done:List (Nat×Nat)) (o1 o2:Option D) (μ:M),μ[n]?=some (some (.dK (kvH (z7f done o w))))→((done++hs).map (·.1)).Nodup→(done++hs).length≤100000 →
    z4q n none (z2p 2 (z0e (z00 0) (z0e (z00 1) z2q))) z1i (z01 0) (vIf (vT (v2 fEq (z01 1) (z01 2))) (z01 3) (z01 1)) ((kvH hs).map fun kv=>.tup [zhh kv.1,kv.2]) [o1,o2,some (.int (o:Int)),some (.int (w:Int))] μ
      = some (μ.set n (some (.dK (kvH (z7f (done++hs) o w)))))
  | [],done,o1,o2,μ,h,_,_=>by
    simp only [kvH,List.map_nil,z4q,List.append_nil]
    congr 1
    apply List.ext_getElem?
    intro j
    by_cases e:j=n
    · subst e;rw [h,z37 h];rfl
    · rw [z0z e]
  | p::hs,done,o1,o2,μ,h,hn,hl=>by
    have hp:p.1∉(z7f done o w).map (·.1):=by
      rw [zav]
      rw [List.map_append,List.nodup_append] at hn
      exact fun hm=>hn.2.2 p.1 hm p.1 (by simp) rfl
    have e1:z7f done o w++[(p.1,if p.2=o then w else p.2)]=z7f (done++[p]) o w:=by simp [z7f]
    have hset:=z37 (y:=some (O.dK (kvH (z7f (done++[p]) o w)))) h
    have ih:=zdp (n:=n) (o:=o) (w:=w) hs (done++[p]) (some (.int (p.1:Int))) (some (.int (p.2:Int))) (μ.set n (some (.dK (kvH (z7f (done++[p]) o w))))) hset (by simpa using hn) (by simpa using hl)
    have hg:z2p 2 (z0e (z00 0) (z0e (z00 1) z2q)) (.tup [.int (p.1:Int),.int (p.2:Int)]) [o1,o2,some (.int (o:Int)),some (.int (w:Int))] μ=some ([some (.int (p.1:Int)),some (.int (p.2:Int)),some (.int (o:Int)),some (.int (w:Int))],μ):=rfl
    have hv:vIf (vT (v2 fEq (z01 1) (z01 2))) (z01 3) (z01 1) [some (.int (p.1:Int)),some (.int (p.2:Int)),some (.int (o:Int)),some (.int (w:Int))] μ=some (.int ((if p.2=o then w else p.2:Nat):Int),μ):=by
      by_cases z:p.2=o
      · subst z;simp [fEq,eqD]
      · have z':¬ ((p.2:Int)=(o:Int)):=by omega
        simp [fEq,eqD,z,z']
    have hk:z01 0 [some (.int (p.1:Int)),some (.int (p.2:Int)),some (.int (o:Int)),some (.int (w:Int))] μ=some (.int (p.1:Int),μ):=rfl
    show z4q n none _ z1i (z01 0) _ (.tup [.int (p.1:Int),.int (p.2:Int)]::(kvH hs).map fun kv=>.tup [zhh kv.1,kv.2]) _ μ=_
    simp only [z4q,hg,bs]
    show (z1i _ _).bind _=_
    simp only [z1i,bs,if_true,hk,hv,ziy,z8c,h]
    rw [z26 ⟨by simp [kvH,z7f];simp at hl;omega,trivial⟩,zhe _ hp,e1]
    rw [ih]
    congr 1
    rw [List.set_set,List.append_assoc]
    rfl
theorem zg7 {h o w:Nat} {hs:List (Nat×Nat)} {μ:M} (hh:μ[h]?=some (some (.dK (kvH hs)))) (hn:hNd hs) (hl:hs.length≤100000) :
    z1w [.ref h,.int (o:Int),.int (w:Int)] μ=some (.ref μ.length,μ.set h none++[some (.dK (kvH (z7f hs o w)))]):=by
  have hlen:(μ.set h none).length=μ.length:=List.length_set ..
  have h0:(μ.set h none++[some (O.dK [])])[μ.length]?=some (some (.dK (kvH (z7f [] o w)))):=by
    rw [List.getElem?_append_right (by omega),hlen];simp [kvH,z7f]
  have e:=zdp (o:=o) (w:=w) (n:=μ.length) hs [] none none (μ.set h none++[some (.dK [])]) h0 (by simpa [hNd] using hn) (by simpa using hl)
  have hv:z8y ["thing", "home"] [("old",1),("new",2)] (z01 0) (z2p 2 (z0e (z00 0) (z0e (z00 1) z2q))) z1i (z01 0) (vIf (vT (v2 fEq (z01 1) (z01 2))) (z01 3) (z01 1)) [some (.ref h),some (.int (o:Int)),some (.int (w:Int))] μ=some (.ref μ.length,μ.set h none++[some (.dK (kvH (z7f hs o w)))]):=by
    unfold z8y
    have hv0:z01 0 [some (.ref h),some (.int (o:Int)),some (.int (w:Int))] μ=some (.ref h,μ):=rfl
    rw [hv0,bs]
    show (z8c μ (.ref h)).bind _=_
    simp only [z8c,hh,bs]
    rw [z26 (by simp [kvH];omega)]
    have hc:z4r (["thing", "home"]:List Str) [("old",1),("new",2)] [some (.ref h),some (.int (o:Int)),some (.int (w:Int))]=[none,none,some (.int (o:Int)),some (.int (w:Int))]:=rfl
    rw [hc,e,bs]
    congr 2
    have:(μ.set h none++[some (O.dK [])]).set μ.length (some (.dK (kvH (z7f ([]++hs) o w))))=μ.set h none++[some (.dK (kvH (z7f hs o w)))]:=by
      rw [List.set_append_right _ _ (by omega),hlen]
      simp
    exact this
  unfold z1w z9r
  rw [z1t,if_pos (show [D.ref h,D.int (o:Int),D.int (w:Int)].length=3 from rfl)]
  show z6l (z32 _ [some (.ref h),some (.int (o:Int)),some (.int (w:Int))] μ)=_
  rw [z42,hv]
  rfl
structure On (s:Nat) (μ μ':M):Prop where
  len:μ'.length=μ.length
  at_:∀ j,j≠s→μ'[j]?=μ[j]?
theorem On.refl {s:Nat} {μ:M}:On s μ μ:=⟨rfl,fun _ _=>rfl⟩
theorem zgz {s:Nat} {μ:M} {o:Option O}:On s μ (μ.set s o):=⟨by simp,fun j n=>z0z n⟩
theorem On.trans {s:Nat} {μ μ1 μ2:M} (h:On s μ μ1) (g:On s μ1 μ2):On s μ μ2:=⟨g.len.trans h.len,fun j n=>(g.at_ j n).trans (h.at_ j n)⟩
theorem On.gr {s:Nat} {μ μ1 μ2:M} (g:Gr μ μ1) (h:On s μ1 μ2) (hs:μ.length≤s):Gr μ μ2:=⟨by rw [h.len];exact g.len,fun j hj=>by rw [h.at_ j (by omega)];exact g.at_ j hj⟩
theorem zgb {h x:Nat} {hs:List (Nat×Nat)} {μ:M} {Γ:G} {ek:EV} (h0:Γ[1]?=some (some (.ref h))) (hk:ek Γ μ=some (.int (x:Int),μ)) (hh:μ[h]?=some (some (.dK (kvH hs)))) (hl:hs.length<100000) :
    ∃ d μ',z21 (z01 1) ek ek Γ μ=some (d,μ')∧μ'[h]?=some (some (.dK (kvH (z2o hs x))))∧On h μ μ':=by
  have hv:z01 1 Γ μ=some (.ref h,μ):=zs8 h0
  have hd:z8c μ (.ref h)=some (kvH hs):=by simp only [z8c,hh]
  have hlen:(kvH hs).length<1000000:=by simp [kvH];omega
  unfold z21
  rw [hv,bs]
  simp only [hd,bs,hk,ziy,if_pos hlen,zcm]
  cases hx:z2c hs x with
  | some r =>
    refine ⟨.int (r:Int),μ,rfl,?_,.refl⟩
    unfold z2o;rw [hx];exact hh
  | none =>
    refine ⟨.int (x:Int),μ.set h (some (.dK (zc5 (kvH hs) (Sum.inl (x:Int)) (.int (x:Int))))),rfl,?_,zgz⟩
    rw [z37 hh,zhe _ (hVal_none.mp hx)]
    unfold z2o;rw [hx];rfl
theorem z6o {h x r:Nat} {hs:List (Nat×Nat)} {μ:M} (hh:μ[h]?=some (some (.dK (kvH hs)))) (hx:z2c hs x=some r):z55 (.ref h) (.int (x:Int)) μ=some (.int (r:Int),μ):=by
  unfold z55
  simp only [z8c,hh,bs,ziy,zcm,hx]
  rfl
noncomputable abbrev zks:SV:=(z0v (z43 (z21 (z01 1) (z01 2) (z01 2)))
      (z0v (z43 (z21 (z01 1) (z01 3) (z01 3)))
      (sIf (z65 (z01 4))
        (z10 (vL z1w (z02 (z01 1) (z02 (v2 z55 (z01 1) (z01 3)) (z02 (v2 z55 (z01 1) (z01 2)) z0b)))) (z00 1))
        sNx)))
theorem zg9 {d:D} {h:Nat} {a:An} {hs:List (Nat×Nat)} {μ:M} (hh:μ[h]?=some (some (.dK (kvH hs)))) (hn:hNd hs) (hl:hs.length<10000) :
    ∃ h' μ',zks [some d,some (.ref h),some (.int (a.1:Int)),some (.int (a.2.1:Int)),some (.bl a.2.2)] μ=some (.nx,[some d,some (.ref h'),some (.int (a.1:Int)),some (.int (a.2.1:Int)),some (.bl a.2.2)],μ')∧μ'[h']?=some (some (.dK (kvH (z5s hs a))))∧(∀ μ0,Gr μ0 μ→μ0.length≤h→Gr μ0 μ'∧μ0.length≤h'):=by
  obtain ⟨d1,μ1,e1,h1,o1⟩:=zgb (x:=a.1) (Γ:=[some d,some (.ref h),some (.int (a.1:Int)),some (.int (a.2.1:Int)),some (.bl a.2.2)]) (ek:=z01 2) rfl rfl hh (by omega)
  have l1:=z6m hs a.1
  obtain ⟨d2,μ2,e2,h2,o2⟩:=zgb (x:=a.2.1) (Γ:=[some d,some (.ref h),some (.int (a.1:Int)),some (.int (a.2.1:Int)),some (.bl a.2.2)]) (ek:=z01 3) (μ:=μ1) rfl rfl h1 (by omega)
  have l2:=z6m (z2o hs a.1) a.2.1
  have s12:zks [some d,some (.ref h),some (.int (a.1:Int)),some (.int (a.2.1:Int)),some (.bl a.2.2)] μ=sIf (z65 (z01 4)) (z10 (vL z1w (z02 (z01 1) (z02 (v2 z55 (z01 1) (z01 3)) (z02 (v2 z55 (z01 1) (z01 2)) z0b)))) (z00 1)) sNx [some d,some (.ref h),some (.int (a.1:Int)),some (.int (a.2.1:Int)),some (.bl a.2.2)] μ2:=by
    unfold zks
    rw [z09,z3l,e1]
    show zfc _ (some (.nx,_,μ1))=_
    rw [z0d,z09,z3l,e2]
    rfl
  rw [s12]
  have hb:z65 (z01 4) [some d,some (.ref h),some (.int (a.1:Int)),some (.int (a.2.1:Int)),some (.bl a.2.2)] μ2=some (a.2.2,μ2):=by simp
  cases hc:a.2.2 with
  | false =>
    rw [hc] at hb
    refine ⟨h,μ2,by rw [z1n,hb];rfl,?_,fun μ0 g0 hle=>⟨On.gr g0 (o1.trans o2) hle,hle⟩⟩
    rw [h2]
    unfold z5s;simp [hc]
  | true =>
    rw [hc] at hb
    have vi:∃ r,z2c (z2o (z2o hs a.1) a.2.1) a.1=some r:=by
      rw [z3q]
      split
      · exact ⟨_,rfl⟩
      · rw [z3q,if_pos rfl];exact ⟨_,rfl⟩
    have vj:∃ r,z2c (z2o (z2o hs a.1) a.2.1) a.2.1=some r:=by rw [z3q,if_pos rfl];exact ⟨_,rfl⟩
    refine bq fun bG=>?_
    obtain ⟨ri,hi⟩:=vi
    obtain ⟨rj,hj⟩:=vj
    have nd2:=z9j (z9j hn a.1) a.2.1
    have em:=zg7 (o:=rj) (w:=ri) h2 nd2 (by omega)
    refine bG (⟨μ2.length,μ2.set h none++[some (.dK (kvH (z7f (z2o (z2o hs a.1) a.2.1) rj ri)))],?_,?_,fun μ0 g0 hle=>?_⟩)
    · rw [z1n,hb]
      show z10 _ _ _ _=_
      have gj:=z6o h2 hj
      have gi:=z6o h2 hi
      simp [gj,gi,em]
    · have:(μ2.set h none).length=μ2.length:=List.length_set ..
      rw [List.getElem?_append_right (by omega),this]
      simp [z5s,hc,hi,hj]
    · have g2:=On.gr g0 (o1.trans o2) hle
      refine ⟨⟨by simp;have:=g2.len;omega,fun j hj'=>?_⟩,g2.len⟩
      have hlt:j<μ2.length:=by have:=g2.len;omega
      rw [List.getElem?_append_left (by simpa using hlt),z0z (by omega)]
      exact g2.at_ j hj'
theorem zg8 {d:D} {as:List An} {μ:M} (hl:Ls μ d (as.map dA)) (hs:as.length≤1000):∃ h μ',z1p z1w [d] μ=some (.ref h,μ')∧μ'[h]?=some (some (.dK (kvH (z2n as))))∧Gr μ μ':=by
  obtain ⟨h1,c,h2,h3,h4⟩:=hl
  have main:=z53 (c:=c) (g:=(z2p 3 (z0e (z00 2) (z0e (z00 3) (z0e (z00 4) z2q))))) (body:=zks)
    (fun i Γ μ'=>∃ h o2 o3 o4,Γ=[some d,some (.ref h),o2,o3,o4]∧μ'[h]?=some (some (.dK (kvH (z2n (as.take i)))))∧Gr μ μ'∧μ.length≤h)
    (as.map dA) 0 [some d,some (.ref μ.length),none,none,none] (μ++[some (.dK [])]) ⟨μ.length,_,_,_,rfl,by simp [kvH,z2n],gr_app,Nat.le_refl _⟩ ?_
  · obtain ⟨Γ',μ',e,h,o2,o3,o4,rfl,hh,g,_⟩:=main
    rw [Nat.zero_add,List.length_map,List.take_length] at hh
    refine ⟨h,μ',?_,hh,g⟩
    unfold z1p z59
    rw [z1t,if_pos (show [d].length=1 from rfl)]
    show z6l (z0v _ _ [some d,none,none,none,none] μ)=_
    have s1:z10 zfq (z00 1) [some d,none,none,none,none] μ=some (.nx,[some d,some (.ref μ.length),none,none,none],μ++[some (.dK [])]):=rfl
    have hi:ivL (z01 0) [some d,some (.ref μ.length),none,none,none] (μ++[some (.dK [])])=some ((as.map dA,c),μ++[some (.dK [])]):=by
      have hL:Ls (μ++[some (.dK [])]) d (as.map dA):=Ls.gr ⟨h1,c,h2,h3,h4⟩ gr_app
      have:lsC (μ++[some (.dK [])]) d=some (as.map dA,c):=by
        cases d with
        | ref k =>
          rcases z2l (μ:=μ) (d:=.ref k) ⟨h1,c,h2,h3,h4⟩ with ⟨k',e,hk⟩ | e | e
          · cases e
            rw [z52 hk] at h2
            rw [z52 ((gr_app (ex:=[some (.dK [])])).get hk)]
            exact h2
          · cases e
          · cases e
        | _=>exact h2
      simp [this]
    rw [z09,s1,z0d,z09,z2e,hi,z3v,e]
    rfl
  · rintro j x Γ μ1 hx ⟨h,o2,o3,o4,rfl,hh,g,hle⟩
    rw [Nat.zero_add] at hh
    rw [List.getElem?_map] at hx
    cases ha:as[j]? with
    | none=>rw [ha] at hx;cases hx
    | some a =>
      rw [ha] at hx
      cases hx
      have hlen:(z2n (as.take j)).length<10000:=by
        have:=zhs (as.take j)
        have:=List.length_take_le j as
        rw [List.length_take] at *
        omega
      refine bq fun bG=>?_
      obtain ⟨h',μ2,e,hh2,hg⟩:=zg9 (d:=d) (a:=a) hh (zko _) hlen
      obtain ⟨g2,hle2⟩:=hg μ g hle
      refine bG (⟨[some d,some (.ref h),some (.int (a.1:Int)),some (.int (a.2.1:Int)),some (.bl a.2.2)],μ1,_,μ2,rfl,e,h4 _ g2,h',some (.int (a.1:Int)),some (.int (a.2.1:Int)),some (.bl a.2.2),rfl,?_,g2,hle2⟩)
      rw [hh2,Nat.zero_add,zf0 as j a ha]
theorem z31 {c:Ck} {g:GV} {tc:BV} {te:EV} {α:Type} {dn:α→D} {keep:α→Bool} {val:α→D} (Pv:G→Prop) {μ:M} (hc:z33 c μ):∀ (l:List α) (Γ:G),Pv Γ →
    (∀ x∈l,∀ Γ,Pv Γ→∃ Γ1,g (dn x) Γ μ=some (Γ1,μ)∧tc Γ1 μ=some (keep x,μ)∧(keep x=true→te Γ1 μ=some (val x,μ))∧Pv Γ1) →
    z2s c g tc te (l.map dn) Γ μ=some ((l.filter keep).map val,μ)
  | [],_,_,_=>rfl
  | x::r,Γ,h,hs=>by
    obtain ⟨Γ1,h1,h2,h3,h4⟩:=hs x (by simp) Γ h
    have ih:=z31 Pv hc r Γ1 h4 fun x hx=>hs x (by simp [hx])
    simp only [List.map_cons,z2s,h1,bs,h2]
    cases hk:keep x with
    | true=>simp only [if_true,h3 hk,bs,z26 hc,ih,List.filter_cons_of_pos hk,List.map_cons]
    | false=>simp only [Bool.false_eq_true,if_false,z26 hc,ih,List.filter_cons,hk]
theorem z4c {α:Type} (l:List α):l.filter (fun _=>true)=l:=List.filter_eq_self.mpr (by simp)
section
variable {α:Type} {own:Str} {cap:List (Str×Nat)} {z1y:G} {iv:IV} {tc:BV} {te:EV} {Γ:G} {μ:M} {c:Ck} {l:List α} {dn:α→D}
theorem z9w {keep:α→Bool} {val:α→D} (hi:iv Γ μ=some ((l.map dn,c),μ)) (hl:l.length≤1000000) (hc:z33 c μ) (he:z4r [own] cap Γ=none::z1y)
    (ht:∀ x∈l,tc (some (dn x)::z1y) μ=some (keep x,μ)) (hv:∀ x∈l,keep x=true→te (some (dn x)::z1y) μ=some (val x,μ)):z1d [own] cap iv (z00 0) tc te Γ μ=some (.lst ((l.filter keep).map val),μ):=by
  rw [z6h,hi,z9g,if_pos (by simpa using hl),he]
  rw [z31 (g:=z00 0) (tc:=tc) (te:=te) (keep:=keep) (val:=val) (fun Γ=>∃ o,Γ=o::z1y) hc l (none::z1y) ⟨none,rfl⟩ (by
    rintro x hx Γ ⟨o,rfl⟩
    exact ⟨some (dn x)::z1y,rfl,ht x hx,hv x hx,_,rfl⟩)]
  rfl
theorem z49 {val:α→D} (hi:iv Γ μ=some ((l.map dn,c),μ)) (hl:l.length≤1000000) (hc:z33 c μ) (he:z4r [own] cap Γ=none::z1y)
    (hv:∀ x∈l,te (some (dn x)::z1y) μ=some (val x,μ)):z1d [own] cap iv (z00 0) z1i te Γ μ=some (.lst (l.map val),μ):=by
  rw [z9w (keep:=fun _=>true) (val:=val) hi hl hc he (fun _ _=>rfl) (fun x hx _=>hv x hx),z4c]
end
theorem Ls.iv {μ:M} {d:D} {ds:List D} {Γ:G} {i:Nat} (h:Ls μ d ds) (hΓ:Γ[i]?=some (some d)):∃ c,ivL (z01 i) Γ μ=some ((ds,c),μ)∧z33 c μ∧∀ μ',Gr μ μ'→z33 c μ':=by
  obtain ⟨h1,c,h2,h3,h4⟩:=h
  exact ⟨c,by unfold ivL;rw [zs8 hΓ,bs];show (lsC μ d).bind _=_;rw [h2,bs],h3,h4⟩
section
variable {C CF CT:Addr} {n:Nat} {d:D} {as:List An} {μ:M}
noncomputable abbrev zci (C:Addr):FX:=z78 (z1p z1w) (z1g C)
noncomputable abbrev z9f (C CF:Addr):FX:=z38 (zci C) CF
theorem zge (hl:Ls μ d (as.map dA)) (hv:Ok2 n as) (hs:as.length≤1000):∃ μ',zci C [.int (n:Int),d] μ=some (.ok (.bl (zf8 as)),μ')∧Gr μ μ':=by
  refine bq fun bG=>?_
  obtain ⟨h,μ1,e1,hh,g⟩:=zg8 hl hs
  refine bG (⟨μ1,?_,g⟩)
  have hc1:=zgd (C:=C) hl hv
  obtain ⟨c,hi,hck,_⟩:=(hl.gr g).iv (Γ:=[some (.int (n:Int)),some d,some (.ref h)]) (i:=1) rfl
  have hcmp:z1d ["i", "j", "alike"] [("homes",2)] (ivL (z01 1)) (z2p 3 (z0e (z00 0) (z0e (z00 1) (z0e (z00 2) z2q)))) z1i (vOr (z01 2) (v2 fNe (v2 z55 (z01 3) (z01 0)) (v2 z55 (z01 3) (z01 1)))) [some (.int (n:Int)),some d,some (.ref h)] μ1=some (.lst ((as.map fun a=>a.2.2||!decide (z2c (z2n as) a.1=z2c (z2n as) a.2.1)).map D.bl),μ1):=by
    rw [z6h,hi,z9g,if_pos (by simp;omega)]
    have ec:z4r (["i", "j", "alike"]:List Str) [("homes",2)] [some (.int (n:Int)),some d,some (.ref h)]=[none,none,none,some (.ref h)]:=rfl
    rw [ec,z31 (dn:=dA) (keep:=fun _=>true) (val:=fun a=>D.bl (a.2.2||!decide (z2c (z2n as) a.1=z2c (z2n as) a.2.1))) (fun Γ=>∃ o1 o2 o3,Γ=[o1,o2,o3,some (.ref h)]) hck as _ ⟨_,_,_,rfl⟩ ?_,z4c]
    · simp
    · rintro a ha Γ ⟨o1,o2,o3,rfl⟩
      refine bq fun bG=>?_
      obtain ⟨n1,n2⟩:=(z9i as).named a ha
      obtain ⟨r1,q1⟩:=Option.isSome_iff_exists.mp n1
      obtain ⟨r2,q2⟩:=Option.isSome_iff_exists.mp n2
      have g1:=z6o hh q1
      have g2:=z6o hh q2
      refine bG (⟨[some (.int (a.1:Int)),some (.int (a.2.1:Int)),some (.bl a.2.2),some (.ref h)],rfl,rfl,fun _=>?_,_,_,_,rfl⟩)
      have ht:v2 fNe (v2 z55 (z01 3) (z01 0)) (v2 z55 (z01 3) (z01 1)) [some (.int (a.1:Int)),some (.int (a.2.1:Int)),some (.bl a.2.2),some (.ref h)] μ1=some (.bl (!decide (z2c (z2n as) a.1=z2c (z2n as) a.2.1)),μ1):=by
        rw [e_2 (x:=.int (r1:Int)) (μ1:=μ1) (y:=.int (r2:Int)) (μ2:=μ1) (by rw [e_2 (x:=.ref h) (μ1:=μ1) (y:=.int (a.1:Int)) (μ2:=μ1) rfl rfl];exact g1) (by rw [e_2 (x:=.ref h) (μ1:=μ1) (y:=.int (a.2.1:Int)) (μ2:=μ1) rfl rfl];exact g2),q1,q2]
        simp [fNe,eqD]
        omega
      cases hb:a.2.2 with
      | true=>rfl
      | false =>
        rw [hb] at ht
        rw [zpo]
        show zsu _ _ (some (.bl false,μ1))=_
        exact ht
  refine z94 (Γ1:=[some (.int (n:Int)),some d,some (.ref h)]) rfl ?_
  unfold z7l
  show z4f _ _ [some (.int (n:Int)),some d,none] μ=_
  rw [z6z (Γ1:=[some (.int (n:Int)),some d,none]) (μ1:=μ) (zi1 (d:=.non) (by rw [z6u (ds:=[.int (n:Int),d]) (μ1:=μ) (z7z rfl)];exact hc1))]
  refine zbw (o:=.rt _) ?_
  have s1:z10 (vL (z1p z1w) (z02 (z01 1) z0b)) (z00 2) [some (.int (n:Int)),some d,none] μ=some (.nx,[some (.int (n:Int)),some d,some (.ref h)],μ1):=by
    simp [e1]
  rw [z09,s1,z0d,z42,e_1 hcmp]
  simp only [ze2,z2h,bs,z5j]
  show some (Out.rt (.bl _),_,_)=_
  congr 4
  unfold zf8
  simp [List.all_map]
theorem zak (hl:Ls μ d (as.map dA)) (hv:Ok2 n as) (hs:as.length≤1000) (hc:zf8 as=true):∃ μ',z9f C CF [.int (n:Int),d] μ=some (.ok .non,μ')∧Gr μ μ':=by
  refine bq fun bG=>?_
  obtain ⟨μ1,e,g⟩:=zge (C:=C) hl hv hs
  rw [hc] at e
  refine bG (⟨μ1,zgh (Γ1:=[some (.int (n:Int)),some d]) rfl ?_,g⟩)
  unfold z2a
  show zde _ _ _ [some (.int (n:Int)),some d] μ=_
  have e2:vLX (zci C) (upL (z02 (z01 0) (z02 (z01 1) z0b))) [some (.int (n:Int)),some d] μ=some (.ok (.bl true),μ1):=by
    rw [z6u (ds:=[.int (n:Int),d]) (μ1:=μ) (z7z rfl)];exact e
  have e3:zfa (bTX (vLX (zci C) (upL (z02 (z01 0) (z02 (z01 1) z0b))))) [some (.int (n:Int)),some d] μ=some (.ok false,μ1):=by
    unfold zfa bTX;rw [e2];rfl
  rw [zhr e3]
  exact zbw (o:=.nx) rfl
theorem zal (hl:Ls μ d (as.map dA)) (hv:Ok2 n as) (hs:as.length≤1000) (hc:zf8 as=false):∃ μ',z9f C CF [.int (n:Int),d] μ=some (.ex CF,μ')∧Gr μ μ':=by
  refine bq fun bG=>?_
  obtain ⟨μ1,e,g⟩:=zge (C:=C) hl hv hs
  rw [hc] at e
  refine bG (⟨μ1,zc3 (Γ1:=[some (.int (n:Int)),some d]) rfl ?_,g⟩)
  unfold z2a
  show zde _ _ _ [some (.int (n:Int)),some d] μ=_
  have e2:vLX (zci C) (upL (z02 (z01 0) (z02 (z01 1) z0b))) [some (.int (n:Int)),some d] μ=some (.ok (.bl false),μ1):=by
    rw [z6u (ds:=[.int (n:Int),d]) (μ1:=μ) (z7z rfl)];exact e
  have e3:zfa (bTX (vLX (zci C) (upL (z02 (z01 0) (z02 (z01 1) z0b))))) [some (.int (n:Int)),some d] μ=some (.ok true,μ1):=by
    unfold zfa bTX;rw [e2];rfl
  rw [zu6 e3]
  exact zna rfl
end
noncomputable def dI (s:List Int):D:=.lst (s.map D.int)
theorem ze3 (a b:Bool) (μ:M):eqD (.bl a) (.bl b) μ=some (a==b):=by
  cases a <;> cases b <;> rfl
noncomputable abbrev zb2:SV:=(sIf (vT (v2 fNe (v2 fEq (v2 fIx (z01 0) (z01 2)) (v2 fIx (z01 0) (z01 3))) (z01 4)))
        (z32 (vC (.bl false)))
        sNx)
theorem zay {s:List Int} {d:D} {c:Ck} {μ:M} (hc:z33 c μ):∀ (as:List An) (o2 o3 o4:Option D),InN s.length as →
    (zcr s as=true→∃ o2' o3' o4',z5b c (z2p 3 (z0e (z00 2) (z0e (z00 3) (z0e (z00 4) z2q)))) zb2 (as.map dA) [some (dI s),some d,o2,o3,o4] μ=some (.nx,[some (dI s),some d,o2',o3',o4'],μ)) ∧
    (zcr s as=false→∃ Γ',z5b c (z2p 3 (z0e (z00 2) (z0e (z00 3) (z0e (z00 4) z2q)))) zb2 (as.map dA) [some (dI s),some d,o2,o3,o4] μ=some (.rt (.bl false),Γ',μ))
  | [],o2,o3,o4,_=>⟨fun _=>⟨o2,o3,o4,rfl⟩,fun h=>by cases h⟩
  | a::as,o2,o3,o4,hv=>by
    obtain ⟨h1,h2⟩:=hv a (by simp)
    obtain ⟨ih1,ih2⟩:=zay (s:=s) (d:=d) hc as (some (.int (a.1:Int))) (some (.int (a.2.1:Int))) (some (.bl a.2.2)) (fun x hx=>hv x (by simp [hx]))
    have hg:z2p 3 (z0e (z00 2) (z0e (z00 3) (z0e (z00 4) z2q))) (dA a) [some (dI s),some d,o2,o3,o4] μ=some ([some (dI s),some d,some (.int (a.1:Int)),some (.int (a.2.1:Int)),some (.bl a.2.2)],μ):=rfl
    have ix:∀ x:Nat,x<s.length→fIx (dI s) (.int (x:Int)) μ=some (.int (s.getD x 0),μ):=fun x hx=>by
      simp only [fIx,dI,z2h]
      rw [z7v (j:=x) (v:=.int (s.getD x 0)) (by rw [List.getElem?_map,List.getD_eq_getElem?_getD];simp [List.getElem?_eq_getElem hx])]
      rfl
    have t:vT (v2 fNe (v2 fEq (v2 fIx (z01 0) (z01 2)) (v2 fIx (z01 0) (z01 3))) (z01 4)) [some (dI s),some d,some (.int (a.1:Int)),some (.int (a.2.1:Int)),some (.bl a.2.2)] μ=some (!(decide (s.getD a.1 0=s.getD a.2.1 0)==a.2.2),μ):=by
      rw [z7y,e_2 (x:=.bl (decide (s.getD a.1 0=s.getD a.2.1 0))) (μ1:=μ) (y:=.bl a.2.2) (μ2:=μ) (by
        rw [e_2 (x:=.int (s.getD a.1 0)) (μ1:=μ) (y:=.int (s.getD a.2.1 0)) (μ2:=μ) (by rw [e_2 (x:=dI s) (μ1:=μ) (y:=.int (a.1:Int)) (μ2:=μ) rfl rfl];exact ix _ h1) (by rw [e_2 (x:=dI s) (μ1:=μ) (y:=.int (a.2.1:Int)) (μ2:=μ) rfl rfl];exact ix _ h2)]
        rfl) rfl]
      simp only [fNe,ze3,bs]
      rfl
    have ef:zcr s (a::as)=((decide (s.getD a.1 0=s.getD a.2.1 0)==a.2.2)&&zcr s as):=rfl
    rw [ef]
    cases hb:(decide (s.getD a.1 0=s.getD a.2.1 0)==a.2.2) with
    | true =>
      rw [hb] at t
      have hbd:zb2 [some (dI s),some d,some (.int (a.1:Int)),some (.int (a.2.1:Int)),some (.bl a.2.2)] μ=some (.nx,[some (dI s),some d,some (.int (a.1:Int)),some (.int (a.2.1:Int)),some (.bl a.2.2)],μ):=by
        unfold zb2;rw [z1n,t];rfl
      have step:z5b c (z2p 3 (z0e (z00 2) (z0e (z00 3) (z0e (z00 4) z2q)))) zb2 ((a::as).map dA) [some (dI s),some d,o2,o3,o4] μ=z5b c (z2p 3 (z0e (z00 2) (z0e (z00 3) (z0e (z00 4) z2q)))) zb2 (as.map dA) [some (dI s),some d,some (.int (a.1:Int)),some (.int (a.2.1:Int)),some (.bl a.2.2)] μ:=by
        rw [List.map_cons]
        simp only [z5b,hg,bs,hbd]
        rw [z26 hc]
      rw [step,Bool.true_and]
      exact ⟨ih1,ih2⟩
    | false =>
      rw [hb] at t
      have hbd:zb2 [some (dI s),some d,some (.int (a.1:Int)),some (.int (a.2.1:Int)),some (.bl a.2.2)] μ=some (.rt (.bl false),[some (dI s),some d,some (.int (a.1:Int)),some (.int (a.2.1:Int)),some (.bl a.2.2)],μ):=by
        unfold zb2;rw [z1n,t];rfl
      refine ⟨fun z=>by simp at z,fun _=>⟨[some (dI s),some d,some (.int (a.1:Int)),some (.int (a.2.1:Int)),some (.bl a.2.2)],?_⟩⟩
      rw [List.map_cons]
      simp only [z5b,hg,bs,hbd]
theorem zju {s:List Int} {d:D} {as:List An} {μ:M} (hl:Ls μ d (as.map dA)) (hv:InN s.length as):z45 [dI s,d] μ=some (.bl (zcr s as),μ):=by
  obtain ⟨c,hi,hck,_⟩:=hl.iv (Γ:=[some (dI s),some d,none,none,none]) (i:=1) rfl
  obtain ⟨l1,l2⟩:=zay (s:=s) (d:=d) hck as none none none hv
  unfold z45 zcv
  rw [z1t,if_pos (show [dI s,d].length=2 from rfl)]
  show z6l (z0v _ _ [some (dI s),some d,none,none,none] μ)=_
  rw [z09,z2e,hi,z3v]
  cases hb:zcr s as with
  | true =>
    obtain ⟨o2,o3,o4,e⟩:=l1 hb
    rw [e]
    rfl
  | false =>
    obtain ⟨Γ',e⟩:=l2 hb
    rw [e]
    rfl
noncomputable def ext (m:Nat) (p:List Int×Nat):List (List Int×Nat):=(List.range (min (p.2+1) m)).map fun (i:Nat)=>(p.1++[(i:Int)],max p.2 (i+1))
noncomputable def dS (p:List Int×Nat):D:=dI p.1
theorem zjq {μ:M} {s:List Int×Nat} {k:Int} {n:Nat} (g:Gd n k.toNat s) (hn:n≤7):z0f [dS s,.int k] μ=some (.lst ((ext k.toNat s).map dS),μ):=by
  have hl:s.1.length≤1000:=by rw [g.len];omega
  have hu:=g.used
  have h2:=g.len2
  have s1:z10 (v2 z0w (v2 z9o (z01 0) (v1 zof (vC (.int 1)))) (vC (.int 1))) (z00 2) [some (dS s),some (.int k),none] μ=some (.nx,[some (dS s),some (.int k),some (.int (s.2:Int))],μ):=by
    have e1:v2 z9o (z01 0) (v1 zof (vC (.int 1))) [some (dS s),some (.int k),none] μ=some (.int ((mxL s.1).getD (-1)),μ):=by
      rw [e_2 (x:=dS s) (μ1:=μ) (y:=.int (-1)) (μ2:=μ) rfl (by simp [zof])]
      simp only [z9o,dS,dI,z2h,bs,z5i]
    rw [z1l,e_2 (x:=.int ((mxL s.1).getD (-1))) (μ1:=μ) (y:=.int 1) (μ2:=μ) e1 rfl]
    simp only [z0w,hu]
    rfl
  have s2:v2 zt3 (v2 z0w (z01 2) (vC (.int 1))) (z01 1) [some (dS s),some (.int k),some (.int (s.2:Int))] μ=some (.int (min ((s.2:Int)+1) k),μ):=by
    rw [e_2 (x:=.int ((s.2:Int)+1)) (μ1:=μ) (y:=.int k) (μ2:=μ) (by simp [z0w]) rfl]
    show some (D.int (if k<(s.2:Int)+1 then k else (s.2:Int)+1),μ)=_
    have e0:(if k<(s.2:Int)+1 then k else (s.2:Int)+1)=min ((s.2:Int)+1) k:=by
      simp only [Int.min_def]
      split <;> split <;> omega
    rw [e0]
  have s3:z1d ["number"] [("sort",0)] (zrw (v2 zt3 (v2 z0w (z01 2) (vC (.int 1))) (z01 1))) (z00 0) z1i (v2 z0w (z01 1) (vL z3j (z02 (z01 0) z0b))) [some (dS s),some (.int k),some (.int (s.2:Int))] μ=some (.lst ((List.range (min (s.2+1) k.toNat)).map fun i:Nat=>dI (s.1++[(i:Int)])),μ):=by
    refine z49 (l:=List.range (min (s.2+1) k.toNat)) (dn:=fun i:Nat=>D.int (i:Int)) (c:=none) (z1y:=[some (dS s)]) ?_ (by simp;omega) trivial rfl ?_
    · rw [zrv s2 (by have:=Int.min_le_left ((s.2:Int)+1) k;omega)]
      have hm:(min ((s.2:Int)+1) k).toNat=min (s.2+1) k.toNat:=by simp only [Int.min_def,Nat.min_def];split <;> split <;> omega
      rw [hm]
      simp [z4w]
    · intro i _
      rw [e_2 (x:=dS s) (μ1:=μ) (y:=.lst [.int (i:Int)]) (μ2:=μ) rfl rfl]
      show zog (.lst (s.1.map D.int)) (.lst [.int (i:Int)]) μ=_
      unfold zog
      simp only [zeg,bs]
      rw [if_pos (by simp;omega)]
      simp [dI]
  unfold z0f z25
  rw [z1t,if_pos (show [dS s,D.int k].length=2 from rfl)]
  show z6l (z0v _ _ [some (dS s),some (.int k),none] μ)=_
  rw [z09,s1,z0d,z42,s3]
  simp [ext,dS,Function.comp_def,z6l,kRt]
theorem zdx {α:Type} {f:α→D} {μ:M} {k:D}:∀ (l:List α) (a o:Option D),∃ o',z4p none (z00 1) z1i (z01 1) (l.map f) [a,o,some k] μ=some (l.map f,[a,o',some k],μ)
  | [],a,o=>⟨o,rfl⟩
  | p::l,a,o=>by
    refine bq fun bG=>?_
    obtain ⟨o',e⟩:=zdx l a (some (f p))
    refine bG (⟨o',?_⟩)
    have hg:z00 1 (f p) [a,o,some k] μ=some ([a,some (f p),some k],μ):=rfl
    have hv:z01 1 [a,some (f p),some k] μ=some (f p,μ):=rfl
    simp only [List.map_cons,z4p,hg,bs]
    show (z1i _ _).bind _=_
    simp only [z1i,bs,if_true,hv,z1x]
    rw [e]
    rfl
theorem ze7 {n:Nat} {k:Int} {μ:M} (hn:n≤7):∀ (ps:List (List Int×Nat)) (a o:Option D),(∀ p∈ps,Gd n k.toNat p) →
    z36 none (z00 0) z1i (ivL (vL z0f (z02 (z01 0) (z02 (z01 2) z0b)))) (z00 1) z1i (z01 1) (ps.map dS) [a,o,some (.int k)] μ=some ((ps.flatMap (ext k.toNat)).map dS,μ)
  | [],a,o,_=>rfl
  | p::ps,a,o,hg=>by
    have e1:=zjq (μ:=μ) (hg p (by simp)) hn
    obtain ⟨o',e3⟩:=zdx (f:=dS) (μ:=μ) (k:=.int k) (ext k.toNat p) (some (dS p)) o
    have e4:=ze7 (μ:=μ) hn ps (some (dS p)) o' (fun q hq=>hg q (by simp [hq]))
    have h0:z00 0 (dS p) [a,o,some (.int k)] μ=some ([some (dS p),o,some (.int k)],μ):=rfl
    have hv:ivL (vL z0f (z02 (z01 0) (z02 (z01 2) z0b))) [some (dS p),o,some (.int k)] μ=some (((ext k.toNat p).map dS,none),μ):=by
      simp [e1,lsC]
    rw [List.map_cons]
    simp only [z36,h0,bs]
    show (z1i _ _).bind _=_
    simp only [z1i,bs,if_true,hv,z1x]
    rw [e3]
    simp only [bs,z1x]
    rw [e4]
    simp
theorem ziq (n m:Nat):Sx (n+1) m=(Sx n m).flatMap (ext m):=rfl
theorem zn8 {μ:M} {n:Nat} {k:Int} {C:Addr} (hn:n≤7):z1q z0f (.int 7) C [.int (n:Int),.int k] μ=some (.ok (.lst ((Sx n k.toNat).map dS)),μ):=by
  have main:=z53 (c:=none) (g:=z00 3) (body:=(z10 (z4j ["sort", "longer"] [("most",1)] (ivL (z01 2)) (z00 0) z1i (ivL (vL z0f (z02 (z01 0) (z02 (z01 2) z0b)))) (z00 1) z1i (z01 1)) (z00 2)))
    (fun i Γ μ'=>∃ (o:Option D),Γ=[some (.int (n:Int)),some (.int k),some (.lst ((Sx i k.toNat).map dS)),o]∧μ'=μ)
    (z4w 0 n) 0 [some (.int (n:Int)),some (.int k),some (.lst [.lst []]),none] μ ⟨none,rfl,rfl⟩ ?_
  · obtain ⟨Γ',μ',e,o,rfl,rfl⟩:=main
    rw [z6k,Nat.zero_add] at e
    refine z94 (Γ1:=[some (.int (n:Int)),some (.int k),some (.lst ((Sx n k.toNat).map dS)),o]) rfl ?_
    unfold z48
    show z4f _ _ [some (.int (n:Int)),some (.int k),none,none] μ'=_
    have t:(bOr (vT (v2 fLt (z01 0) (vC (.int 0)))) (vT (v2 fGt (z01 0) (vC (.int 7))))) [some (.int (n:Int)),some (.int k),none,none] μ'=some (false,μ'):=by
      have a1:¬ ((n:Int)<0):=by omega
      have a2:¬ ((7:Int)<n):=by omega
      simp [fLt,fGt,fI0,a1,a2]
    rw [z6z (Γ1:=[some (.int (n:Int)),some (.int k),none,none]) (μ1:=μ') ((zhr (zjg t)).trans (zbw (o:=.nx) rfl))]
    refine zbw (o:=.rt _) ?_
    have s1:z10 (vL z3j (z02 (vL z3j z0b) z0b)) (z00 2) [some (.int (n:Int)),some (.int k),none,none] μ'=some (.nx,[some (.int (n:Int)),some (.int k),some (.lst [.lst []]),none],μ'):=rfl
    have hr:ivR (z01 0) [some (.int (n:Int)),some (.int k),some (.lst [.lst []]),none] μ'=some ((z4w 0 n,none),μ'):=by
      have hb:(-1000000000:Int)≤(n:Int)∧(n:Int)≤1000000000:=by omega
      simp [hb]
    rw [z09,s1,z0d,z09,z2e,hr,z3v,e]
    rfl
  · rintro j d Γ μ1 hd ⟨o,rfl,rfl⟩
    obtain ⟨hjn,rfl⟩:=z95 hd
    rw [Nat.zero_add]
    have e:=ze7 (n:=j) (k:=k) (μ:=μ1) (by omega) (Sx j k.toNat) none none (fun p hp=>z5w _ j p hp)
    rw [← ziq] at e
    have hl:((Sx (j+1) k.toNat).map dS).length≤1000000:=by
      have:=zbm (n:=j+1) (by omega) k.toNat
      simp;omega
    refine ⟨[some (.int (n:Int)),some (.int k),some (.lst ((Sx j k.toNat).map dS)),some (.int (j:Int))],μ1,[some (.int (n:Int)),some (.int k),some (.lst ((Sx (j+1) k.toNat).map dS)),some (.int (j:Int))],μ1,rfl,?_,trivial,some (.int (j:Int)),rfl,rfl⟩
    have hv:ivL (z01 2) [some (.int (n:Int)),some (.int k),some (.lst ((Sx j k.toNat).map dS)),some (.int (j:Int))] μ1=some (((Sx j k.toNat).map dS,none),μ1):=rfl
    have hc:z4r (["sort", "longer"]:List Str) [("most",1)] [some (.int (n:Int)),some (.int k),some (.lst ((Sx j k.toNat).map dS)),some (.int (j:Int))]=[none,none,some (.int k)]:=rfl
    rw [z1l,zac,hv,zds,hc,e,zhk,if_pos hl]
    rfl
section
variable {C CF CT:Addr} {n:Nat} {d:D} {as:List An} {μ:M}
noncomputable abbrev z88 (C CF CT:Addr):FX:=z23 z45 (z9f C CF) (z1q z0f (.int 7) CT)
theorem zbl {n m:Nat} {s:List Int} (h:s∈(Sx n m).map (·.1)):s.length=n:=by
  refine bq fun bG=>?_
  obtain ⟨p,hp,rfl⟩:=List.mem_map.mp h
  exact bG ((z5w m n p hp).len)
theorem zem (hl:Ls μ d (as.map dA)) (hv:Ok2 n as) (hs:as.length≤1000) (hn:n≤7) (hc:zf8 as=true):∃ μ',z88 C CF CT [.int (n:Int),d] μ=some (.ok (.lst ((z2b n as).map dI)),μ')∧Gr μ μ':=by
  refine bq fun bG=>?_
  obtain ⟨μ1,e,g⟩:=zak (C:=C) (CF:=CF) hl hv hs hc
  refine bG (⟨μ1,?_,g⟩)
  refine z94 (Γ1:=[some (.int (n:Int)),some d]) rfl ?_
  unfold z1k
  show z4f _ _ [some (.int (n:Int)),some d] μ=_
  rw [z6z (Γ1:=[some (.int (n:Int)),some d]) (μ1:=μ1) (zi1 (d:=.non) (by rw [z6u (ds:=[.int (n:Int),d]) (μ1:=μ) (z7z rfl)];exact e))]
  refine zlr ?_
  have ea:vLX (z1q z0f (.int 7) CT) (upL (z02 (z01 0) (z02 (z01 0) z0b))) [some (.int (n:Int)),some d] μ1=some (.ok (.lst (((Sx n n).map (·.1)).map dI)),μ1):=by
    rw [z6u (ds:=[.int (n:Int),.int (n:Int)]) (μ1:=μ1) (z7z rfl),zn8 hn]
    simp [dS,Function.comp_def]
  have hlen:((Sx n n).map (·.1)).length≤1000000:=by have:=zbm hn n;simp;omega
  have ec:z2s none (z00 0) (z65 (vL z45 (z02 (z01 0) (z02 (z01 1) z0b)))) (z01 0) (((Sx n n).map (·.1)).map dI) [none,some d] μ1=some ((((Sx n n).map (·.1)).filter fun s=>zcr s as).map dI,μ1):=by
    refine z31 (c:=none) (fun Γ=>∃ o,Γ=[o,some d]) trivial _ _ ⟨none,rfl⟩ ?_
    rintro s hs Γ ⟨o,rfl⟩
    have hf:=zju (s:=s) (hl.gr g) (by rw [zbl hs];exact hv.inN)
    exact ⟨[some (dI s),some d],rfl,by simp [hf],fun _=>rfl,_,rfl⟩
  unfold z4i
  rw [ea]
  show (if (((Sx n n).map (·.1)).map dI).length≤1000000 then _ else _)=_
  rw [if_pos (by simpa using hlen)]
  have hcap:z4r (["sort"]:List Str) [("answers",1)] [some (.int (n:Int)),some d]=[none,some d]:=rfl
  show (z2s none (z00 0) (z65 (vL z45 (z02 (z01 0) (z02 (z01 1) z0b)))) (z01 0) (((Sx n n).map (·.1)).map dI) (z4r ["sort"] [("answers",1)] [some (.int (n:Int)),some d]) μ1).bind _=_
  rw [hcap,ec]
  rfl
theorem zen (hl:Ls μ d (as.map dA)) (hv:Ok2 n as) (hs:as.length≤1000) (hc:zf8 as=false):∃ μ',z88 C CF CT [.int (n:Int),d] μ=some (.ex CF,μ')∧Gr μ μ':=by
  refine bq fun bG=>?_
  obtain ⟨μ1,e,g⟩:=zal (C:=C) (CF:=CF) hl hv hs hc
  refine bG (⟨μ1,?_,g⟩)
  refine zc3 (Γ1:=[some (.int (n:Int)),some d]) rfl ?_
  unfold z1k
  show z4f _ _ [some (.int (n:Int)),some d] μ=_
  exact zn5 (zoh (by rw [z6u (ds:=[.int (n:Int),d]) (μ1:=μ) (z7z rfl)];exact e))
end
noncomputable abbrev Gp:=Int×Nat×List Int
structure Gs (μ:M) (lo:Nat) (b:Nat) (gs:List Gp):Prop where
  dic:μ[b]?=some (some (.dK (gs.map fun g=>(Sum.inl g.1,D.ref g.2.1))))
  at_:∀ g∈gs,μ[g.2.1]?=some (some (.lst (g.2.2.map D.int)))
  key:(gs.map (·.1)).Nodup
  lo1:lo≤b
  lo2:∀ g∈gs,lo≤g.2.1
  nd:(gs.map (·.2.1)).Nodup
  len:∀ g∈gs,g.2.2.length≤1000
noncomputable def z3g (gs:List Gp):List (Int×List Int):=gs.map fun g=>(g.1,g.2.2)
theorem zhv (gs:List Gp) (k:Int):zab (gs.map fun g=>((Sum.inl g.1:Key),D.ref g.2.1)) (Sum.inl k)=(gs.find? fun g=>decide (g.1=k)).map fun g=>D.ref g.2.1:=by
  unfold zab
  induction gs with
  | nil=>rfl
  | cons p r ih =>
    rw [List.map_cons,List.find?_cons,List.find?_cons]
    by_cases z:p.1=k
    · simp [z]
    · have z':¬ ((Sum.inl p.1:Key)=Sum.inl k):=fun e=>z (by injection e)
      simp only [z,z',decide_false]
      exact ih
theorem zeq {gs:List Gp} {k t:Int} {g:Gp} (hk:(gs.map (·.1)).Nodup) (hf:gs.find? (fun g=>decide (g.1=k))=some g) :
    zc6 (z3g gs) k t=z3g (gs.map fun x=>if x.1=k then (x.1,x.2.1,x.2.2++[t]) else x):=by
  have hm:=List.mem_of_find?_eq_some hf
  have he:g.1=k:=by simpa using List.find?_some hf
  unfold zc6
  rw [if_pos (by
    rw [List.any_eq_true]
    exact ⟨(g.1,g.2.2),List.mem_map.mpr ⟨g,hm,rfl⟩,by simpa using he⟩)]
  unfold z3g
  rw [List.map_map,List.map_map]
  apply List.map_congr_left
  intro x _
  simp only [Function.comp]
  split <;> rfl
theorem zk0 {gs:List Gp} {k t:Int} {r:Nat} (hf:gs.find? (fun g=>decide (g.1=k))=none):zc6 (z3g gs) k t=z3g (gs++[(k,r,[t])]):=by
  unfold zc6
  rw [if_neg]
  · simp [z3g]
  · intro hc
    refine bq fun bG=>?_
    obtain ⟨x,hx,e⟩:=List.any_eq_true.mp hc
    obtain ⟨g,hg,rfl⟩:=List.mem_map.mp hx
    rw [List.find?_eq_none] at hf
    exact bG (hf g hg e)
noncomputable abbrev zl8:SV:=(z43 (v2l z8b (z21 (z01 1) (z01 3) (vL z7g z0b)) (z01 2)))
theorem zgg {d:D} {b lo:Nat} {gs:List Gp} {μ:M} {t k:Int} (h:Gs μ lo b gs) (hlo:lo≤μ.length) (hl:gs.length<1000) (hlt:∀ g∈gs,g.2.2.length<1000) :
    ∃ gs' μ',zl8 [some d,some (.ref b),some (.int t),some (.int k)] μ=some (.nx,[some d,some (.ref b),some (.int t),some (.int k)],μ')∧Gs μ' lo b gs'∧z3g gs'=zc6 (z3g gs) k t∧(∀ j,j<lo→μ'[j]?=μ[j]?)∧μ.length≤μ'.length:=by
  have hb:b<μ.length:=(List.getElem?_eq_some_iff.mp h.dic).1
  have hv1:z01 1 [some d,some (.ref b),some (.int t),some (.int k)] μ=some (.ref b,μ):=rfl
  have hd:z8c μ (.ref b)=some (gs.map fun g=>(Sum.inl g.1,D.ref g.2.1)):=by simp only [z8c,h.dic]
  have g1:Gr μ (μ++[some (O.lst [])]):=gr_app
  have hd2:z8c (μ++[some (O.lst [])]) (.ref b)=some (gs.map fun g=>(Sum.inl g.1,D.ref g.2.1)):=by simp only [z8c,g1.get h.dic]
  have hv3:z01 3 [some d,some (.ref b),some (.int t),some (.int k)] μ=some (.int k,μ):=rfl
  have hnw:vL z7g z0b [some d,some (.ref b),some (.int t),some (.int k)] μ=some (.ref μ.length,μ++[some (.lst [])]):=rfl
  have hlen:(gs.map fun g=>((Sum.inl g.1:Key),D.ref g.2.1)).length<1000000:=by simp;omega
  cases hf:gs.find? (fun g=>decide (g.1=k)) with
  | some g =>
    have hm:=List.mem_of_find?_eq_some hf
    have he:g.1=k:=by simpa using List.find?_some hf
    have hs:z21 (z01 1) (z01 3) (vL z7g z0b) [some d,some (.ref b),some (.int t),some (.int k)] μ=some (.ref g.2.1,μ++[some (.lst [])]):=by
      unfold z21
      rw [hv1,bs]
      simp only [hd,bs,hv3,hnw,ziy,hd2,if_pos hlen,zhv,hf]
      rfl
    have ha:=g1.get (h.at_ g hm)
    generalize hμ1:μ++[some (O.lst [])]=μ1 at hs g1 ha
    have hlen1:μ1.length=μ.length+1:=by rw [← hμ1];simp
    have hap:z8b (.ref g.2.1) (.int t) μ1=some (.non,μ1.set g.2.1 (some (.lst (g.2.2.map D.int++[.int t])))):=by
      have:=hlt g hm
      simp only [z8b,z4x ha,if_pos (show (g.2.2.map D.int).length<1000000 by simp;omega),zo8]
    refine ⟨gs.map fun x=>if x.1=k then (x.1,x.2.1,x.2.2++[t]) else x,μ1.set g.2.1 (some (.lst (g.2.2.map D.int++[.int t]))),?_,?_,(zeq h.key hf).symm,fun j hj=>?_,by rw [List.length_set,hlen1];omega⟩
    · unfold zl8
      rw [z3l]
      unfold v2l
      rw [hs,bs]
      show kEx _ ((z2h μ1 (.ref g.2.1)).bind _)=_
      rw [z2m ha,bs]
      show kEx _ (z8b (.ref g.2.1) (.int t) μ1)=_
      rw [hap]
      rfl
    · have hkeys:(gs.map fun x=>if x.1=k then (x.1,x.2.1,x.2.2++[t]) else x).map (fun g=>((Sum.inl g.1:Key),D.ref g.2.1))=gs.map fun g=>(Sum.inl g.1,D.ref g.2.1):=by
        rw [List.map_map]
        apply List.map_congr_left
        intro x _
        simp only [Function.comp]
        split <;> rfl
      have hk1:(gs.map fun x=>if x.1=k then (x.1,x.2.1,x.2.2++[t]) else x).map (·.1)=gs.map (·.1):=by
        rw [List.map_map]
        apply List.map_congr_left
        intro x _
        simp only [Function.comp]
        split <;> rfl
      have hk2:(gs.map fun x=>if x.1=k then (x.1,x.2.1,x.2.2++[t]) else x).map (·.2.1)=gs.map (·.2.1):=by
        rw [List.map_map]
        apply List.map_congr_left
        intro x _
        simp only [Function.comp]
        split <;> rfl
      have hbg:b≠g.2.1:=fun z=>by
        have h1:=h.dic
        rw [z,h.at_ g hm] at h1
        cases h1
      refine ⟨?_,fun x hx=>?_,by rw [hk1];exact h.key,h.lo1,fun x hx=>?_,by rw [hk2];exact h.nd,fun x hx=>?_⟩
      · rw [hkeys,z0z hbg];exact g1.get h.dic
      · obtain ⟨y,hy,rfl⟩:=List.mem_map.mp hx
        by_cases hyk:y.1=k
        · have:y=g:=by
            have hn:=h.key
            obtain ⟨i,hi⟩:=List.getElem?_of_mem hy
            obtain ⟨j,hj⟩:=List.getElem?_of_mem hm
            have e1:(gs.map (·.1))[i]?=some k:=by rw [List.getElem?_map,hi];simp [hyk]
            have e2:(gs.map (·.1))[j]?=some k:=by rw [List.getElem?_map,hj];simp [he]
            obtain ⟨l1,q1⟩:=List.getElem?_eq_some_iff.mp e1
            obtain ⟨l2,q2⟩:=List.getElem?_eq_some_iff.mp e2
            have hp:=List.pairwise_iff_getElem.mp hn
            rcases Nat.lt_trichotomy i j with z | z | z
            · exact absurd (q1.trans q2.symm) (hp i j l1 l2 z)
            · subst z;rw [hi] at hj;cases hj;rfl
            · exact absurd (q2.trans q1.symm) (hp j i l2 l1 z)
          subst this
          rw [if_pos hyk]
          show (μ1.set y.2.1 _)[y.2.1]?=_
          rw [z37 ha]
          simp
        · rw [if_neg hyk]
          have hne:y.2.1≠g.2.1:=fun z=>by
            have hn:=h.nd
            obtain ⟨i,hi⟩:=List.getElem?_of_mem hy
            obtain ⟨j,hj⟩:=List.getElem?_of_mem hm
            have e1:(gs.map (·.2.1))[i]?=some g.2.1:=by rw [List.getElem?_map,hi];simp [z]
            have e2:(gs.map (·.2.1))[j]?=some g.2.1:=by rw [List.getElem?_map,hj];simp
            obtain ⟨l1,q1⟩:=List.getElem?_eq_some_iff.mp e1
            obtain ⟨l2,q2⟩:=List.getElem?_eq_some_iff.mp e2
            have hp:=List.pairwise_iff_getElem.mp hn
            rcases Nat.lt_trichotomy i j with w | w | w
            · exact absurd (q1.trans q2.symm) (hp i j l1 l2 w)
            · subst w;rw [hi] at hj;cases hj;exact hyk he
            · exact absurd (q2.trans q1.symm) (hp j i l2 l1 w)
          rw [z0z hne]
          exact g1.get (h.at_ y hy)
      · obtain ⟨y,hy,rfl⟩:=List.mem_map.mp hx
        split
        · exact h.lo2 y hy
        · exact h.lo2 y hy
      · obtain ⟨y,hy,rfl⟩:=List.mem_map.mp hx
        have:=hlt y hy
        split
        · simp;omega
        · omega
    · rw [z0z (by have:=h.lo2 g hm;omega)]
      exact g1.at_ j (by omega)
  | none =>
    have hs:z21 (z01 1) (z01 3) (vL z7g z0b) [some d,some (.ref b),some (.int t),some (.int k)] μ=some (.ref μ.length,(μ++[some (O.lst [])]).set b (some (O.dK (zc5 (gs.map fun g=>((Sum.inl g.1:Key),D.ref g.2.1)) (Sum.inl k) (.ref μ.length))))):=by
      unfold z21
      rw [hv1,bs]
      simp only [hd,bs,hv3,hnw,ziy,hd2,if_pos hlen,zhv,hf]
      rfl
    have hput:zc5 (gs.map fun g=>((Sum.inl g.1:Key),D.ref g.2.1)) (Sum.inl k) (.ref μ.length)=(gs++[(k,μ.length,[t])]).map fun g=>(Sum.inl g.1,D.ref g.2.1):=by
      rw [zdi _ (by rw [zhv,hf];rfl)]
      simp
    rw [hput] at hs
    have ha:((μ++[some (O.lst [])]).set b (some (.dK ((gs++[(k,μ.length,[t])]).map fun g=>(Sum.inl g.1,D.ref g.2.1)))))[μ.length]?=some (some (.lst [])):=by
      rw [z0z (by omega)];simp
    have hbk:((μ++[some (O.lst [])]).set b (some (.dK ((gs++[(k,μ.length,[t])]).map fun g=>(Sum.inl g.1,D.ref g.2.1)))))[b]?=some (some (.dK ((gs++[(k,μ.length,[t])]).map fun g=>(Sum.inl g.1,D.ref g.2.1)))):=z37 (g1.get h.dic)
    have hold:∀ j,j<μ.length→j≠b→((μ++[some (O.lst [])]).set b (some (.dK ((gs++[(k,μ.length,[t])]).map fun g=>(Sum.inl g.1,D.ref g.2.1)))))[j]?=μ[j]?:=fun j hj hne=>by
      rw [z0z hne];exact g1.at_ j hj
    have hlen1:((μ++[some (O.lst [])]).set b (some (.dK ((gs++[(k,μ.length,[t])]).map fun g=>(Sum.inl g.1,D.ref g.2.1))))).length=μ.length+1:=by simp
    generalize hμ1:(μ++[some (O.lst [])]).set b (some (.dK ((gs++[(k,μ.length,[t])]).map fun g=>(Sum.inl g.1,D.ref g.2.1))))=μ1 at hs ha hbk hold hlen1
    have hap:z8b (.ref μ.length) (.int t) μ1=some (.non,μ1.set μ.length (some (.lst [.int t]))):=by
      simp only [z8b,z4x ha,if_pos (show ([]:List D).length<1000000 by decide),zo8]
      rfl
    refine ⟨gs++[(k,μ.length,[t])],μ1.set μ.length (some (.lst [.int t])),?_,?_,(zk0 hf).symm,fun j hj=>?_,by rw [List.length_set,hlen1];omega⟩
    · unfold zl8
      rw [z3l]
      unfold v2l
      rw [hs,bs]
      show kEx _ ((z2h μ1 (.ref μ.length)).bind _)=_
      rw [z2m ha,bs]
      show kEx _ (z8b (.ref μ.length) (.int t) μ1)=_
      rw [hap]
      rfl
    · have hgl:∀ g∈gs,g.2.1<μ.length:=fun g hg=>(List.getElem?_eq_some_iff.mp (h.at_ g hg)).1
      refine ⟨by rw [z0z (by omega)];exact hbk,fun x hx=>?_,?_,h.lo1,fun x hx=>?_,?_,fun x hx=>?_⟩
      · rcases List.mem_append.mp hx with hx | hx
        · have hl1:=hgl x hx
          have hxb:x.2.1≠b:=fun z=>by
            have h1:=h.dic
            rw [← z,h.at_ x hx] at h1
            cases h1
          rw [z0z (by omega),hold _ hl1 hxb]
          exact h.at_ x hx
        · have:x=(k,μ.length,[t]):=by simpa using hx
          subst this
          exact z37 ha
      · rw [List.map_append,List.nodup_append]
        refine ⟨h.key,by simp,fun a ha1 c hc e=>?_⟩
        have:c=k:=by simpa using hc
        subst this e
        refine bq fun bG=>?_
        obtain ⟨g,hg,rfl⟩:=List.mem_map.mp ha1
        rw [List.find?_eq_none] at hf
        exact bG (hf g hg (by simp))
      · rcases List.mem_append.mp hx with hx | hx
        · exact h.lo2 x hx
        · have:x=(k,μ.length,[t]):=by simpa using hx
          subst this
          exact hlo
      · rw [List.map_append,List.nodup_append]
        refine ⟨h.nd,by simp,fun a ha1 c hc e=>?_⟩
        have:c=μ.length:=by simpa using hc
        subst this e
        obtain ⟨g,hg,e⟩:=List.mem_map.mp ha1
        have:=hgl g hg
        omega
      · rcases List.mem_append.mp hx with hx | hx
        · exact h.len x hx
        · have:x=(k,μ.length,[t]):=by simpa using hx
          subst this
          simp
    · have hb2:=h.lo1
      rw [z0z (by omega)]
      exact hold j (by omega) (by omega)
theorem z63:∀ (l:List Int) (i:Nat) (k:Int) (gs:List (Int×List Int)),z2y i (l++[k]) gs=zc6 (z2y i l gs) k ((i+l.length:Nat):Int)
  | [],i,k,gs=>by simp [z2y]
  | x::l,i,k,gs=>by
    rw [List.cons_append,z2y,z2y,z63 l (i+1) k]
    congr 2
    simp;omega
theorem zdj (gs:List (Int×List Int)) (k t:Int):(zc6 gs k t).length≤gs.length+1:=by
  unfold zc6;split <;> simp
theorem zk1 {gs:List (Int×List Int)} {k t:Int} {m:Nat} (h:∀ g∈gs,g.2.length≤m):∀ g∈zc6 gs k t,g.2.length≤m+1:=by
  intro g hg
  unfold zc6 at hg
  split at hg
  · obtain ⟨x,hx,rfl⟩:=List.mem_map.mp hg
    have:=h x hx
    split
    · simp;omega
    · omega
  · rcases List.mem_append.mp hg with hg | hg
    · have:=h g hg;omega
    · have:g=(k,[t]):=by simpa using hg
      subst this;simp
theorem zgf {s:List Int} {μ:M} (hs:s.length≤500):∃ b gs μ',z11 [dI s] μ=some (.lst (gs.map fun g:Gp=>D.ref g.2.1),μ')∧Gs μ' μ.length b gs∧z3g gs=grp s∧Gr μ μ':=by
  have main:=z53 (c:=none) (g:=(z2p 2 (z0e (z00 2) (z0e (z00 3) z2q)))) (body:=zl8)
    (fun i Γ μ'=>∃ (gs:List Gp) (o2 o3:Option D),Γ=[some (dI s),some (.ref μ.length),o2,o3]∧Gs μ' μ.length μ.length gs∧z3g gs=grp (s.take i)∧gs.length≤i∧(∀ g∈gs,g.2.2.length≤i)∧Gr μ μ')
    ((List.range s.length).map fun i:Nat=>D.tup [.int (i:Int),.int (s.getD i 0)]) 0 [some (dI s),some (.ref μ.length),none,none] (μ++[some (.dK [])])
    ⟨[],none,none,rfl,⟨by simp,fun g h=>by simp at h,by simp,Nat.le_refl _,fun g h=>by simp at h,by simp,fun g h=>by simp at h⟩,rfl,Nat.le_refl _,fun g h=>by simp at h,gr_app⟩ ?_
  · obtain ⟨Γ',μ',e,gs,o2,o3,rfl,G1,hst,_,_,gr⟩:=main
    rw [Nat.zero_add,List.length_map,List.length_range,List.take_length] at hst
    refine ⟨μ.length,gs,μ',?_,G1,hst,gr⟩
    unfold z11 z30
    rw [z1t,if_pos (show [dI s].length=1 from rfl)]
    show z6l (z0v _ _ [some (dI s),none,none,none] μ)=_
    have s1:z10 zfq (z00 1) [some (dI s),none,none,none] μ=some (.nx,[some (dI s),some (.ref μ.length),none,none],μ++[some (.dK [])]):=rfl
    have hi:zu3 (z01 0) [some (dI s),some (.ref μ.length),none,none] (μ++[some (.dK [])])=some (((List.range s.length).map fun i:Nat=>D.tup [.int (i:Int),.int (s.getD i 0)],none),μ++[some (.dK [])]):=by
      have he:zb4 (s.map D.int)=(List.range s.length).map fun i:Nat=>D.tup [.int (i:Int),.int (s.getD i 0)]:=by
        apply List.ext_getElem?
        intro i
        by_cases hi:i<s.length
        · simp [zb4,hi]
        · simp [zb4]
          rw [List.getElem?_eq_none (by simpa using hi),List.getElem?_eq_none (by simpa using hi)]
          rfl
      show some ((zb4 (s.map D.int),none),_)=_
      rw [he]
    rw [z09,s1,z0d,z09,z2e,hi,z3v,e,z0d,z42]
    have hv:v1 ze1 (z01 1) [some (dI s),some (.ref μ.length),o2,o3] μ'=some (.lst (gs.map fun g:Gp=>D.ref g.2.1),μ'):=by
      rw [e_1 (x:=.ref μ.length) (μ1:=μ') rfl]
      unfold ze1
      simp only [z8c,G1.dic,bs,List.map_map]
      rfl
    rw [hv]
    rfl
  · rintro j x Γ μ1 hx ⟨gs,o2,o3,rfl,G1,hst,hl,hlt,gr⟩
    rw [Nat.zero_add] at hst hl hlt
    have hj:j<s.length:=by
      have:=(List.getElem?_eq_some_iff.mp hx).1
      simpa using this
    rw [List.getElem?_map,List.getElem?_range hj] at hx
    simp at hx
    subst hx
    obtain ⟨gs',μ2,e,G2,hst2,hold,hlen⟩:=zgg (d:=dI s) (t:=(j:Int)) (k:=s.getD j 0) G1 gr.len (by omega) (fun g hg=>by have:=hlt g hg;omega)
    have hsj:s[j]?=some (s.getD j 0):=by rw [List.getD_eq_getElem?_getD,List.getElem?_eq_getElem hj];rfl
    have hgrp:grp (s.take (j+1))=zc6 (grp (s.take j)) (s.getD j 0) (j:Int):=by
      rw [List.take_succ,hsj]
      show z2y 0 (s.take j++[s.getD j 0]) []=_
      rw [z63]
      have:(s.take j).length=j:=by rw [List.length_take];omega
      rw [this,Nat.zero_add]
      rfl
    refine ⟨[some (dI s),some (.ref μ.length),some (.int (j:Int)),some (.int (s.getD j 0))],μ1,_,μ2,?_,e,trivial,gs',_,_,rfl,G2,?_,?_,?_,?_⟩
    · simp
    · rw [Nat.zero_add,hst2,hst,hgrp]
    · have:gs'.length=(zc6 (z3g gs) (s.getD j 0) (j:Int)).length:=by rw [← hst2];simp [z3g]
      have h2:=zdj (z3g gs) (s.getD j 0) (j:Int)
      have:(z3g gs).length=gs.length:=by simp [z3g]
      omega
    · intro g hg
      have hm:(g.1,g.2.2)∈zc6 (z3g gs) (s.getD j 0) (j:Int):=by rw [← hst2];exact List.mem_map.mpr ⟨g,hg,rfl⟩
      have:=zk1 (m:=j) (fun x hx=>by
        obtain ⟨y,hy,rfl⟩:=List.mem_map.mp hx
        exact hlt y hy) _ hm
      have:g.2.2.length≤j+1:=this
      omega
    · exact ⟨Nat.le_trans gr.len hlen,fun i hi=>(hold i hi).trans (gr.at_ i hi)⟩
noncomputable abbrev z61:List D→M→Option (D×M):=z3p z11
noncomputable abbrev z46:List D→M→Option (D×M):=z35 z61
noncomputable def dG (g:Gp):D:=.ref g.2.1
theorem zjp {s:List Int} {μ:M} (hs:s.length≤500):∃ b gs μ',z61 [dI s] μ=some (.lst ((gs.filter fun g:Gp=>decide ((g.2.2.length:Int)=grt s)).map dG),μ')∧Gs μ' μ.length b gs∧z3g gs=grp s∧Gr μ μ':=by
  refine bq fun bG=>?_
  obtain ⟨b,gs,μ1,e,G1,hst,gr⟩:=zgf (μ:=μ) hs
  refine bG (⟨b,gs,μ1,?_,G1,hst,gr⟩)
  have hlen:gs.length≤1000000:=by
    have h1:gs.length=(grp s).length:=by rw [← hst];simp [z3g]
    have h2:∀ (l:List Int) (i:Nat) (x:List (Int×List Int)),(z2y i l x).length≤x.length+l.length:=by
      intro l
      induction l with
      | nil=>intro i x;simp [z2y]
      | cons a l ih=>intro i x;have:=ih (i+1) (zc6 x a (i:Int));have:=zdj x a (i:Int);simp only [z2y,List.length_cons];omega
    have:=h2 s 0 []
    unfold grp at h1
    simp at this
    omega
  have hlens:gs.map (fun g=>(g.2.2.length:Int))=(grp s).map fun g=>(g.2.length:Int):=by rw [← hst];simp [z3g,Function.comp_def]
  have s1:z10 (vL z11 (z02 (z01 0) z0b)) (z00 1) [some (dI s),none,none] μ=some (.nx,[some (dI s),some (.lst (gs.map dG)),none],μ1):=by
    simp [e,dG]
  have c1:z1d ["things"] [] (ivL (z01 1)) (z00 0) z1i (v1 z6b (z01 0)) [some (dI s),some (.lst (gs.map dG)),none] μ1=some (.lst (gs.map fun g=>D.int (g.2.2.length:Int)),μ1):=by
    refine z49 (l:=gs) (dn:=dG) (c:=none) (z1y:=[]) rfl hlen trivial rfl fun g hg=>?_
    rw [e_1 (x:=dG g) (μ1:=μ1) rfl]
    show z6b (.ref g.2.1) μ1=_
    rw [z9p (G1.at_ g hg)]
    simp
  have s2:z10 (v2 z9o (z1d ["things"] [] (ivL (z01 1)) (z00 0) z1i (v1 z6b (z01 0))) (vC (.int 0))) (z00 2) [some (dI s),some (.lst (gs.map dG)),none] μ1=some (.nx,[some (dI s),some (.lst (gs.map dG)),some (.int (grt s))],μ1):=by
    rw [z1l,e_2 (y:=.int 0) (μ2:=μ1) c1 rfl]
    have hm:gs.map (fun g=>D.int (g.2.2.length:Int))=((grp s).map fun g=>(g.2.length:Int)).map D.int:=by rw [← hlens];simp
    rw [hm]
    simp only [z9o,z2h,bs,z5i]
    rfl
  have c3:z1d ["things"] [("greatest",2)] (ivL (z01 1)) (z00 0) (vT (v2 fEq (v1 z6b (z01 0)) (z01 1))) (z01 0) [some (dI s),some (.lst (gs.map dG)),some (.int (grt s))] μ1=some (.lst ((gs.filter fun g:Gp=>decide ((g.2.2.length:Int)=grt s)).map dG),μ1):=by
    refine z9w (l:=gs) (dn:=dG) (c:=none) (z1y:=[some (.int (grt s))]) rfl hlen trivial rfl (fun g hg=>?_) (fun g hg _=>rfl)
    have hl:v1 z6b (z01 0) [some (dG g),some (.int (grt s))] μ1=some (.int (g.2.2.length:Int),μ1):=by
      rw [e_1 (x:=dG g) (μ1:=μ1) rfl]
      show z6b (.ref g.2.1) μ1=_
      rw [z9p (G1.at_ g hg)]
      simp
    rw [z7y,e_2 (y:=.int (grt s)) (μ2:=μ1) hl rfl]
    simp [fEq,eqD]
  unfold z61 z3p z56
  rw [z1t,if_pos (show [dI s].length=1 from rfl)]
  show z6l (z0v _ _ [some (dI s),none,none] μ)=_
  rw [z09,s1,z0d,z09,s2,z0d,z42,c3]
  rfl
theorem zau {μ:M} {c:Ck} (hc:z33 c μ):∀ (l:List Int) (a o:Option D),∃ o',z4p c (z00 1) z1i (z01 1) (l.map D.int) [a,o] μ=some (l.map D.int,[a,o'],μ)
  | [],a,o=>⟨o,rfl⟩
  | p::l,a,o=>by
    refine bq fun bG=>?_
    obtain ⟨o',e⟩:=zau hc l a (some (.int p))
    refine bG (⟨o',?_⟩)
    have hg:z00 1 (.int p) [a,o] μ=some ([a,some (.int p)],μ):=rfl
    have hv:z01 1 [a,some (.int p)] μ=some (.int p,μ):=rfl
    simp only [List.map_cons,z4p,hg,bs]
    show (z1i _ _).bind _=_
    simp only [z1i,bs,if_true,hv]
    rw [z26 hc,e]
    rfl
theorem zb9 {μ:M}:∀ (gs:List Gp) (a o:Option D),(∀ g∈gs,μ[g.2.1]?=some (some (.lst (g.2.2.map D.int)))) →
    z36 none (z00 0) z1i (ivL (z01 0)) (z00 1) z1i (z01 1) (gs.map dG) [a,o] μ=some ((gs.flatMap (·.2.2)).map D.int,μ)
  | [],a,o,_=>rfl
  | g::gs,a,o,h=>by
    have h0:=h g (by simp)
    obtain ⟨o',e3⟩:=zau (μ:=μ) (c:=some (g.2.1,g.2.2.map D.int)) h0 g.2.2 (some (dG g)) o
    have e4:=zb9 gs (some (dG g)) o' (fun q hq=>h q (by simp [hq]))
    have hg:z00 0 (dG g) [a,o] μ=some ([some (dG g),o],μ):=rfl
    have hv:ivL (z01 0) [some (dG g),o] μ=some ((g.2.2.map D.int,some (g.2.1,g.2.2.map D.int)),μ):=by
      show (lsC μ (.ref g.2.1)).bind _=_
      rw [z52 h0]
      rfl
    rw [List.map_cons]
    simp only [z36,hg,bs]
    show (z1i _ _).bind _=_
    simp only [z1i,bs,if_true,hv]
    rw [e3]
    simp only [bs,z1x]
    rw [e4]
    simp
noncomputable def z1z (t:Nat):D:=.tup [.str "one",.int (t:Int)]
theorem zh6 (s:List Int):(mst s).length≤s.length:=by
  have:=List.length_filter_le (fun t=>s.all fun x=>decide (s.count x≤s.count (s.getD t 0))) (List.range s.length)
  simpa [mst] using this
theorem zjv {s:List Int} {n:Nat} {μ:M} (hn:n≤7) (hs:s∈(Sx n n).map (·.1)):∃ μ',z46 [dI s] μ=some (.lst ((mst s).map z1z),μ')∧Gr μ μ':=by
  have hlen:=zbl hs
  refine bq fun bG=>?_
  obtain ⟨p,hp,rfl⟩:=List.mem_map.mp hs
  obtain ⟨b,gs,μ1,e,G1,hst,gr⟩:=zjp (s:=p.1) (μ:=μ) (by omega)
  refine bG (⟨μ1,?_,gr⟩)
  have hsort:=zh7 hn hp
  have hflat:(gs.filter fun g:Gp=>decide ((g.2.2.length:Int)=grt p.1)).flatMap (·.2.2)=zas p.1:=by
    unfold zas zri
    rw [← hst]
    unfold z3g
    rw [List.filter_map,List.flatMap_map]
    rfl
  have hcf:=zb9 (μ:=μ1) (gs.filter fun g:Gp=>decide ((g.2.2.length:Int)=grt p.1)) none none (fun g hg=>G1.at_ g (List.mem_filter.mp hg).1)
  rw [hflat] at hcf
  have hml:(zas p.1).length≤7:=by
    have h1:(zel (zas p.1)).length=(zas p.1).length:=List.length_mergeSort _
    rw [hsort,List.length_map] at h1
    have:=zh6 p.1
    omega
  have hc2:z4j ["group", "thing"] [] (ivL (vL z61 (z02 (z01 0) z0b))) (z00 0) z1i (ivL (z01 0)) (z00 1) z1i (z01 1) [some (dI p.1),none] μ=some (.lst ((zas p.1).map D.int),μ1):=by
    have hi:ivL (vL z61 (z02 (z01 0) z0b)) [some (dI p.1),none] μ=some (((gs.filter fun g:Gp=>decide ((g.2.2.length:Int)=grt p.1)).map dG,none),μ1):=by
      have:vL z61 (z02 (z01 0) z0b) [some (dI p.1),none] μ=some (.lst ((gs.filter fun g:Gp=>decide ((g.2.2.length:Int)=grt p.1)).map dG),μ1):=e
      unfold ivL
      rw [this]
      rfl
    have hcap:z4r (["group", "thing"]:List Str) [] [some (dI p.1),none]=[none,none]:=rfl
    rw [zac,hi,zds,hcap,hcf,zhk,if_pos (by simp;omega)]
  have s1:z10 (v1 z9n (z4j ["group", "thing"] [] (ivL (vL z61 (z02 (z01 0) z0b))) (z00 0) z1i (ivL (z01 0)) (z00 1) z1i (z01 1))) (z00 1) [some (dI p.1),none] μ=some (.nx,[some (dI p.1),some (.lst ((mst p.1).map fun t:Nat=>D.int (t:Int)))],μ1):=by
    rw [z1l,e_1 hc2]
    unfold z9n
    simp only [z2h,bs,z5i]
    rw [if_pos (by omega),hsort]
    simp
  have c3:z1d ["thing"] [] (ivL (z01 1)) (z00 0) z1i (vL za3 (z02 (vC (.str "one")) (z02 (z01 0) z0b))) [some (dI p.1),some (.lst ((mst p.1).map fun t:Nat=>D.int (t:Int)))] μ1=some (.lst ((mst p.1).map z1z),μ1) :=
    z49 (l:=mst p.1) (dn:=fun t:Nat=>D.int (t:Int)) (c:=none) (z1y:=[]) rfl (by have:=zh6 p.1;omega) trivial rfl fun t _=>rfl
  unfold z46 z35 z47
  rw [z1t,if_pos (show [dI p.1].length=1 from rfl)]
  show z6l (z0v _ _ [some (dI p.1),none] μ)=_
  rw [z09,s1,z0d,z42,c3]
  rfl
theorem so1:PyData.strOk "one" = true:=by decide +kernel
theorem zgq {μ:M} (t:Nat):py 65 μ (z1z t)=some (.tuple [.str "one",.int (t:Int)]):=rfl
theorem zoa {μ:M} (t:Nat) (l:List Nat):zkv false (z1z t) (.lst (l.map z1z)) μ=some (.bl (decide (t∈l)),μ):=by
  have h1:optAll (py 65 μ) (l.map z1z)=some (l.map fun t:Nat=>PyData.tuple [.str "one",.int (t:Int)]):=z2t fun x _=>zgq x
  have h2:PyData.canLayAll0 (l.map fun t:Nat=>PyData.tuple [.str "one",.int (t:Int)])=true:=by
    induction l with
    | nil=>rfl
    | cons a l ih=>simp [PyData.canLayAll0,PyData.canLay0,so1] at ih ⊢;exact ih (z2t fun x _=>zgq x)
  have h3:(PyData.tuple [.str "one",.int (t:Int)]).canLay0=true:=by simp [PyData.canLay0,PyData.canLayAll0,so1]
  have h4:decide ((PyData.tuple [.str "one",.int (t:Int)]).depth≤60)=true:=by simp [PyData.depth,PyData.depthAll]
  have h5:(l.map fun t:Nat=>PyData.tuple [.str "one",.int (t:Int)]).any (fun e=>PyData.eqv e (.tuple [.str "one",.int (t:Int)]))=decide (t∈l):=by
    rw [Bool.eq_iff_iff,List.any_map,List.any_eq_true]
    simp only [Function.comp,decide_eq_true_eq]
    constructor
    · rintro ⟨x,hx,e⟩
      simp [PyData.eqv,PyData.eqvAll] at e
      have:x=t:=by omega
      subst this;exact hx
    · intro h
      exact ⟨t,h,by simp [PyData.eqv,PyData.eqvAll]⟩
  unfold zkv
  rw [if_neg (by simp)]
  simp only [z2h,bs,h1,zgq,h2,h3,h4,Bool.and_self,if_true,h5]
noncomputable def zl6 (ss:List (List Int)):Option Nat:=(mst (ss.getD 0 [])).find? fun t=>ss.all fun s=>decide (t∈mst s)
noncomputable abbrev zbg:SV:=(sIf (z65 (v1 ze2 (z1d ["others"] [("end",1)] (ivL (z01 0)) (z00 0) z1i (v2 (zkv false) (z01 1) (z01 0)))))
        (z32 (z01 1))
        sNx)
theorem ze4 {ss:List (List Int)} {μ:M} (hl:ss.length≤1000000):∀ (l:List Nat) (o:Option D),
    (∀ t,l.find? (fun t=>ss.all fun s=>decide (t∈mst s))=some t→∃ Γ',z5b none (z00 1) zbg (l.map z1z) [some (.lst (ss.map fun s=>.lst ((mst s).map z1z))),o] μ=some (.rt (z1z t),Γ',μ)) ∧
    (l.find? (fun t=>ss.all fun s=>decide (t∈mst s))=none→∃ o',z5b none (z00 1) zbg (l.map z1z) [some (.lst (ss.map fun s=>.lst ((mst s).map z1z))),o] μ=some (.nx,[some (.lst (ss.map fun s=>.lst ((mst s).map z1z))),o'],μ))
  | [],o=>⟨(fun t h=>by cases h),fun _=>⟨o,rfl⟩⟩
  | t::l,o=>by
    obtain ⟨i1,i2⟩:=ze4 (ss:=ss) (μ:=μ) hl l (some (z1z t))
    have hc:z1d ["others"] [("end",1)] (ivL (z01 0)) (z00 0) z1i (v2 (zkv false) (z01 1) (z01 0)) [some (.lst (ss.map fun s=>.lst ((mst s).map z1z))),some (z1z t)] μ=some (.lst (ss.map fun s=>D.bl (decide (t∈mst s))),μ) :=
      z49 (l:=ss) (dn:=fun s=>D.lst ((mst s).map z1z)) (c:=none) (z1y:=[some (z1z t)]) rfl hl trivial rfl fun s _=>by
        rw [e_2 (x:=z1z t) (μ1:=μ) (y:=.lst ((mst s).map z1z)) (μ2:=μ) rfl rfl]
        exact zoa t (mst s)
    have ht:z65 (v1 ze2 (z1d ["others"] [("end",1)] (ivL (z01 0)) (z00 0) z1i (v2 (zkv false) (z01 1) (z01 0)))) [some (.lst (ss.map fun s=>.lst ((mst s).map z1z))),some (z1z t)] μ=some (ss.all fun s=>decide (t∈mst s),μ):=by
      rw [za2,e_1 hc]
      have:ss.map (fun s=>D.bl (decide (t∈mst s)))=(ss.map fun s=>decide (t∈mst s)).map D.bl:=by simp
      rw [this]
      simp only [ze2,z2h,bs,z5j,List.all_map]
      rfl
    have hg:z00 1 (z1z t) [some (.lst (ss.map fun s=>.lst ((mst s).map z1z))),o] μ=some ([some (.lst (ss.map fun s=>.lst ((mst s).map z1z))),some (z1z t)],μ):=rfl
    rw [List.find?_cons]
    cases hb:ss.all fun s=>decide (t∈mst s) with
    | true =>
      rw [hb] at ht
      have hbd:zbg [some (.lst (ss.map fun s=>.lst ((mst s).map z1z))),some (z1z t)] μ=some (.rt (z1z t),[some (.lst (ss.map fun s=>.lst ((mst s).map z1z))),some (z1z t)],μ):=by
        unfold zbg;rw [z1n,ht];rfl
      refine ⟨fun t' h=>?_,fun h=>by cases h⟩
      cases h
      refine ⟨[some (.lst (ss.map fun s=>.lst ((mst s).map z1z))),some (z1z t)],?_⟩
      rw [List.map_cons]
      simp only [z5b,hg,bs,hbd]
    | false =>
      rw [hb] at ht
      have hbd:zbg [some (.lst (ss.map fun s=>.lst ((mst s).map z1z))),some (z1z t)] μ=some (.nx,[some (.lst (ss.map fun s=>.lst ((mst s).map z1z))),some (z1z t)],μ):=by
        unfold zbg;rw [z1n,ht];rfl
      have step:z5b none (z00 1) zbg ((t::l).map z1z) [some (.lst (ss.map fun s=>.lst ((mst s).map z1z))),o] μ=z5b none (z00 1) zbg (l.map z1z) [some (.lst (ss.map fun s=>.lst ((mst s).map z1z))),some (z1z t)] μ:=by
        rw [List.map_cons]
        simp only [z5b,hg,bs,hbd,z1x]
      rw [step]
      exact ⟨i1,i2⟩
noncomputable def zia:D:=.gt [.str "open"]
noncomputable def zos (o:Option Nat):D:=match o with
  | some t=>z1z t
  | none=>zia
theorem zeo {ss:List (List Int)} {μ:M} (hl:ss.length≤1000000) (h0:ss≠[]):z19 zia [.lst (ss.map fun s=>.lst ((mst s).map z1z))] μ=some (zos (zl6 ss),μ):=by
  have hi:ivL (v2 fIx (z01 0) (vC (.int 0))) [some (.lst (ss.map fun s=>.lst ((mst s).map z1z))),none] μ=some (((mst (ss.getD 0 [])).map z1z,none),μ):=by
    cases ss with
    | nil=>exact absurd rfl h0
    | cons s ss =>
      have h1:v2 fIx (z01 0) (vC (.int 0)) [some (.lst ((s::ss).map fun s=>.lst ((mst s).map z1z))),none] μ=some (.lst ((mst s).map z1z),μ):=by
        rw [e_2 (x:=.lst ((s::ss).map fun s=>.lst ((mst s).map z1z))) (μ1:=μ) (y:=.int 0) (μ2:=μ) rfl rfl]
        simp only [fIx,z2h]
        rw [show (0:Int)=((0:Nat):Int) from rfl,z7v (j:=0) (v:=.lst ((mst s).map z1z)) rfl]
        rfl
      unfold ivL
      rw [h1]
      rfl
  obtain ⟨l1,l2⟩:=ze4 (ss:=ss) (μ:=μ) hl (mst (ss.getD 0 [])) none
  unfold z19 z3t
  rw [z1t,if_pos (show [D.lst (ss.map fun s=>.lst ((mst s).map z1z))].length=1 from rfl)]
  show z6l (z0v _ _ [some (.lst (ss.map fun s=>.lst ((mst s).map z1z))),none] μ)=_
  rw [z09,z2e,hi,z3v]
  cases hc:zl6 ss with
  | some t =>
    obtain ⟨Γ',e⟩:=l1 t hc
    rw [e]
    rfl
  | none =>
    obtain ⟨o',e⟩:=l2 hc
    rw [e]
    rfl
theorem ztc {f:FX} {el:LX} {C:Addr} {Γ:G} {μ μ1:M} (h:el Γ μ=some (.ex C,μ1)):vLX f el Γ μ=some (.ex C,μ1):=by unfold vLX;rw [h];rfl
section
variable {C CF CT:Addr} {n:Nat} {d:D} {as:List An} {μ:M}
noncomputable abbrev z5r (C CF CT:Addr):FX:=z3o (z19 zia) z46 (z88 C CF CT)
theorem zba {n:Nat} (hn:n≤7):∀ (l:List (List Int)) (o:Option D) (μ:M),(∀ s∈l,s∈(Sx n n).map (·.1)) →
    ∃ μ',z2s none (z00 0) z1i (vL z46 (z02 (z01 0) z0b)) (l.map dI) [o] μ=some (l.map fun s=>.lst ((mst s).map z1z),μ')∧Gr μ μ'
  | [],o,μ,_=>⟨μ,rfl,.refl⟩
  | s::l,o,μ,h=>by
    refine bq fun bG=>?_
    obtain ⟨μ1,e1,g1⟩:=zjv (μ:=μ) hn (h s (by simp))
    obtain ⟨μ2,e2,g2⟩:=zba hn l (some (dI s)) μ1 (fun x hx=>h x (by simp [hx]))
    refine bG (⟨μ2,?_,g1.trans g2⟩)
    have hg:z00 0 (dI s) [o] μ=some ([some (dI s)],μ):=rfl
    have hv:vL z46 (z02 (z01 0) z0b) [some (dI s)] μ=some (.lst ((mst s).map z1z),μ1):=e1
    rw [List.map_cons]
    simp only [z2s,hg,bs]
    show (z1i _ _).bind _=_
    simp only [z1i,bs,if_true,hv,z1x]
    rw [e2]
    rfl
theorem z9l {s:List Int} (h:s∈z2b n as):s∈(Sx n n).map (·.1):=(List.mem_filter.mp h).1
theorem zkt (hn:n≤7):(z2b n as).length≤1000:=by
  have h1:=List.length_filter_le (fun s=>zcr s as) ((Sx n n).map (·.1))
  have:=zbm hn n
  unfold z2b
  rw [List.length_map] at h1
  omega
theorem zai (hl:Ls μ d (as.map dA)) (hv:Ok2 n as) (hs:as.length≤1000) (hn:n≤7) (hf:z2b n as≠[]):∃ μ',z5r C CF CT [.int (n:Int),d] μ=some (.ok (zos (zl6 (z2b n as))),μ')∧Gr μ μ':=by
  have hc:zf8 as=true:=by
    cases h:zf8 as with
    | true=>rfl
    | false=>exact absurd ((ze0 hv.inN).mpr h) hf
  refine bq fun bG=>?_
  obtain ⟨μ1,e1,g1⟩:=zem (C:=C) (CF:=CF) (CT:=CT) hl hv hs hn hc
  obtain ⟨μ2,e2,g2⟩:=zba hn (z2b n as) none μ1 (fun s h=>z9l h)
  refine bG (⟨μ2,?_,g1.trans g2⟩)
  have hlen:=zkt (as:=as) hn
  refine z94 (Γ1:=[some (.int (n:Int)),some d]) rfl ?_
  unfold z2r
  show z93 _ [some (.int (n:Int)),some d] μ=_
  have ec:z4i ["sort"] [] (vLX (z88 C CF CT) (upL (z02 (z01 0) (z02 (z01 1) z0b)))) (z00 0) z1i (vL z46 (z02 (z01 0) z0b)) [some (.int (n:Int)),some d] μ=some (.ok (.lst ((z2b n as).map fun s=>.lst ((mst s).map z1z))),μ2):=by
    have ea:vLX (z88 C CF CT) (upL (z02 (z01 0) (z02 (z01 1) z0b))) [some (.int (n:Int)),some d] μ=some (.ok (.lst ((z2b n as).map dI)),μ1):=by
      rw [z6u (ds:=[.int (n:Int),d]) (μ1:=μ) (z7z rfl)];exact e1
    unfold z4i
    rw [ea]
    show (if ((z2b n as).map dI).length≤1000000 then _ else _)=_
    rw [if_pos (by simp;omega)]
    have hcap:z4r (["sort"]:List Str) [] [some (.int (n:Int)),some d]=[none]:=rfl
    show (z2s none (z00 0) z1i (vL z46 (z02 (z01 0) z0b)) ((z2b n as).map dI) (z4r ["sort"] [] [some (.int (n:Int)),some d]) μ1).bind _=_
    rw [hcap,e2]
    rfl
  have el:z8n (z4i ["sort"] [] (vLX (z88 C CF CT) (upL (z02 (z01 0) (z02 (z01 1) z0b)))) (z00 0) z1i (vL z46 (z02 (z01 0) z0b))) (upL z0b) [some (.int (n:Int)),some d] μ=some (.ok [.lst ((z2b n as).map fun s=>.lst ((mst s).map z1z))],μ2):=by
    unfold z8n
    rw [ec]
    rfl
  refine zlr ?_
  rw [z6u el]
  show (upF (z19 zia)) _ _=_
  have hco:=zeo (ss:=z2b n as) (μ:=μ2) (by omega) hf
  unfold upF
  rw [hco]
  rfl
theorem zaj (hl:Ls μ d (as.map dA)) (hv:Ok2 n as) (hs:as.length≤1000) (hf:z2b n as=[]):∃ μ',z5r C CF CT [.int (n:Int),d] μ=some (.ex CF,μ')∧Gr μ μ':=by
  refine bq fun bG=>?_
  obtain ⟨μ1,e1,g1⟩:=zen (C:=C) (CF:=CF) (CT:=CT) hl hv hs ((ze0 hv.inN).mp hf)
  refine bG (⟨μ1,?_,g1⟩)
  refine zc3 (Γ1:=[some (.int (n:Int)),some d]) rfl ?_
  unfold z2r
  show z93 _ [some (.int (n:Int)),some d] μ=_
  refine zq5 ?_
  have ea:vLX (z88 C CF CT) (upL (z02 (z01 0) (z02 (z01 1) z0b))) [some (.int (n:Int)),some d] μ=some (.ex CF,μ1):=by
    rw [z6u (ds:=[.int (n:Int),d]) (μ1:=μ) (z7z rfl)];exact e1
  have ec:z4i ["sort"] [] (vLX (z88 C CF CT) (upL (z02 (z01 0) (z02 (z01 1) z0b)))) (z00 0) z1i (vL z46 (z02 (z01 0) z0b)) [some (.int (n:Int)),some d] μ=some (.ex CF,μ1):=by
    unfold z4i
    rw [ea]
    rfl
  have el:z8n (z4i ["sort"] [] (vLX (z88 C CF CT) (upL (z02 (z01 0) (z02 (z01 1) z0b)))) (z00 0) z1i (vL z46 (z02 (z01 0) z0b))) (upL z0b) [some (.int (n:Int)),some d] μ=some (.ex CF,μ1):=by
    unfold z8n
    rw [ec]
    rfl
  exact ztc el
end
noncomputable abbrev lIn:SV:=(z43 (v2l z8b (z01 3) (v2 z0w (z01 4) (vL z3j (z02 (z01 5) z0b)))))
theorem zio {μ:M} {k:Nat} {ds:List D} {y:D} (h:μ[k]?=some (some (.lst ds))) (hl:ds.length<1000000):∃ μ',z8b (.ref k) y μ=some (.non,μ')∧μ'[k]?=some (some (.lst (ds++[y])))∧On k μ μ' :=
  ⟨_,by simp only [z8b,z4x h,if_pos hl,zo8],z37 h,zgz⟩
theorem zhc {a0 a1 a2:Option D} {r:Nat} {p:List Int×Nat} (hp:p.1.length≤1000):∀ (l:List Nat) (o:Option D) (ds:List D) (μ:M),μ[r]?=some (some (.lst ds))→ds.length+l.length≤100000 →
    ∃ o' μ',z5b none (z00 5) lIn (l.map fun i:Nat=>D.int (i:Int)) [a0,a1,a2,some (.ref r),some (dS p),o] μ=some (.nx,[a0,a1,a2,some (.ref r),some (dS p),o'],μ')∧μ'[r]?=some (some (.lst (ds++l.map fun i:Nat=>dI (p.1++[(i:Int)]))))∧On r μ μ'
  | [],o,ds,μ,h,_=>⟨o,μ,rfl,by simpa using h,.refl⟩
  | i::l,o,ds,μ,h,hl=>by
    simp at hl
    refine bq fun bG=>?_
    obtain ⟨μ1,e1,h1,o1⟩:=zio (y:=dI (p.1++[(i:Int)])) h (by omega)
    obtain ⟨o',μ2,e2,h2,o2⟩:=zhc (a0:=a0) (a1:=a1) (a2:=a2) hp l (some (.int (i:Int))) (ds++[dI (p.1++[(i:Int)])]) μ1 h1 (by simp;omega)
    refine bG (⟨o',μ2,?_,by simpa using h2,o1.trans o2⟩)
    have hg:z00 5 (.int (i:Int)) [a0,a1,a2,some (.ref r),some (dS p),o] μ=some ([a0,a1,a2,some (.ref r),some (dS p),some (.int (i:Int))],μ):=rfl
    have hv:v2 z0w (z01 4) (vL z3j (z02 (z01 5) z0b)) [a0,a1,a2,some (.ref r),some (dS p),some (.int (i:Int))] μ=some (dI (p.1++[(i:Int)]),μ):=by
      rw [e_2 (x:=dS p) (μ1:=μ) (y:=.lst [.int (i:Int)]) (μ2:=μ) rfl rfl]
      show zog (.lst (p.1.map D.int)) (.lst [.int (i:Int)]) μ=_
      unfold zog
      simp only [zeg,bs]
      rw [if_pos (by simp;omega)]
      simp [dI]
    have hb:lIn [a0,a1,a2,some (.ref r),some (dS p),some (.int (i:Int))] μ=some (.nx,[a0,a1,a2,some (.ref r),some (dS p),some (.int (i:Int))],μ1):=by
      unfold lIn
      rw [z3l]
      unfold v2l
      have hv3:z01 3 [a0,a1,a2,some (.ref r),some (dS p),some (.int (i:Int))] μ=some (.ref r,μ):=rfl
      rw [hv3,bs]
      show kEx _ ((z2h μ (.ref r)).bind _)=_
      rw [z2m h,bs,hv,bs]
      show kEx _ (z8b (.ref r) _ μ)=_
      rw [e1]
      rfl
    rw [List.map_cons]
    simp only [z5b,hg,bs,hb,z1x]
    exact e2
noncomputable abbrev zst:SV:=(z82 (ivR (v2 z0w (v1 z54 (z01 4)) (vC (.int 1)))) (z00 5) lIn)
theorem zrl {a0 a1 a2:Option D} {r n j:Nat} {c:Ck} (hj:j<n) (hn:n≤7):∀ (ps:List (List Int×Nat)) (o4 o5:Option D) (ds:List D) (μ:M),μ[r]?=some (some (.lst ds))→(∀ p∈ps,Gd j n p)→ds.length+ps.length*8≤100000→(∀ μ',On r μ μ'→z33 c μ') →
    ∃ o4' o5' μ',z5b c (z00 4) zst (ps.map dS) [a0,a1,a2,some (.ref r),o4,o5] μ=some (.nx,[a0,a1,a2,some (.ref r),o4',o5'],μ')∧μ'[r]?=some (some (.lst (ds++(ps.flatMap (ext n)).map dS)))∧On r μ μ'
  | [],o4,o5,ds,μ,h,_,_,_=>⟨o4,o5,μ,rfl,by simpa using h,.refl⟩
  | p::ps,o4,o5,ds,μ,h,hg,hl,hck=>by
    have g:=hg p (by simp)
    have hu:=g.len2
    have hlen:=g.len
    have hm:min (p.2+1) n=p.2+1:=by omega
    simp at hl
    refine bq fun bG=>?_
    obtain ⟨o5',μ1,e1,h1,o1⟩:=zhc (a0:=a0) (a1:=a1) (a2:=a2) (p:=p) (by omega) (List.range (p.2+1)) o5 ds μ h (by simp;omega)
    obtain ⟨o4'',o5'',μ2,e2,h2,o2⟩:=zrl (a0:=a0) (a1:=a1) (a2:=a2) (c:=c) hj hn ps (some (dS p)) o5' _ μ1 h1 (fun q hq=>hg q (by simp [hq])) (by simp;omega) (fun μ' ho=>hck μ' (o1.trans ho))
    refine bG (⟨o4'',o5'',μ2,?_,?_,o1.trans o2⟩)
    · have hgv:z00 4 (dS p) [a0,a1,a2,some (.ref r),o4,o5] μ=some ([a0,a1,a2,some (.ref r),some (dS p),o5],μ):=rfl
      have hi:ivR (v2 z0w (v1 z54 (z01 4)) (vC (.int 1))) [a0,a1,a2,some (.ref r),some (dS p),o5] μ=some (((List.range (p.2+1)).map fun i:Nat=>D.int (i:Int),none),μ):=by
        have hs:v1 z54 (z01 4) [a0,a1,a2,some (.ref r),some (dS p),o5] μ=some (.int (p.2:Int),μ):=by
          rw [e_1 (x:=dS p) (μ1:=μ) rfl]
          unfold z54
          simp only [dS,dI,z2h,bs,z5i]
          rw [if_pos (by omega),g.dist]
        have hp1:v2 z0w (v1 z54 (z01 4)) (vC (.int 1)) [a0,a1,a2,some (.ref r),some (dS p),o5] μ=some (.int ((p.2+1:Nat):Int),μ):=by
          rw [e_2 (y:=.int 1) (μ2:=μ) hs rfl]
          simp [z0w]
        rw [zm9,hp1,zrs,if_pos (by omega)]
        simp [z4w]
      have hb:zst [a0,a1,a2,some (.ref r),some (dS p),o5] μ=some (.nx,[a0,a1,a2,some (.ref r),some (dS p),o5'],μ1):=by
        unfold zst
        rw [z2e,hi,z3v]
        exact e1
      rw [List.map_cons]
      simp only [z5b,hgv,bs,hb]
      rw [z26 (hck _ o1)]
      exact e2
    · rw [h2,List.flatMap_cons,List.map_append,List.append_assoc]
      congr 4
      unfold ext
      rw [hm]
      simp [dS]
theorem zjs {n:Nat} {μ:M} (hn:n≤7):∃ f μ',z0i [.int (n:Int)] μ=some (f,μ')∧Ls μ' f ((Sx n n).map dS)∧Gr μ μ'∧∀ k,f=.ref k→μ.length≤k:=by
  have main:=z53 (c:=none) (g:=z00 2) (body:=(z0v (z10 (vL z7g z0b) (z00 3))
      (z0v (z82 (ivL (z01 1)) (z00 4) zst)
      (z10 (z01 3) (z00 1)))))
    (fun i Γ μ'=>∃ (f:D) (o2 o3 o4 o5:Option D),Γ=[some (.int (n:Int)),some f,o2,o3,o4,o5]∧Ls μ' f ((Sx i n).map dS)∧Gr μ μ'∧(∀ k,f=.ref k→μ.length≤k))
    (z4w 0 n) 0 [some (.int (n:Int)),some (.lst [.lst []]),none,none,none,none] μ ⟨_,_,_,_,_,rfl,.lst,.refl,fun k h=>by cases h⟩ ?_
  · obtain ⟨Γ',μ',e,f,o2,o3,o4,o5,rfl,hL,g,hk⟩:=main
    rw [z6k,Nat.zero_add] at hL
    refine ⟨f,μ',?_,hL,g,hk⟩
    unfold z0i z2g
    rw [z1t,if_pos (show [D.int (n:Int)].length=1 from rfl)]
    show z6l (z0v _ _ [some (.int (n:Int)),none,none,none,none,none] μ)=_
    have s1:z10 (vL z3j (z02 (vL z3j z0b) z0b)) (z00 1) [some (.int (n:Int)),none,none,none,none,none] μ=some (.nx,[some (.int (n:Int)),some (.lst [.lst []]),none,none,none,none],μ):=rfl
    have hr:ivR (z01 0) [some (.int (n:Int)),some (.lst [.lst []]),none,none,none,none] μ=some ((z4w 0 n,none),μ):=by
      have hb:(-1000000000:Int)≤(n:Int)∧(n:Int)≤1000000000:=by omega
      simp [hb]
    rw [z09,s1,z0d,z09,z2e,hr,z3v,e]
    rfl
  · rintro j x Γ μ1 hx ⟨f,o2,o3,o4,o5,rfl,hL,g,hk⟩
    obtain ⟨hjn,rfl⟩:=z95 hx
    rw [Nat.zero_add] at hL
    have hL2:Ls (μ1++[some (O.lst [])]) f ((Sx j n).map dS):=hL.gr gr_app
    obtain ⟨c,hi,hck,_⟩:=hL2.iv (Γ:=[some (.int (n:Int)),some f,some (.int (j:Int)),some (.ref μ1.length),o4,o5]) (i:=1) rfl
    have hck2:∀ μ',On μ1.length (μ1++[some (O.lst [])]) μ'→z33 c μ':=by
      intro μ' ho
      rcases z2l hL with ⟨k,rfl,hkk⟩ | rfl | rfl
      · have e1:ivL (z01 1) [some (.int (n:Int)),some (.ref k),some (.int (j:Int)),some (.ref μ1.length),o4,o5] (μ1++[some (O.lst [])])=some (((Sx j n).map dS,some (k,(Sx j n).map dS)),μ1++[some (O.lst [])]):=by
          show (lsC _ (.ref k)).bind _=_
          rw [z52 ((gr_app (ex:=[some (O.lst [])])).get hkk)]
          rfl
        rw [e1] at hi
        cases hi
        show μ'[k]?=_
        have hklt:=(List.getElem?_eq_some_iff.mp hkk).1
        rw [ho.at_ k (by omega)]
        exact (gr_app (ex:=[some (O.lst [])])).get hkk
      · cases hi;trivial
      · cases hi;trivial
    have hfew:=zbm (n:=j) (by omega) n
    obtain ⟨o4',o5',μ2,e,h2,o2'⟩:=zrl (a0:=some (.int (n:Int))) (a1:=some f) (a2:=some (.int (j:Int))) (r:=μ1.length) (c:=c) hjn hn (Sx j n) o4 o5 [] (μ1++[some (O.lst [])]) (by simp) (fun p hp=>z5w _ j p hp) (by simp;omega) hck2
    have g2:Gr μ μ2:=⟨by rw [o2'.len];simp;have:=g.len;omega,fun i hi'=>by
      have:=g.len
      rw [o2'.at_ i (by omega),(gr_app (ex:=[some (O.lst [])])).at_ i (by omega)]
      exact g.at_ i hi'⟩
    refine ⟨[some (.int (n:Int)),some f,some (.int (j:Int)),o3,o4,o5],μ1,[some (.int (n:Int)),some (.ref μ1.length),some (.int (j:Int)),some (.ref μ1.length),o4',o5'],μ2,rfl,?_,trivial,.ref μ1.length,_,_,_,_,rfl,?_,g2,fun k h=>by cases h;exact g.len⟩
    · have s1:z10 (vL z7g z0b) (z00 3) [some (.int (n:Int)),some f,some (.int (j:Int)),o3,o4,o5] μ1=some (.nx,[some (.int (n:Int)),some f,some (.int (j:Int)),some (.ref μ1.length),o4,o5],μ1++[some (O.lst [])]):=rfl
      rw [z09,s1,z0d,z09,z2e,hi,z3v,e]
      rfl
    · rw [Nat.zero_add,ziq]
      exact .ref (by simpa using h2)
theorem Ls.on {μ μ':M} {d:D} {ds:List D} {r:Nat} (h:Ls μ d ds) (hr:∀ k,d=.ref k→k≠r) (ho:On r μ μ'):Ls μ' d ds:=by
  rcases z2l h with ⟨k,rfl,hk⟩ | rfl | rfl
  · exact .ref (by rw [ho.at_ k (hr k rfl)];exact hk)
  · exact .lst
  · exact ⟨rfl,none,rfl,trivial,fun _ _=>trivial⟩
noncomputable abbrev zhw:SV:=(sIf (z65 (v1 ze2 (z1d ["i", "j", "alike"] [("sorts",3)] (ivL (z01 1)) (z2p 3 (z0e (z00 0) (z0e (z00 1) (z0e (z00 2) z2q)))) z1i (v2 fEq (v2 fEq (v2 fIx (z01 3) (z01 0)) (v2 fIx (z01 3) (z01 1))) (z01 2)))))
        (z43 (v2l z8b (z01 2) (z01 3)))
        sNx)
theorem z9m {r n:Nat} {d:D} {as:List An} {c:Ck} (hv:InN n as) (hla:as.length≤1000):∀ (ss:List (List Int)) (o:Option D) (done:List (List Int)) (μ:M),μ[r]?=some (some (.lst (done.map dI)))→(∀ μ',On r μ μ'→Ls μ' d (as.map dA))→(∀ μ',On r μ μ'→z33 c μ')→(∀ s∈ss,s.length=n)→done.length+ss.length≤100000 →
    ∃ o' μ',z5b c (z00 3) zhw (ss.map dI) [some (.int (n:Int)),some d,some (.ref r),o] μ=some (.nx,[some (.int (n:Int)),some d,some (.ref r),o'],μ')∧μ'[r]?=some (some (.lst ((done++ss.filter fun s=>zcr s as).map dI)))∧On r μ μ'
  | [],o,done,μ,h,_,_,_,_=>⟨o,μ,rfl,by simpa using h,.refl⟩
  | s::ss,o,done,μ,h,hL,hck,hlen,hl=>by
    simp at hl
    have hsl:=hlen s (by simp)
    obtain ⟨c2,hi,hc2,_⟩:=(hL μ .refl).iv (Γ:=[some (.int (n:Int)),some d,some (.ref r),some (dI s)]) (i:=1) rfl
    have ix:∀ x:Nat,x<s.length→fIx (dI s) (.int (x:Int)) μ=some (.int (s.getD x 0),μ):=fun x hx=>by
      simp only [fIx,dI,z2h]
      rw [z7v (j:=x) (v:=.int (s.getD x 0)) (by rw [List.getElem?_map,List.getD_eq_getElem?_getD];simp [List.getElem?_eq_getElem hx])]
      rfl
    have hcmp:z1d ["i", "j", "alike"] [("sorts",3)] (ivL (z01 1)) (z2p 3 (z0e (z00 0) (z0e (z00 1) (z0e (z00 2) z2q)))) z1i (v2 fEq (v2 fEq (v2 fIx (z01 3) (z01 0)) (v2 fIx (z01 3) (z01 1))) (z01 2)) [some (.int (n:Int)),some d,some (.ref r),some (dI s)] μ=some (.lst ((as.map fun a=>decide (s.getD a.1 0=s.getD a.2.1 0)==a.2.2).map D.bl),μ):=by
      rw [z6h,hi,z9g,if_pos (by simp;omega)]
      have ec:z4r (["i", "j", "alike"]:List Str) [("sorts",3)] [some (.int (n:Int)),some d,some (.ref r),some (dI s)]=[none,none,none,some (dI s)]:=rfl
      rw [ec,z31 (dn:=dA) (keep:=fun _=>true) (val:=fun a=>D.bl (decide (s.getD a.1 0=s.getD a.2.1 0)==a.2.2)) (fun Γ=>∃ o1 o2 o3,Γ=[o1,o2,o3,some (dI s)]) hc2 as _ ⟨_,_,_,rfl⟩ ?_,z4c]
      · simp
      · rintro a ha Γ ⟨o1,o2,o3,rfl⟩
        refine bq fun bG=>?_
        obtain ⟨q1,q2⟩:=hv a ha
        refine bG (⟨[some (.int (a.1:Int)),some (.int (a.2.1:Int)),some (.bl a.2.2),some (dI s)],rfl,rfl,fun _=>?_,_,_,_,rfl⟩)
        rw [e_2 (x:=.bl (decide (s.getD a.1 0=s.getD a.2.1 0))) (μ1:=μ) (y:=.bl a.2.2) (μ2:=μ) (by
          rw [e_2 (x:=.int (s.getD a.1 0)) (μ1:=μ) (y:=.int (s.getD a.2.1 0)) (μ2:=μ) (by rw [e_2 (x:=dI s) (μ1:=μ) (y:=.int (a.1:Int)) (μ2:=μ) rfl rfl];exact ix _ (by omega)) (by rw [e_2 (x:=dI s) (μ1:=μ) (y:=.int (a.2.1:Int)) (μ2:=μ) rfl rfl];exact ix _ (by omega))]
          rfl) rfl]
        simp only [fEq,ze3,bs]
    have ht:z65 (v1 ze2 (z1d ["i", "j", "alike"] [("sorts",3)] (ivL (z01 1)) (z2p 3 (z0e (z00 0) (z0e (z00 1) (z0e (z00 2) z2q)))) z1i (v2 fEq (v2 fEq (v2 fIx (z01 3) (z01 0)) (v2 fIx (z01 3) (z01 1))) (z01 2)))) [some (.int (n:Int)),some d,some (.ref r),some (dI s)] μ=some (zcr s as,μ):=by
      rw [za2,e_1 hcmp]
      simp only [ze2,z2h,bs,z5j,List.all_map]
      rfl
    have hg:z00 3 (dI s) [some (.int (n:Int)),some d,some (.ref r),o] μ=some ([some (.int (n:Int)),some d,some (.ref r),some (dI s)],μ):=rfl
    cases hb:zcr s as with
    | true =>
      rw [hb] at ht
      obtain ⟨μ1,e1,h1,o1⟩:=zio (y:=dI s) h (by simp;omega)
      obtain ⟨o',μ2,e2,h2,o2⟩:=z9m (r:=r) (d:=d) (c:=c) hv hla ss (some (dI s)) (done++[s]) μ1 (by rw [h1];simp) (fun μ' ho=>hL μ' (o1.trans ho)) (fun μ' ho=>hck μ' (o1.trans ho)) (fun x hx=>hlen x (by simp [hx])) (by simp;omega)
      refine ⟨o',μ2,?_,by rw [h2,List.filter_cons,if_pos hb];simp,o1.trans o2⟩
      have hbd:zhw [some (.int (n:Int)),some d,some (.ref r),some (dI s)] μ=some (.nx,[some (.int (n:Int)),some d,some (.ref r),some (dI s)],μ1):=by
        unfold zhw
        rw [z1n,ht]
        show z43 _ _ μ=_
        rw [z3l]
        unfold v2l
        have hv2:z01 2 [some (.int (n:Int)),some d,some (.ref r),some (dI s)] μ=some (.ref r,μ):=rfl
        rw [hv2,bs]
        show kEx _ ((z2h μ (.ref r)).bind _)=_
        rw [z2m h,bs]
        show kEx _ (z8b (.ref r) (dI s) μ)=_
        rw [e1]
        rfl
      rw [List.map_cons]
      simp only [z5b,hg,bs,hbd]
      rw [z26 (hck _ o1)]
      exact e2
    | false =>
      rw [hb] at ht
      refine bq fun bG=>?_
      obtain ⟨o',μ2,e2,h2,o2⟩:=z9m (r:=r) (d:=d) (c:=c) hv hla ss (some (dI s)) done μ h hL hck (fun x hx=>hlen x (by simp [hx])) (by omega)
      refine bG (⟨o',μ2,?_,by rw [h2,List.filter_cons,if_neg (by simp [hb])],o2⟩)
      have hbd:zhw [some (.int (n:Int)),some d,some (.ref r),some (dI s)] μ=some (.nx,[some (.int (n:Int)),some d,some (.ref r),some (dI s)],μ):=by
        unfold zhw
        rw [z1n,ht]
        rfl
      rw [List.map_cons]
      simp only [z5b,hg,bs,hbd]
      rw [z26 (hck _ .refl)]
      exact e2
theorem zjr {n:Nat} {d:D} {as:List An} {μ:M} (hn:n≤7) (hL:Ls μ d (as.map dA)) (hv:InN n as) (hla:as.length≤1000):∃ r μ',z0y z0i [.int (n:Int),d] μ=some (.ref r,μ')∧μ'[r]?=some (some (.lst ((z2b n as).map dI)))∧Gr μ μ':=by
  obtain ⟨f,μ1,e1,hf,g1,hk⟩:=zjs (μ:=μ++[some (O.lst [])]) hn
  have g0:Gr μ (μ++[some (O.lst [])]):=gr_app
  have g01:=g0.trans g1
  have hr:μ1[μ.length]?=some (some (.lst ([].map dI))):=g1.get (by simp)
  have hf':Ls μ1 f (((Sx n n).map (·.1)).map dI):=by
    have:((Sx n n).map (·.1)).map dI=(Sx n n).map dS:=by simp [dS,Function.comp_def]
    rw [this];exact hf
  obtain ⟨_,c,h2,h3,_⟩:=id hf'
  have hckk:∀ μ',On μ.length μ1 μ'→z33 c μ':=by
    intro μ' ho
    rcases z2l hf' with ⟨k,rfl,hkk⟩ | rfl | rfl
    · rw [z52 hkk] at h2
      cases h2
      have:=hk k rfl
      simp at this
      show μ'[k]?=_
      rw [ho.at_ k (by omega)]
      exact hkk
    · cases h2;trivial
    · cases h2;trivial
  have hLL:∀ μ',On μ.length μ1 μ'→Ls μ' d (as.map dA):=fun μ' ho=>(hL.gr g01).on (fun k hd=>by
    rcases z2l hL with ⟨k',e,hk'⟩ | e | e
    · rw [e] at hd;cases hd
      have:=(List.getElem?_eq_some_iff.mp hk').1
      omega
    · rw [e] at hd;cases hd
    · rw [e] at hd;cases hd) ho
  have hfew:=zbm hn n
  obtain ⟨o',μ2,e2,hr2,o2⟩:=z9m (r:=μ.length) (d:=d) (c:=c) hv hla ((Sx n n).map (·.1)) none [] μ1 hr hLL hckk (fun s hs=>zbl hs) (by simp;omega)
  refine ⟨μ.length,μ2,?_,by rw [hr2];rfl,On.gr g01 o2 (Nat.le_refl _)⟩
  unfold z0y z3a
  rw [z1t,if_pos (show [D.int (n:Int),d].length=2 from rfl)]
  show z6l (z0v _ _ [some (.int (n:Int)),some d,none,none] μ)=_
  have s1:z10 (vL z7g z0b) (z00 2) [some (.int (n:Int)),some d,none,none] μ=some (.nx,[some (.int (n:Int)),some d,some (.ref μ.length),none],μ++[some (O.lst [])]):=rfl
  have hi:ivL (vL z0i (z02 (z01 0) z0b)) [some (.int (n:Int)),some d,some (.ref μ.length),none] (μ++[some (O.lst [])])=some ((((Sx n n).map (·.1)).map dI,c),μ1):=by
    have:vL z0i (z02 (z01 0) z0b) [some (.int (n:Int)),some d,some (.ref μ.length),none] (μ++[some (O.lst [])])=some (f,μ1):=e1
    unfold ivL
    rw [this,bs]
    show (lsC μ1 f).bind _=_
    rw [h2]
    rfl
  rw [z09,s1,z0d,z09,z2e,hi,z3v,e2]
  rfl
theorem zo4 {s:List Int} {t:Nat} (ht:t<s.length) {m:Int} (hm:mxL (s.map fun x=>(s.count x:Int))=some m):decide ((s.count (s.getD t 0):Int)=m)=decide (t∈mst s):=by
  have hM:=zdo hm
  have hx:s.getD t 0∈s:=by
    rw [List.getD_eq_getElem?_getD,List.getElem?_eq_getElem ht]
    exact List.getElem_mem _
  rw [Bool.eq_iff_iff]
  simp only [decide_eq_true_eq,mst,List.mem_filter,List.mem_range,List.all_eq_true]
  constructor
  · intro e
    refine ⟨ht,fun x hxs=>?_⟩
    have:=hM.2 (s.count x:Int) (List.mem_map.mpr ⟨x,hxs,rfl⟩)
    omega
  · rintro ⟨_,h⟩
    obtain ⟨x,hxs,e⟩:=List.mem_map.mp hM.1
    have h1:=h x hxs
    have h2:=hM.2 (s.count (s.getD t 0):Int) (List.mem_map.mpr ⟨_,hx,rfl⟩)
    omega
theorem zl4 {s:List Int} {x:Int} {μ:M}:z5h (dI s) (.int x) μ=some (.int (s.count x:Int),μ):=by
  unfold z5h
  simp only [dI,zeg,bs]
  have:optAll (fun d=>zpc d (.int x)) (s.map D.int)=some (s.map fun a=>a==x):=z2t fun a _=>rfl
  rw [this,bs]
  congr 4
  rw [List.countP_map]
  rfl
noncomputable def lef (n:Nat) (ss:List (List Int)):List Nat:=(List.range n).filter fun t=>ss.all fun s=>decide (t∈mst s)
noncomputable def z7o (n:Nat) (ss:List (List Int)):D:=.lst ((lef n ss).map fun t:Nat=>D.int (t:Int))
theorem zkj (n:Nat) (ss:List (List Int)) (s:List Int):lef n (ss++[s])=(lef n ss).filter fun t=>decide (t∈mst s):=by
  unfold lef
  rw [List.filter_filter]
  apply List.filter_congr
  intro t _
  simp [Bool.and_comm]
noncomputable abbrev zot:SV:=(z0v (z10 (z1d ["kind"] [("sorts",4)] (ivL (z01 4)) (z00 0) z1i (v2l z5h (z01 1) (z01 0))) (z00 5))
      (z10 (z1d ["thing"] [("counts",5)] (ivL (z01 3)) (z00 0) (vT (v2 fEq (v2 fIx (z01 1) (z01 0)) (v1 zcs (z01 1)))) (z01 0)) (z00 3)))
theorem zgc {n:Nat} {d:D} {r:Nat} {ss:List (List Int)} {s:List Int} {o5:Option D} {μ:M} (hs:s.length=n) (hn:n≤7) :
    zot [some (.int (n:Int)),some d,some (.ref r),some (z7o n ss),some (dI s),o5] μ=some (.nx,[some (.int (n:Int)),some d,some (.ref r),some (z7o n (ss++[s])),some (dI s),some (.lst ((s.map fun x=>(s.count x:Int)).map D.int))],μ):=by
  have c1:z1d ["kind"] [("sorts",4)] (ivL (z01 4)) (z00 0) z1i (v2l z5h (z01 1) (z01 0)) [some (.int (n:Int)),some d,some (.ref r),some (z7o n ss),some (dI s),o5] μ=some (.lst (s.map fun x=>D.int (s.count x:Int)),μ):=by
    refine z49 (l:=s) (dn:=D.int) (c:=none) (z1y:=[some (dI s)]) rfl (by omega) trivial rfl fun x _=>?_
    show z5h (dI s) (.int x) μ=_
    exact zl4
  have hlen:(lef n ss).length≤n:=by
    have:=List.length_filter_le (fun t=>ss.all fun s=>decide (t∈mst s)) (List.range n)
    simpa [lef] using this
  have c2:z1d ["thing"] [("counts",5)] (ivL (z01 3)) (z00 0) (vT (v2 fEq (v2 fIx (z01 1) (z01 0)) (v1 zcs (z01 1)))) (z01 0) [some (.int (n:Int)),some d,some (.ref r),some (z7o n ss),some (dI s),some (.lst ((s.map fun x=>(s.count x:Int)).map D.int))] μ=some (z7o n (ss++[s]),μ):=by
    have:=z9w (own := "thing") (cap:=[("counts",5)]) (iv:=ivL (z01 3)) (tc:=vT (v2 fEq (v2 fIx (z01 1) (z01 0)) (v1 zcs (z01 1)))) (te:=z01 0) (Γ:=[some (.int (n:Int)),some d,some (.ref r),some (z7o n ss),some (dI s),some (.lst ((s.map fun x=>(s.count x:Int)).map D.int))]) (μ:=μ) (l:=lef n ss) (dn:=fun t:Nat=>D.int (t:Int)) (c:=none) (z1y:=[some (.lst ((s.map fun x=>(s.count x:Int)).map D.int))]) (keep:=fun t=>decide (t∈mst s)) (val:=fun t:Nat=>D.int (t:Int)) rfl (by omega) trivial rfl (fun t ht=>?_) (fun t _ _=>rfl)
    · rw [this]
      unfold z7o
      rw [zkj]
    · have htn:t<n:=by
        have:=(List.mem_filter.mp ht).1
        simpa using this
      have a1:v2 fIx (z01 1) (z01 0) [some (.int (t:Int)),some (.lst ((s.map fun x=>(s.count x:Int)).map D.int))] μ=some (.int (s.count (s.getD t 0):Int),μ):=by
        rw [e_2 (x:=.lst ((s.map fun x=>(s.count x:Int)).map D.int)) (μ1:=μ) (y:=.int (t:Int)) (μ2:=μ) rfl rfl]
        simp only [fIx,z2h]
        rw [z7v (j:=t) (v:=.int (s.count (s.getD t 0):Int)) (by
          rw [List.getElem?_map,List.getElem?_map,List.getElem?_eq_getElem (show t<s.length by omega),List.getD_eq_getElem?_getD,List.getElem?_eq_getElem (show t<s.length by omega)]
          rfl)]
        rfl
      obtain ⟨m,hm⟩:∃ m,mxL (s.map fun x=>(s.count x:Int))=some m:=by
        cases hq:s.map fun x=>(s.count x:Int) with
        | nil=>simp at hq;subst hq;simp at hs;omega
        | cons a l=>exact ⟨_,rfl⟩
      have a2:v1 zcs (z01 1) [some (.int (t:Int)),some (.lst ((s.map fun x=>(s.count x:Int)).map D.int))] μ=some (.int m,μ):=by
        rw [e_1 (x:=.lst ((s.map fun x=>(s.count x:Int)).map D.int)) (μ1:=μ) rfl]
        unfold zcs
        simp only [z2h,bs,z5i,hm]
      rw [z7y,e_2 a1 a2]
      show kT (some (.bl (decide ((s.count (s.getD t 0):Int)=m)),μ))=_
      rw [zo4 (by omega) hm]
      rfl
  have hm1:s.map (fun x=>D.int (s.count x:Int))=(s.map fun x=>(s.count x:Int)).map D.int:=by simp
  rw [hm1] at c1
  unfold zot
  rw [z09,z1l,c1]
  show zfc _ (some (.nx,[some (.int (n:Int)),some d,some (.ref r),some (z7o n ss),some (dI s),some (.lst ((s.map fun x=>(s.count x:Int)).map D.int))],μ))=_
  rw [z0d,z1l,c2]
  rfl
noncomputable def zuf (o:Option Nat):D:=match o with
  | some t=>z1z t
  | none=>.tup [.str "open"]
theorem zga {n:Nat} {d:D} {as:List An} {μ:M} (hn:n≤7) (hL:Ls μ d (as.map dA)) (hv:InN n as) (hla:as.length≤1000) :
    ∃ μ',z3h (z0y z0i) [.int (n:Int),d] μ=some (if z2b n as=[] then .str "fit" else zuf (lef n (z2b n as)).head?,μ')∧Gr μ μ':=by
  refine bq fun bG=>?_
  obtain ⟨r,μ1,e1,hr,g1⟩:=zjr hn hL hv hla
  refine bG (⟨μ1,?_,g1⟩)
  have s1:z10 (vL (z0y z0i) (z02 (z01 0) (z02 (z01 1) z0b))) (z00 2) [some (.int (n:Int)),some d,none,none,none,none] μ=some (.nx,[some (.int (n:Int)),some d,some (.ref r),none,none,none],μ1):=by
    simp [e1]
  have t2:vT (v2 fEq (z01 2) (vL z3j z0b)) [some (.int (n:Int)),some d,some (.ref r),none,none,none] μ1=some (decide (z2b n as=[]),μ1):=by
    rw [z7y,e_2 (x:=.ref r) (μ1:=μ1) (y:=.lst []) (μ2:=μ1) rfl rfl]
    have:=zky (α:=List Int) (μ:=μ1) (k:=r) (l:=z2b n as) (m:=[]) (by decide) hr
    unfold fEq
    have this:eqD (.ref r) (.lst []) μ1=some (decide (z2b n as=[])):=this
    rw [this]
    rfl
  unfold z3h z5t
  rw [z1t,if_pos (show [D.int (n:Int),d].length=2 from rfl)]
  show z6l (z0v _ _ [some (.int (n:Int)),some d,none,none,none,none] μ)=_
  rw [z09,s1,z0d,z09,z1n,t2]
  by_cases h0:z2b n as=[]
  · rw [if_pos h0,decide_eq_true h0]
    rfl
  · rw [if_neg h0,decide_eq_false h0]
    show z6l (zfc _ (some (.nx,_,μ1)))=_
    have s3:z10 (v1 z8s (z01 0)) (z00 3) [some (.int (n:Int)),some d,some (.ref r),none,none,none] μ1=some (.nx,[some (.int (n:Int)),some d,some (.ref r),some (z7o n []),none,none],μ1):=by
      rw [z1l,e_1 (x:=.int (n:Int)) (μ1:=μ1) rfl]
      have:z8s (.int (n:Int)) μ1=some (z7o n [],μ1):=by
        unfold z8s
        simp only
        rw [if_pos (by omega)]
        simp [z7o,lef,z4w,z4c]
      rw [this]
      rfl
    have hi:ivL (z01 2) [some (.int (n:Int)),some d,some (.ref r),some (z7o n []),none,none] μ1=some (((z2b n as).map dI,some (r,(z2b n as).map dI)),μ1):=by
      show (lsC μ1 (.ref r)).bind _=_
      rw [z52 hr]
      rfl
    have main:=z53 (c:=some (r,(z2b n as).map dI)) (g:=z00 4) (body:=zot)
      (fun i Γ μ'=>∃ o4 o5,Γ=[some (.int (n:Int)),some d,some (.ref r),some (z7o n ((z2b n as).take i)),o4,o5]∧μ'=μ1)
      ((z2b n as).map dI) 0 [some (.int (n:Int)),some d,some (.ref r),some (z7o n []),none,none] μ1 ⟨none,none,by simp,rfl⟩ ?_
    · obtain ⟨Γ',μ',e,o4,o5,rfl,rfl⟩:=main
      rw [Nat.zero_add,List.length_map,List.take_length] at e
      have t5:vT (v2 fEq (z01 3) (vL z3j z0b)) [some (.int (n:Int)),some d,some (.ref r),some (z7o n (z2b n as)),o4,o5] μ'=some (decide (lef n (z2b n as)=[]),μ'):=by
        rw [z7y,e_2 (x:=z7o n (z2b n as)) (μ1:=μ') (y:=.lst []) (μ2:=μ') rfl rfl]
        have:=zom (α:=Int) (μ:=μ') (l:=(lef n (z2b n as)).map fun t:Nat=>(t:Int)) (m:=[]) (by decide)
        have e2:z7o n (z2b n as)=.lst (((lef n (z2b n as)).map fun t:Nat=>(t:Int)).map Enc.d):=by
          unfold z7o
          rw [List.map_map]
          rfl
        unfold fEq
        rw [e2]
        have this:eqD (.lst (((lef n (z2b n as)).map fun t:Nat=>(t:Int)).map Enc.d)) (.lst []) μ'=_:=this
        rw [this]
        show kT (some (.bl _,μ'))=_
        simp
      rw [z0d,z09,s3,z0d,z09,z2e,hi,z3v,e,z0d,z09,z1n,t5]
      cases hlf:lef n (z2b n as) with
      | nil=>rfl
      | cons t l =>
        show z6l (zfc _ (some (.nx,_,μ')))=_
        rw [z0d,z42]
        have hx:v2 fIx (z01 3) (vC (.int 0)) [some (.int (n:Int)),some d,some (.ref r),some (z7o n (z2b n as)),o4,o5] μ'=some (.int (t:Int),μ'):=by
          rw [e_2 (x:=z7o n (z2b n as)) (μ1:=μ') (y:=.int 0) (μ2:=μ') rfl rfl]
          unfold z7o
          rw [hlf]
          simp only [fIx,z2h]
          rw [show (0:Int)=((0:Nat):Int) from rfl,z7v (j:=0) (v:=.int (t:Int)) rfl]
          rfl
        have hv:vL za3 (z02 (vC (.str "one")) (z02 (v2 fIx (z01 3) (vC (.int 0))) z0b)) [some (.int (n:Int)),some d,some (.ref r),some (z7o n (z2b n as)),o4,o5] μ'=some (z1z t,μ'):=by
          rw [zei,z28]
          show kL za3 (zm8 (.str "one") (z02 (v2 fIx (z01 3) (vC (.int 0))) z0b _ μ'))=_
          rw [z28,hx]
          rfl
        rw [hv]
        rfl
    · rintro j x Γ μ' hx ⟨o4,o5,rfl,rfl⟩
      rw [Nat.zero_add]
      rw [List.getElem?_map] at hx
      cases hs:(z2b n as)[j]? with
      | none=>rw [hs] at hx;cases hx
      | some s =>
        rw [hs] at hx
        cases hx
        have hsl:s.length=n:=zbl (z9l (List.mem_of_getElem? hs))
        refine ⟨[some (.int (n:Int)),some d,some (.ref r),some (z7o n ((z2b n as).take j)),some (dI s),o5],μ',_,μ',rfl,zgc hsl hn,hr,some (dI s),some (.lst ((s.map fun x=>(s.count x:Int)).map D.int)),?_,rfl⟩
        have:(z2b n as).take (j+1)=(z2b n as).take j++[s]:=by rw [List.take_succ,hs];rfl
        rw [this]
def Dk (μ:M) (k:Nat):Prop:=∃ a b c:Int,μ[k]?=some (some (.lst [.int a,.int b,.int c]))
theorem z1j {μ:M} {k:Nat} {m:Int} (h:Dk μ k) (h0:0<m) (h1:m<2 ^ 200):∃ (r:Nat) (μ':M),z04 [.ref k,.int m] μ=some (.int (r:Nat),μ')∧(r:Int)<m∧Dk μ' k∧On k μ μ':=by
  obtain ⟨a,b,c,hk⟩:=h
  have hk1:=z37 (y:=some (O.lst [.int a,.int b,.int (c+1)])) hk
  have o1:On k μ (μ.set k (some (O.lst [.int a,.int b,.int (c+1)]))):=zgz
  by_cases ha:0<a
  · have q1:za4 a 65536:=by unfold za4;decide
    have q2:zbn a 65536:=by unfold zbn;decide
    have q3:za4 (a % 65536) m:=h0
    have hn:=Int.emod_nonneg (a % 65536) (b:=m) (by omega)
    have hlt:=Int.emod_lt_of_pos (a % 65536) h0
    refine ⟨(a % 65536 % m).toNat,(μ.set k (some (O.lst [.int a,.int b,.int (c+1)]))).set k (some (O.lst [.int (a / 65536),.int b,.int (c+1)])),?_,by omega,⟨_,_,_,z37 hk1⟩,⟨by simp,fun j n=>by rw [z0z n,z0z n]⟩⟩
    have hr:(((a % 65536 % m).toNat:Nat):Int)=a % 65536 % m:=by omega
    rw [hr]
    generalize hμ1:μ.set k (some (O.lst [.int a,.int b,.int (c+1)]))=μ1 at hk1 ⊢
    simp [z04,z3s,z7i hk,z0w,z4x hk,hμ1,z7i hk1,z4x hk1,ha,q1,q2,q3]
  · have s1:=Int.emod_nonneg ((b+7919*(c+1))*48271) (b:=2147483647) (by decide)
    have s2:=Int.emod_lt_of_pos ((b+7919*(c+1))*48271) (b:=2147483647) (by decide)
    generalize hst:(b+7919*(c+1))*48271 % 2147483647=st at s1 s2
    have t1:=Int.emod_nonneg (st*st) (b:=2147483629) (by decide)
    have t2:=Int.emod_lt_of_pos (st*st) (b:=2147483629) (by decide)
    generalize htt:st*st % 2147483629=tt at t1 t2
    generalize hz:(tt+40692*(c+1))*69621 % 2147483563 / 8=z
    have hn:=Int.emod_nonneg z (b:=m) (by omega)
    have hlt:=Int.emod_lt_of_pos z h0
    refine ⟨(z % m).toNat,μ.set k (some (O.lst [.int a,.int b,.int (c+1)])),?_,by omega,⟨_,_,_,hk1⟩,o1⟩
    have hr:(((z % m).toNat:Nat):Int)=z % m:=by omega
    rw [hr]
    generalize hμ1:μ.set k (some (O.lst [.int a,.int b,.int (c+1)]))=μ1 at hk1 ⊢
    have m1:CMul 7919 (c+1):=.inl ⟨by decide,by decide⟩
    have m2:CMul (b+7919*(c+1)) 48271:=.inr ⟨by decide,by decide⟩
    have m3:CMul st st:=.inl ⟨by omega,by omega⟩
    have m4:CMul 40692 (c+1):=.inl ⟨by decide,by decide⟩
    have m5:CMul (tt+40692*(c+1)) 69621:=.inr ⟨by decide,by decide⟩
    have p1:∀ x,za4 x 2147483647:=fun x=>by unfold za4;decide
    have p2:∀ x,za4 x 2147483629:=fun x=>by unfold za4;decide
    have p3:∀ x,za4 x 2147483563:=fun x=>by unfold za4;decide
    have p4:∀ x,zbn x 8:=fun x=>by unfold zbn;decide
    have p5:za4 z m:=h0
    simp [z04,z3s,z7i hk,z0w,z4x hk,hμ1,z7i hk1,ha,z20,zvk,m1,m2,m3,m4,m5,p1,p2,p3,p4,p5,hst,htt,hz]
theorem zjw {μ:M} {c:Int}:∃ k μ',z1f [.int c] μ=some (.ref k,μ')∧Dk μ' k∧Gr μ μ'∧μ.length≤k:=by
  have p1:za4 c 2147483629:=by unfold za4;decide
  have p2:zsp 10 18:=⟨by decide,by decide,by decide⟩
  refine ⟨μ.length,μ++[some (.lst [.int (if 1000000000000000000<c then c - 1000000000000000000 else 0),.int (c % 2147483629),.int 0])],?_,⟨(if 1000000000000000000<c then c - 1000000000000000000 else 0),c % 2147483629,0,by simp⟩,gr_app,Nat.le_refl _⟩
  simp [z1f,z58,z7g,p1,p2]
section
variable {q1 q2 q3 q4 q5 q6 q7 q8 q9:Addr→Option Bool} {C:Addr}
theorem zjt {μ:M} {k:Nat} (hk:μ[k]?=some (some (.exc C))) (h1:q1 C=some false) (h2:q2 C=some true) (h3:q3 C=some false) (h4:q4 C=some false) (h5:q5 C=some false) (h6:q6 C=some false) (h7:q7 C=some false) (h8:q8 C=some false) (h9:q9 C=some true) :
    z24 q1 q2 q3 q4 q5 q6 q7 q8 q9 [.ref k] μ=some (.str "fit",μ):=by
  have x:∀ q b,q C=some b→zb1 q (.ref k) μ=some (.bl b,μ):=fun q b h=>by simp only [zb1,hk,h,Option.bind_some]
  have y:zb0 [q8,q7,q6,q5,q4] (.ref k) μ=some (.bl false,μ):=by simp [zb0,hk,optAll,h4,h5,h6,h7,h8]
  have c:z5h (.lst [.bl false,.bl true,.bl false]) (.bl true) μ=some (.int 1,μ):=rfl
  have i:zi0 (.lst [.bl false,.bl true,.bl false]) (.bl true) μ=some (.int 1,μ):=rfl
  have z:atI [D.str "thing",.str "fit",.str "many"] 1=some (.str "fit"):=rfl
  simp [z24,z57,x _ _ h1,x _ _ h2,x _ _ h3,x _ _ h9,y,z3j,z6w,z2h,c,i,fNe,z9t,z]
end
noncomputable def z1e:Nat→List D→M→Option (D×M)
  | 0=>fun _ _=>none
  | n+1=>z12 (z1e n)
theorem zdv {μ:M} {x:D} (h:tyD μ x=some "list"):z7j ["list", "tuple"] x μ=some (.bl true,μ)∧z9q "list" x μ=some (.bl true,μ):=by
  constructor
  · simp only [z7j,h,Option.bind_some];rfl
  · simp only [z9q,h,Option.bind_some];rfl
theorem zho {μ:M} {x:D} (h:tyD μ x=some "tuple"):z7j ["list", "tuple"] x μ=some (.bl true,μ)∧z9q "list" x μ=some (.bl false,μ):=by
  constructor
  · simp only [z7j,h,Option.bind_some];rfl
  · simp only [z9q,h,Option.bind_some];rfl
theorem zdc {μ:M} {x y:D} {n:Nat} {f:List D→M→Option (D×M)} (ht:(tyD μ x=some "list" ∧ tyD μ y=some "list")∨(tyD μ x=some "tuple" ∧ tyD μ y=some "tuple")) (lx:z6b x μ=some (.int (n:Nat),μ)) (ly:z6b y μ=some (.int (n:Nat),μ)) (hn:n≤1000)
    (hi:∀ i,i<n→∃ a b,fIx x (.int (i:Nat)) μ=some (a,μ)∧fIx y (.int (i:Nat)) μ=some (b,μ)∧f [a,b] μ=some (.bl true,μ)):z12 f [x,y] μ=some (.bl true,μ):=by
  have hc:z2s none (z00 0) z1i (vL f (z02 (v2 fIx (z01 1) (z01 0)) (z02 (v2 fIx (z01 2) (z01 0)) z0b))) (z4w 0 n) [none,some x,some y] μ=some ((List.range n).map fun _=>D.bl true,μ):=by
    have:=z8u (g:=z00 0) (tc:=z1i) (te:=vL f (z02 (v2 fIx (z01 1) (z01 0)) (z02 (v2 fIx (z01 2) (z01 0)) z0b))) (dn:=fun k:Nat=>D.int (0+k)) (keep:=fun _=>true) (val:=fun _:Nat=>D.bl true) (fun Γ=>∃ z,Γ=[z,some x,some y]) (μ:=μ) (List.range n) [none,some x,some y] ⟨_,rfl⟩ fun a ha Γ ⟨z,hz⟩=>by
      obtain ⟨p,q,h1,h2,h3⟩:=hi a (List.mem_range.mp ha)
      refine ⟨[some (.int (0+a)),some x,some y],by subst hz;rfl,rfl,fun _=>?_,⟨_,rfl⟩⟩
      simp [h1,h2,h3]
    have hf:List.filter (fun _=>true) (List.range n)=List.range n:=List.filter_eq_self.mpr (by simp)
    rw [hf] at this
    exact this
  have ha:ze2 (.lst ((List.range n).map fun _=>D.bl true)) μ=some (.bl true,μ):=by
    have e:((List.range n).map fun _=>D.bl true)=((List.range n).map fun _=>true).map D.bl:=by simp
    simp only [ze2,z2h,Option.bind_some,e,z5j]
    simp
  have hr:(-1000000000:Int)≤(n:Int)∧(n:Int)≤1000000000:=by omega
  have hrl:(z4w 0 n).length=n:=z6k
  have h10:n≤1000000:=by omega
  rcases ht with ⟨t1,t2⟩ | ⟨t1,t2⟩
  · obtain ⟨a1,a2⟩:=zdv t1
    obtain ⟨b1,b2⟩:=zdv t2
    simp [z12,z1h,a1,a2,b1,b2,z6w,fNe,ze3,z9t,lx,ly,hr,hrl,h10,z4r,hc,ha]
  · obtain ⟨a1,a2⟩:=zho t1
    obtain ⟨b1,b2⟩:=zho t2
    simp [z12,z1h,a1,a2,b1,b2,z6w,fNe,ze3,z9t,lx,ly,hr,hrl,h10,z4r,hc,ha]
theorem zjm {μ:M} {a n:Nat}:z1e (n+1) [.int (a:Nat),.int (a:Nat)] μ=some (.bl true,μ):=by
  have t1:z7j ["list", "tuple"] (.int (a:Nat)) μ=some (.bl false,μ):=rfl
  have t2:z9q "str" (.int (a:Nat)) μ=some (.bl false,μ):=rfl
  have t3:z9q "bool" (.int (a:Nat)) μ=some (.bl false,μ):=rfl
  have t4:z9q "int" (.int (a:Nat)) μ=some (.bl true,μ):=rfl
  simp [z1e,z12,z1h,t1,t2,t3,t4,z6w,fEq,z9t,zf2]
theorem zjn {μ:M} {n:Nat}:z1e (n+1) [.str "fit",.str "fit"] μ=some (.bl true,μ):=by
  have t1:z7j ["list", "tuple"] (.str "fit") μ=some (.bl false,μ):=rfl
  have t2:z9q "str" (.str "fit") μ=some (.bl true,μ):=rfl
  have so:PyData.strOk (Str.ofString "fit")=true:=by decide +kernel
  simp [z1e,z12,z1h,t1,t2,z6w,fEq,so]
theorem zep {μ:M} {ns:List Int}:∃ v:Int,z0u [.scr (ns.map D.int),.int 0] μ=some (.int v,μ):=by
  cases ns with
  | nil=>exact ⟨0,by simp [z0u,z29,z6b,z2h]⟩
  | cons a r =>
    have z:atI (D.int a::r.map D.int) 0=some (.int a):=by unfold atI;simp
    have hp:(0:Int)<(r.length:Int)+1:=by omega
    exact ⟨a,by simp [z0u,z29,z6b,z2h,hp,z]⟩
theorem zoy {n:Nat} {ss:List (List Int)} (h0:ss≠[]) (hl:∀ s∈ss,s.length=n):zl6 ss=(lef n ss).head?:=by
  unfold zl6 lef
  rw [← List.head?_filter]
  cases ss with
  | nil=>exact absurd rfl h0
  | cons s r =>
    have e:(s::r).getD 0 []=s:=rfl
    rw [e]
    unfold mst
    rw [hl s (by simp),List.filter_filter]
    congr 1
    apply List.filter_congr
    intro t ht
    have htn:t<n:=by simpa using ht
    rw [Bool.eq_iff_iff]
    simp only [Bool.and_eq_true]
    constructor
    · exact fun h=>h.1
    · intro h
      refine ⟨h,?_⟩
      have:=List.all_eq_true.mp h s (by simp)
      simp only [decide_eq_true_eq,List.mem_filter,List.mem_range] at this
      exact this.2
theorem zg5 {μ:M} {o:Option Nat} {n:Nat}:z1e (n+2) [zos o,zuf o] μ=some (.bl true,μ):=by
  cases o with
  | some t =>
    refine zdc (n:=2) (.inr ⟨rfl,rfl⟩) rfl rfl (by decide) fun i hi=>?_
    have:i=0∨i=1:=by omega
    rcases this with rfl | rfl
    · refine ⟨.str "one",.str "one",rfl,rfl,?_⟩
      have t1:z7j ["list", "tuple"] (.str "one") μ=some (.bl false,μ):=rfl
      have t2:z9q "str" (.str "one") μ=some (.bl true,μ):=rfl
      have so:PyData.strOk (Str.ofString "one")=true:=by decide +kernel
      simp [z1e,z12,z1h,t1,t2,z6w,fEq,so]
    · exact ⟨.int (t:Nat),.int (t:Nat),rfl,rfl,zjm⟩
  | none =>
    refine zdc (n:=1) (.inr ⟨rfl,rfl⟩) rfl rfl (by decide) fun i hi=>?_
    have:i=0:=by omega
    subst this
    refine ⟨.str "open",.str "open",rfl,rfl,?_⟩
    have t1:z7j ["list", "tuple"] (.str "open") μ=some (.bl false,μ):=rfl
    have t2:z9q "str" (.str "open") μ=some (.bl true,μ):=rfl
    have so:PyData.strOk (Str.ofString "open")=true:=by decide +kernel
    simp [z1e,z12,z1h,t1,t2,z6w,fEq,so]
section
variable {C CF CT:Addr} {n:Nat} {d:D} {as:List An} {μ:M} {cs:List Addr} {f:List D→M→Option (D×M)}
noncomputable abbrev z8g (f:List D→M→Option (D×M)) (C CF CT:Addr) (cs:List Addr):List D→M→Option (D×M):=z2w f (z5r C CF CT) cs
noncomputable def z8d (n:Nat) (as:List An):D:=if z2b n as=[] then .str "fit" else zos (zl6 (z2b n as))
theorem zdf (hl:Ls μ d (as.map dA)) (hv:Ok2 n as) (hs:as.length≤1000) (hn:n≤7) (hC:CF∈cs) (hf:∀ (μ:M) (k:Nat),μ[k]?=some (some (.exc CF))→f [.ref k] μ=some (.str "fit",μ)) :
    ∃ μ',z8g f C CF CT cs [.int (n:Int),d] μ=some (z8d n as,μ')∧Gr μ μ':=by
  by_cases h0:z2b n as=[]
  · obtain ⟨μ1,e1,g1⟩:=zaj (C:=C) (CF:=CF) (CT:=CT) hl hv hs h0
    have hk:(μ1++[some (O.exc CF)])[μ1.length]?=some (some (.exc CF)):=by simp
    have e2:=hf _ _ hk
    refine ⟨μ1++[some (O.exc CF)],?_,g1.trans gr_app⟩
    have tr:zlq cs 4 (zah (vLX (z5r C CF CT) (upL (z02 (z01 0) (z02 (z01 1) z0b)))) (z00 2)) (z10 (z01 4) (z00 3)) [some (.int (n:Int)),some d,some .non,some .non,none] μ=some (.nx,[some (.int (n:Int)),some d,some .non,some (.ref μ1.length),none],μ1++[some (O.exc CF)]):=by
      refine (zpr (C:=CF) (Γ1:=[some (.int (n:Int)),some d,some .non,some .non,none]) (μ1:=μ1) (o:=.nx) (Γ2:=[some (.int (n:Int)),some d,some .non,some (.ref μ1.length),some (.ref μ1.length)]) (μ2:=μ1++[some (O.exc CF)]) ?_ hC ?_).trans rfl
      · exact zsj ((z6u (z7z (ds:=[.int (n:Int),d]) rfl)).trans e1)
      · rfl
    unfold z8d
    rw [if_pos h0]
    unfold z8g z2w z3r
    rw [z1t,if_pos (show [D.int (n:Int),d].length=2 from rfl)]
    show z6l (z0v _ _ [some (.int (n:Int)),some d,none,none,none] μ)=_
    have s1:z10 (vC .non) (z00 2) [some (.int (n:Int)),some d,none,none,none] μ=some (.nx,[some (.int (n:Int)),some d,some .non,none,none],μ):=rfl
    have s2:z10 (vC .non) (z00 3) [some (.int (n:Int)),some d,some .non,none,none] μ=some (.nx,[some (.int (n:Int)),some d,some .non,some .non,none],μ):=rfl
    rw [z09,s1,z0d,z09,s2,z0d,z09,tr,z0d,z09]
    have t:vT (v2 zpb (z01 3) (vC .non)) [some (.int (n:Int)),some d,some .non,some (.ref μ1.length),none] (μ1++[some (O.exc CF)])=some (false,μ1++[some (O.exc CF)]):=rfl
    rw [z1n,t]
    show z6l (zfc _ (some (.nx,_,_)))=_
    rw [z0d,z42]
    have hv2:vL f (z02 (z01 3) z0b) [some (.int (n:Int)),some d,some .non,some (.ref μ1.length),none] (μ1++[some (O.exc CF)])=some (.str "fit",μ1++[some (O.exc CF)]):=e2
    rw [hv2]
    rfl
  · obtain ⟨μ1,e1,g1⟩:=zai (C:=C) (CF:=CF) (CT:=CT) hl hv hs hn h0
    refine ⟨μ1,?_,g1⟩
    have tr:zlq cs 4 (zah (vLX (z5r C CF CT) (upL (z02 (z01 0) (z02 (z01 1) z0b)))) (z00 2)) (z10 (z01 4) (z00 3)) [some (.int (n:Int)),some d,some .non,some .non,none] μ=some (.nx,[some (.int (n:Int)),some d,some (zos (zl6 (z2b n as))),some .non,none],μ1):=by
      refine (zpq (Γ1:=[some (.int (n:Int)),some d,some (zos (zl6 (z2b n as))),some .non,none]) (μ1:=μ1) ?_)
      exact (zsi ((z6u (z7z (ds:=[.int (n:Int),d]) rfl)).trans e1)).trans rfl
    unfold z8d
    rw [if_neg h0]
    unfold z8g z2w z3r
    rw [z1t,if_pos (show [D.int (n:Int),d].length=2 from rfl)]
    show z6l (z0v _ _ [some (.int (n:Int)),some d,none,none,none] μ)=_
    have s1:z10 (vC .non) (z00 2) [some (.int (n:Int)),some d,none,none,none] μ=some (.nx,[some (.int (n:Int)),some d,some .non,none,none],μ):=rfl
    have s2:z10 (vC .non) (z00 3) [some (.int (n:Int)),some d,some .non,none,none] μ=some (.nx,[some (.int (n:Int)),some d,some .non,some .non,none],μ):=rfl
    rw [z09,s1,z0d,z09,s2,z0d,z09,tr,z0d,z09]
    have t:vT (v2 zpb (z01 3) (vC .non)) [some (.int (n:Int)),some d,some (zos (zl6 (z2b n as))),some .non,none] μ1=some (true,μ1):=rfl
    rw [z1n,t]
    rfl
noncomputable def z18 (n:Nat) (as:List An):D:=if z2b n as=[] then .str "fit" else zuf (lef n (z2b n as)).head?
theorem zag {k:Nat}:z1e (k+2) [z8d n as,z18 n as] μ=some (.bl true,μ):=by
  unfold z8d z18
  by_cases h0:z2b n as=[]
  · rw [if_pos h0,if_pos h0];exact zjn
  · rw [if_neg h0,if_neg h0,zoy h0 (fun s hs=>zbl (z9l hs))];exact zg5
end
noncomputable def tri (a:An):Tri Int Int Bool:=⟨(a.1:Int),(a.2.1:Int),a.2.2⟩
theorem zsf (as:List An):as.map dA=(as.map tri).map Enc.d:=by
  rw [List.map_map];rfl
theorem zn1 {as bs:List An} (h:as.map tri=bs.map tri):as=bs:=by
  refine (List.map_inj_right (f:=tri) ?_).mp h
  rintro ⟨a,b,c⟩ ⟨a',b',c'⟩ e
  simp [tri] at e
  obtain ⟨e1,e2,e3⟩:=e
  have e1:a=a':=by omega
  have e2:b=b':=by omega
  subst e1 e2 e3
  rfl
theorem Ls.rds {μ:M} {d:D} {as:List An} (h:Ls μ d (as.map dA)):Rds μ d (List (Tri Int Int Bool)) (as.map tri):=by
  rw [zsf] at h
  rcases z2l h with ⟨k,rfl,hk⟩ | rfl | rfl
  · exact zgi (by decide) hk
  · exact zjz (α:=List (Tri Int Int Bool)) (by decide) (as.map tri)
  · unfold Rds
    rw [zqk,z9u (by decide)]
    rfl
theorem zoj {μ:M} {x y:D} {as bs:List An} (h1:Ls μ x (as.map dA)) (h2:Ls μ y (bs.map dA)):eqD x y μ=some (decide (as=bs)):=by
  have hi:∀ {z:D} {ds:List D},Ls μ z ds→isInt z=false∧zey z=false:=fun h=>by
    rcases z2l h with ⟨k,rfl,_⟩ | rfl | rfl <;> exact ⟨rfl,rfl⟩
  rw [zcx (α:=List (Tri Int Int Bool)) (by decide) h1.rds h2.rds (by simp [(hi h1).1]) (by simp [(hi h1).2])]
  congr 1
  rw [Bool.eq_iff_iff]
  simp only [decide_eq_true_eq]
  exact ⟨zn1,fun e=>by rw [e]⟩
theorem zb8 {k:Nat}:∀ (l:List Nat) (o:Option D) (μ:M),Dk μ k →
    ∃ (ns:List Int) (μ':M),z2s none (z00 0) z1i (vL z04 (z02 (z01 1) (z02 (v2 z0w (vC (.int 1)) (vL z04 (z02 (z01 1) (z02 (vC (.int 4)) z0b)))) z0b))) (l.map fun i:Nat=>D.int (i:Int)) [o,some (.ref k)] μ=some (ns.map D.int,μ')∧ns.length=l.length∧Dk μ' k∧On k μ μ'
  | [],o,μ,h=>⟨[],μ,rfl,rfl,h,.refl⟩
  | i::l,o,μ,h=>by
    refine bq fun bG=>?_
    obtain ⟨r1,μ1,e1,b1,d1,o1⟩:=z1j (m:=4) h (by decide) (by decide)
    obtain ⟨r2,μ2,e2,b2,d2,o2⟩:=z1j (m:=1+(r1:Int)) d1 (by omega) (by omega)
    obtain ⟨ns,μ3,e3,hl,d3,o3⟩:=zb8 l (some (.int (i:Int))) μ2 d2
    refine bG (⟨(r2:Int)::ns,μ3,?_,by simp [hl],d3,(o1.trans o2).trans o3⟩)
    have hg:z00 0 (.int (i:Int)) [o,some (.ref k)] μ=some ([some (.int (i:Int)),some (.ref k)],μ):=rfl
    have hv:vL z04 (z02 (z01 1) (z02 (v2 z0w (vC (.int 1)) (vL z04 (z02 (z01 1) (z02 (vC (.int 4)) z0b)))) z0b)) [some (.int (i:Int)),some (.ref k)] μ=some (.int (r2:Int),μ2):=by
      simp [e1,z0w,e2]
    rw [List.map_cons]
    simp only [z2s,hg,bs]
    show (z1i _ _).bind _=_
    simp only [z1i,bs,if_true,hv,z1x]
    rw [e3]
    rfl
noncomputable abbrev zjf:SV:=(z0v (z10 (vL z04 (z02 (z01 0) (z02 (z01 1) z0b))) (z00 5))
      (z0v (z10 (v2 zhz (v2 z0w (v2 z0w (z01 5) (vC (.int 1))) (vL z04 (z02 (z01 0) (z02 (v2 zpa (z01 1) (vC (.int 1))) z0b)))) (z01 1)) (z00 6))
      (z0v (z10 (v2 fEq (v2 fIx (z01 2) (z01 5)) (v2 fIx (z01 2) (z01 6))) (z00 7))
      (z0v (sIf (vT (v2 fEq (vL z04 (z02 (z01 0) (z02 (vC (.int 40)) z0b))) (vC (.int 0))))
        (z10 (v1 zf2 (z01 7)) (z00 7))
        sNx)
      (z43 (v2l z8b (z01 3) (vL za3 (z02 (z01 5) (z02 (z01 6) (z02 (z01 7) z0b))))))))))
noncomputable abbrev gA (k n:Nat) (ns:List Int) (r:Nat) (a b c d:Option D):G:=[some (.ref k),some (.int (n:Int)),some (dI ns),some (.ref r),a,b,c,d]
theorem zg6 {n k r:Nat} {ns:List Int} {as:List An} {x4:D} {o5 o6 o7:Option D} {μ:M} (hn:2≤n) (hn7:n≤7) (hns:ns.length=n) (hd:Dk μ k) (hr:μ[r]?=some (some (.lst (as.map dA)))) (hkr:k≠r) (hal:as.length≤100) :
    ∃ a o5' o6' o7' μ',zjf (gA k n ns r (some x4) o5 o6 o7) μ=some (.nx,(gA k n ns r (some x4) o5' o6' o7'),μ')∧Dk μ' k∧μ'[r]?=some (some (.lst ((as++[a]).map dA)))∧(a.1<n∧a.2.1<n∧a.1≠a.2.1):=by
  obtain ⟨i,μ1,e1,b1,d1,o1⟩:=z1j (m:=(n:Int)) hd (by omega) (by omega)
  obtain ⟨t,μ2,e2,b2,d2,o2⟩:=z1j (m:=(n:Int) - 1) d1 (by omega) (by omega)
  have hp:za4 ((i:Int)+1+(t:Int)) (n:Int):=by unfold za4;omega
  have hj0:=Int.emod_nonneg ((i:Int)+1+(t:Int)) (b:=(n:Int)) (by omega)
  have hj1:=Int.emod_lt_of_pos ((i:Int)+1+(t:Int)) (b:=(n:Int)) (by omega)
  have hjne:((i:Int)+1+(t:Int)) % (n:Int)≠(i:Int):=by
    intro e
    by_cases hlt:(i:Int)+1+(t:Int)<(n:Int)
    · rw [Int.emod_eq_of_lt (by omega) hlt] at e;omega
    · have:((i:Int)+1+(t:Int)) % (n:Int)=(i:Int)+1+(t:Int) - (n:Int):=by
        rw [← Int.sub_emod_right,Int.emod_eq_of_lt (by omega) (by omega)]
      omega
  obtain ⟨j,hj⟩:∃ j:Nat,((i:Int)+1+(t:Int)) % (n:Int)=(j:Int):=⟨(((i:Int)+1+(t:Int)) % (n:Int)).toNat,by omega⟩
  have ix:∀ (μ:M) (x:Nat),x<ns.length→fIx (dI ns) (.int (x:Int)) μ=some (.int (ns.getD x 0),μ):=fun μ x hx=>by
    simp only [fIx,dI,z2h]
    rw [z7v (j:=x) (v:=.int (ns.getD x 0)) (by rw [List.getElem?_map,List.getD_eq_getElem?_getD];simp [List.getElem?_eq_getElem hx])]
    rfl
  obtain ⟨u,μ3,e3,b3,d3,o3⟩:=z1j (m:=40) d2 (by decide) (by decide)
  have s1:z10 (vL z04 (z02 (z01 0) (z02 (z01 1) z0b))) (z00 5) (gA k n ns r (some x4) o5 o6 o7) μ=some (.nx,(gA k n ns r (some x4) (some (.int (i:Int))) o6 o7),μ1):=by
    simp [e1]
  have s2:z10 (v2 zhz (v2 z0w (v2 z0w (z01 5) (vC (.int 1))) (vL z04 (z02 (z01 0) (z02 (v2 zpa (z01 1) (vC (.int 1))) z0b)))) (z01 1)) (z00 6) (gA k n ns r (some x4) (some (.int (i:Int))) o6 o7) μ1=some (.nx,(gA k n ns r (some x4) (some (.int (i:Int))) (some (.int (j:Int))) o7),μ2):=by
    simp [z0w,zpa,fI0,e2,hp,hj]
  have s3:z10 (v2 fEq (v2 fIx (z01 2) (z01 5)) (v2 fIx (z01 2) (z01 6))) (z00 7) (gA k n ns r (some x4) (some (.int (i:Int))) (some (.int (j:Int))) o7) μ2=some (.nx,(gA k n ns r (some x4) (some (.int (i:Int))) (some (.int (j:Int))) (some (.bl (decide (ns.getD i 0=ns.getD j 0))))),μ2):=by
    rw [z1l,e_2 (x:=.int (ns.getD i 0)) (μ1:=μ2) (y:=.int (ns.getD j 0)) (μ2:=μ2) (by rw [e_2 (x:=dI ns) (μ1:=μ2) (y:=.int (i:Int)) (μ2:=μ2) rfl rfl];exact ix _ _ (by omega)) (by rw [e_2 (x:=dI ns) (μ1:=μ2) (y:=.int (j:Int)) (μ2:=μ2) rfl rfl];exact ix _ _ (by omega))]
    rfl
  obtain ⟨b,s4⟩:∃ b:Bool,sIf (vT (v2 fEq (vL z04 (z02 (z01 0) (z02 (vC (.int 40)) z0b))) (vC (.int 0)))) (z10 (v1 zf2 (z01 7)) (z00 7)) sNx (gA k n ns r (some x4) (some (.int (i:Int))) (some (.int (j:Int))) (some (.bl (decide (ns.getD i 0=ns.getD j 0))))) μ2=some (.nx,(gA k n ns r (some x4) (some (.int (i:Int))) (some (.int (j:Int))) (some (.bl b))),μ3):=by
    have t:vT (v2 fEq (vL z04 (z02 (z01 0) (z02 (vC (.int 40)) z0b))) (vC (.int 0))) (gA k n ns r (some x4) (some (.int (i:Int))) (some (.int (j:Int))) (some (.bl (decide (ns.getD i 0=ns.getD j 0))))) μ2=some (decide ((u:Int)=0),μ3):=by
      have hv:vL z04 (z02 (z01 0) (z02 (vC (.int 40)) z0b)) (gA k n ns r (some x4) (some (.int (i:Int))) (some (.int (j:Int))) (some (.bl (decide (ns.getD i 0=ns.getD j 0))))) μ2=some (.int (u:Int),μ3):=by
        simp [e3]
      rw [z7y,e_2 (y:=.int 0) (μ2:=μ3) hv rfl]
      rfl
    cases hu:decide ((u:Int)=0) with
    | true=>exact ⟨!decide (ns.getD i 0=ns.getD j 0),by rw [z1n,t,hu];rfl⟩
    | false=>exact ⟨decide (ns.getD i 0=ns.getD j 0),by rw [z1n,t,hu];rfl⟩
  have hr3:μ3[r]?=some (some (.lst (as.map dA))):=by rw [o3.at_ r (Ne.symm hkr),o2.at_ r (Ne.symm hkr),o1.at_ r (Ne.symm hkr)];exact hr
  obtain ⟨μ4,e4,h4,o4⟩:=zio (y:=dA (i,j,b)) hr3 (by simp;omega)
  refine ⟨(i,j,b),some (.int (i:Int)),some (.int (j:Int)),some (.bl b),μ4,?_,?_,by rw [h4];simp,by simp;omega⟩
  · have s5:z43 (v2l z8b (z01 3) (vL za3 (z02 (z01 5) (z02 (z01 6) (z02 (z01 7) z0b))))) (gA k n ns r (some x4) (some (.int (i:Int))) (some (.int (j:Int))) (some (.bl b))) μ3=some (.nx,(gA k n ns r (some x4) (some (.int (i:Int))) (some (.int (j:Int))) (some (.bl b))),μ4):=by
      rw [z3l]
      unfold v2l
      have hv3:z01 3 (gA k n ns r (some x4) (some (.int (i:Int))) (some (.int (j:Int))) (some (.bl b))) μ3=some (.ref r,μ3):=rfl
      rw [hv3,bs]
      show kEx _ ((z2h μ3 (.ref r)).bind _)=_
      rw [z2m hr3,bs]
      show kEx _ (z8b (.ref r) (dA (i,j,b)) μ3)=_
      rw [e4]
      rfl
    unfold zjf
    rw [z09,s1,z0d,z09,s2,z0d,z09,s3,z0d,z09,s4,z0d,s5]
  · obtain ⟨a,b,c,e⟩:=d3
    exact ⟨a,b,c,by rw [o4.at_ k hkr];exact e⟩
theorem Dk.gr {μ μ':M} {k:Nat} (h:Dk μ k) (g:Gr μ μ'):Dk μ' k:=let ⟨a,b,c,e⟩:=h;⟨a,b,c,g.get e⟩
theorem Dk.lt {μ:M} {k:Nat} (h:Dk μ k):k<μ.length:=let ⟨_,_,_,e⟩:=h;(List.getElem?_eq_some_iff.mp e).1
theorem zc2 {n k:Nat} {μ:M} (hn:n≤7) (hd:Dk μ k) :
    ∃ d as μ',z1b z04 [.ref k,.int (n:Int)] μ=some (d,μ')∧Ls μ' d (as.map dA)∧Ok2 n as∧as.length≤300∧Dk μ' k∧(∀ r,d=.ref r→r≠k):=by
  refine bq fun hG=>?_
  obtain ⟨ns,μ1,e1,hl1,d1,o1⟩:=zb8 (List.range n) none μ hd
  rw [List.length_range] at hl1
  have s1:z10 (z1d ["thing"] [("deck",0)] (ivR (z01 1)) (z00 0) z1i (vL z04 (z02 (z01 1) (z02 (v2 z0w (vC (.int 1)) (vL z04 (z02 (z01 1) (z02 (vC (.int 4)) z0b)))) z0b)))) (z00 2) [some (.ref k),some (.int (n:Int)),none,none,none,none,none,none] μ=some (.nx,[some (.ref k),some (.int (n:Int)),some (dI ns),none,none,none,none,none],μ1):=by
    have hr:ivR (z01 1) [some (.ref k),some (.int (n:Int)),none,none,none,none,none,none] μ=some (((List.range n).map fun i:Nat=>D.int (i:Int),none),μ):=by
      have hb:(-1000000000:Int)≤(n:Int)∧(n:Int)≤1000000000:=by omega
      simp [hb,z4w]
    have hc:z4r (["thing"]:List Str) [("deck",0)] [some (.ref k),some (.int (n:Int)),none,none,none,none,none,none]=[none,some (.ref k)]:=rfl
    rw [z1l,z6h,hr,z9g,if_pos (by simp;omega),hc,e1]
    rfl
  have s2:z10 (vL z7g z0b) (z00 3) [some (.ref k),some (.int (n:Int)),some (dI ns),none,none,none,none,none] μ1=some (.nx,[some (.ref k),some (.int (n:Int)),some (dI ns),some (.ref μ1.length),none,none,none,none],μ1++[some (O.lst [])]):=rfl
  have hkr:k≠μ1.length:=by have:=d1.lt;omega
  generalize hr:μ1.length=r at s2 hkr
  have hr2:(μ1++[some (O.lst [])])[r]?=some (some (.lst (([]:List An).map dA))):=by rw [← hr];simp
  have d2:Dk (μ1++[some (O.lst [])]) k:=d1.gr gr_app
  generalize hμ2:μ1++[some (O.lst [])]=μ2 at s2 hr2 d2
  obtain ⟨t1,μ3,e3,b3,d3,o3⟩:=z1j (m:=2) d2 (by decide) (by decide)
  have:∃ z:Int,0<z∧z≤15∧fIx (.lst [.int 4,.int 15]) (.int (t1:Int)) μ3=some (.int z,μ3):=by
    have:t1=0∨t1=1:=by omega
    rcases this with rfl | rfl
    · exact ⟨4,by decide,by decide,rfl⟩
    · exact ⟨15,by decide,by decide,rfl⟩
  obtain ⟨z,z0,z1,ez⟩:=this
  obtain ⟨t2,μ4,e4,b4,d4,o4⟩:=z1j (m:=z) d3 z0 (by omega)
  have hr4:μ4[r]?=some (some (.lst (([]:List An).map dA))):=by rw [o4.at_ r (Ne.symm hkr),o3.at_ r (Ne.symm hkr)];exact hr2
  obtain ⟨m,hm14,hm0,hi⟩:∃ m:Nat,m≤14∧(m≠0→2≤n)∧ivR (v2 z20 (vL z04 (z02 (z01 0) (z02 (v2 fIx (vL z3j (z02 (vC (.int 4)) (z02 (vC (.int 15)) z0b))) (vL z04 (z02 (z01 0) (z02 (vC (.int 2)) z0b)))) z0b))) (v1 z7k (v2 fGt (z01 1) (vC (.int 1))))) (gA k n ns r none none none none) μ2=some ((z4w 0 m,none),μ4):=by
    have ha:vL z04 (z02 (z01 0) (z02 (v2 fIx (vL z3j (z02 (vC (.int 4)) (z02 (vC (.int 15)) z0b))) (vL z04 (z02 (z01 0) (z02 (vC (.int 2)) z0b)))) z0b)) (gA k n ns r none none none none) μ2=some (.int (t2:Int),μ4):=by
      have hx:v2 fIx (vL z3j (z02 (vC (.int 4)) (z02 (vC (.int 15)) z0b))) (vL z04 (z02 (z01 0) (z02 (vC (.int 2)) z0b))) (gA k n ns r none none none none) μ2=some (.int z,μ3):=by
        rw [e_2 (x:=.lst [.int 4,.int 15]) (μ1:=μ2) (y:=.int (t1:Int)) (μ2:=μ3) rfl (by simp [e3]),ez]
      have hl:z02 (z01 0) (z02 (v2 fIx (vL z3j (z02 (vC (.int 4)) (z02 (vC (.int 15)) z0b))) (vL z04 (z02 (z01 0) (z02 (vC (.int 2)) z0b)))) z0b) (gA k n ns r none none none none) μ2=some ([.ref k,.int z],μ3):=by
        rw [z28]
        show zm8 (.ref k) (z02 (v2 fIx _ _) z0b _ μ2)=_
        rw [z28,hx]
        rfl
      rw [zei,hl]
      exact e4
    have hb:v1 z7k (v2 fGt (z01 1) (vC (.int 1))) (gA k n ns r none none none none) μ4=some (.int (if 1<n then 1 else 0),μ4):=by
      by_cases h1:1<n
      · have:(1:Int)<(n:Int):=by omega
        simp [fGt,fI0,h1,this]
      · have:¬ (1:Int)<(n:Int):=by omega
        simp [fGt,fI0,h1,this]
    have ht:v2 z20 (vL z04 (z02 (z01 0) (z02 (v2 fIx (vL z3j (z02 (vC (.int 4)) (z02 (vC (.int 15)) z0b))) (vL z04 (z02 (z01 0) (z02 (vC (.int 2)) z0b)))) z0b))) (v1 z7k (v2 fGt (z01 1) (vC (.int 1)))) (gA k n ns r none none none none) μ2=some (.int (((if 1<n then t2 else 0):Nat):Int),μ4):=by
      rw [e_2 ha hb]
      have hc:CMul (t2:Int) (if 1<n then 1 else 0):=.inl ⟨by omega,by omega⟩
      simp only [z20,if_pos hc]
      split <;> simp
    refine ⟨if 1<n then t2 else 0,by split <;> omega,fun h=>?_,?_⟩
    · by_cases h1:1<n
      · omega
      · rw [if_neg h1] at h;exact absurd rfl h
    · rw [zm9,ht,zrs,if_pos (by split <;> omega)]
      simp
  have main:=z53 (c:=none) (g:=z00 4) (body:=zjf)
    (fun i Γ μ'=>∃ (as:List An) (o4 o5 o6 o7:Option D),Γ=(gA k n ns r o4 o5 o6 o7)∧μ'[r]?=some (some (.lst (as.map dA)))∧Dk μ' k∧Ok2 n as∧as.length=i)
    (z4w 0 m) 0 (gA k n ns r none none none none) μ4 ⟨[],_,_,_,_,rfl,hr4,d4,fun a h=>by simp at h,rfl⟩ ?_
  · obtain ⟨Γ',μ5,e5,as,p4,p5,p6,p7,rfl,hr5,d5,hok,hlen⟩:=main
    rw [z6k,Nat.zero_add] at hlen
    have s3:z82 (ivR (v2 z20 (vL z04 (z02 (z01 0) (z02 (v2 fIx (vL z3j (z02 (vC (.int 4)) (z02 (vC (.int 15)) z0b))) (vL z04 (z02 (z01 0) (z02 (vC (.int 2)) z0b)))) z0b))) (v1 z7k (v2 fGt (z01 1) (vC (.int 1)))))) (z00 4) zjf (gA k n ns r none none none none) μ2=some (.nx,(gA k n ns r p4 p5 p6 p7),μ5):=by
      rw [z2e,hi,z3v,e5]
    have hL5:Ls μ5 (.ref r) (as.map dA):=.ref hr5
    have hL6:Ls (μ5++[some (O.lst [])]) (.ref r) (as.map dA):=hL5.gr gr_app
    have hN:Ls (μ5++[some (O.lst [])]) (.ref μ5.length) (([]:List An).map dA):=.ref (by simp)
    have t1':vT (v2 fNe (z01 3) (vL z7g z0b)) (gA k n ns r p4 p5 p6 p7) μ5=some (!decide (as=[]),μ5++[some (O.lst [])]):=by
      rw [z7y,e_2 (x:=.ref r) (μ1:=μ5) (y:=.ref μ5.length) (μ2:=μ5++[some (O.lst [])]) rfl rfl]
      unfold fNe
      rw [zoj hL6 hN]
      rfl
    have d6:Dk (μ5++[some (O.lst [])]) k:=d5.gr gr_app
    have hrun:∀ (X:Option (Out×G×M)),z0v (sIf (zim (vT (v2 fNe (z01 3) (vL z7g z0b))) (vT (v2 fEq (vL z04 (z02 (z01 0) (z02 (vC (.int 8)) z0b))) (vC (.int 3)))))
      (z10 (vSl (v2 z20 (z01 3) (vC (.int 300))) z5f (z4g (v2 z0w (vC (.int 100)) (vL z04 (z02 (z01 0) (z02 (vC (.int 199)) z0b)))))) (z00 3))
      sNx) (z32 (z01 3)) (gA k n ns r p4 p5 p6 p7) μ5=X→z1b z04 [.ref k,.int (n:Int)] μ=z6l X:=by
      intro X hX
      unfold z1b z3b
      rw [z1t,if_pos (show [D.ref k,D.int (n:Int)].length=2 from rfl)]
      show z6l (z0v _ _ [some (.ref k),some (.int (n:Int)),none,none,none,none,none,none] μ)=_
      rw [z09,s1,z0d,z09,s2,z0d,z09,s3,z0d,hX]
    by_cases h0:as=[]
    · refine hG ⟨.ref r,as,μ5++[some (O.lst [])],?_,hL6,hok,by omega,d6,fun q h=>by cases h;exact Ne.symm hkr⟩
      rw [hrun _ rfl]
      have tb:zim (vT (v2 fNe (z01 3) (vL z7g z0b))) (vT (v2 fEq (vL z04 (z02 (z01 0) (z02 (vC (.int 8)) z0b))) (vC (.int 3)))) (gA k n ns r p4 p5 p6 p7) μ5=some (false,μ5++[some (O.lst [])]):=by
        rw [zil,t1',decide_eq_true h0]
        rfl
      rw [z09,z1n,tb]
      rfl
    · rw [decide_eq_false h0] at t1'
      obtain ⟨u,μ7,e7,b7,d7,o7⟩:=z1j (m:=8) d6 (by decide) (by decide)
      have hr6:(μ5++[some (O.lst [])])[r]?=some (some (.lst (as.map dA))):=gr_app.get hr5
      have hr7:μ7[r]?=some (some (.lst (as.map dA))):=by rw [o7.at_ r (Ne.symm hkr)];exact hr6
      have tb:zim (vT (v2 fNe (z01 3) (vL z7g z0b))) (vT (v2 fEq (vL z04 (z02 (z01 0) (z02 (vC (.int 8)) z0b))) (vC (.int 3)))) (gA k n ns r p4 p5 p6 p7) μ5=some (decide ((u:Int)=3),μ7):=by
        rw [zil,t1']
        show vT (v2 fEq (vL z04 (z02 (z01 0) (z02 (vC (.int 8)) z0b))) (vC (.int 3))) _ (μ5++[some (O.lst [])])=_
        have hv:vL z04 (z02 (z01 0) (z02 (vC (.int 8)) z0b)) (gA k n ns r p4 p5 p6 p7) (μ5++[some (O.lst [])])=some (.int (u:Int),μ7):=by
          simp [e7]
        rw [z7y,e_2 (y:=.int 3) (μ2:=μ7) hv rfl]
        rfl
      cases hu:decide ((u:Int)=3) with
      | false =>
        rw [hu] at tb
        refine hG ⟨.ref r,as,μ7,?_,.ref hr7,hok,by omega,d7,fun q h=>by cases h;exact Ne.symm hkr⟩
        rw [hrun _ rfl,z09,z1n,tb]
        rfl
      | true =>
        rw [hu] at tb
        obtain ⟨w,μ8,e8,b8,d8,o8⟩:=z1j (m:=199) d7 (by decide) (by decide)
        have hfl:(List.replicate 300 (as.map dA)).flatten=((List.replicate 300 as).flatten).map dA:=by
          rw [List.map_flatten,List.map_replicate]
        refine hG ⟨.lst ((((List.replicate 300 as).flatten).take (100+w)).map dA),((List.replicate 300 as).flatten).take (100+w),μ8,?_,.lst,?_,?_,d8,fun q h=>by cases h⟩
        · have hx:v2 z20 (z01 3) (vC (.int 300)) (gA k n ns r p4 p5 p6 p7) μ7=some (.lst (((List.replicate 300 as).flatten).map dA),μ7):=by
            rw [e_2 (x:=.ref r) (μ1:=μ7) (y:=.int 300) (μ2:=μ7) rfl rfl]
            show zt2 (.ref r) (.int 300) μ7=_
            unfold zt2
            rw [zje hr7,bs]
            simp only
            rw [if_pos (by simp;omega)]
            show some (D.lst (List.replicate 300 (as.map dA)).flatten,μ7)=_
            rw [hfl]
          have hp:v2 z0w (vC (.int 100)) (vL z04 (z02 (z01 0) (z02 (vC (.int 199)) z0b))) (gA k n ns r p4 p5 p6 p7) μ7=some (.int ((100+w:Nat):Int),μ8):=by
            rw [e_2 (x:=.int 100) (μ1:=μ7) (y:=.int (w:Int)) (μ2:=μ8) rfl (by simp [e8])]
            simp [z0w]
          have hsl:vSl (v2 z20 (z01 3) (vC (.int 300))) z5f (z4g (v2 z0w (vC (.int 100)) (vL z04 (z02 (z01 0) (z02 (vC (.int 199)) z0b))))) (gA k n ns r p4 p5 p6 p7) μ7=some (.lst ((((List.replicate 300 as).flatten).take (100+w)).map dA),μ8):=by
            unfold vSl
            rw [hx,bs]
            show (z5f _ μ7).bind _=_
            have ho:z5f (gA k n ns r p4 p5 p6 p7) μ7=some (none,μ7):=rfl
            have ho2:z4g (v2 z0w (vC (.int 100)) (vL z04 (z02 (z01 0) (z02 (vC (.int 199)) z0b)))) (gA k n ns r p4 p5 p6 p7) μ7=some (some ((100+w:Nat):Int),μ8):=by
              unfold z4g;rw [hp];rfl
            rw [ho,bs]
            show (z4g _ _ μ7).bind _=_
            rw [ho2,bs]
            show some (D.lst (ze6 (((List.replicate 300 as).flatten).map dA) none (some ((100+w:Nat):Int))),μ8)=_
            congr 3
            unfold ze6
            rw [HT.sIx_none,HT.sIx_nat,List.drop_zero,Nat.sub_zero,← List.map_take]
            congr 1
            by_cases hmin:100+w≤(((List.replicate 300 as).flatten).map dA).length
            · rw [Nat.min_eq_left hmin]
            · rw [Nat.min_eq_right (by omega),List.length_map,List.take_length,List.take_of_length_le (by rw [List.length_map] at hmin;omega)]
          rw [hrun _ rfl,z09,z1n,tb]
          show z6l (zfc _ (z10 _ _ _ μ7))=_
          rw [z1l,hsl]
          rfl
        · intro a ha
          have:=List.mem_of_mem_take ha
          rw [List.mem_flatten] at this
          obtain ⟨l,hl,hal⟩:=this
          have:=List.eq_of_mem_replicate hl
          subst this
          exact hok a hal
        · rw [List.length_take];omega
  · rintro j x Γ μ' hx ⟨as,p4,p5,p6,p7,rfl,hr',d',hok,hlen⟩
    refine bq fun bG=>?_
    obtain ⟨hjm,rfl⟩:=z95 hx
    rw [Nat.zero_add] at hlen
    obtain ⟨a,q5,q6,q7,μ'',e,d'',hr'',ha⟩:=zg6 (x4:=.int (j:Int)) (o5:=p5) (o6:=p6) (o7:=p7) (hm0 (by omega)) hn hl1 d' hr' hkr (by omega)
    refine bG (⟨(gA k n ns r (some (.int (j:Int))) p5 p6 p7),μ',_,μ'',rfl,e,trivial,as++[a],some (.int (j:Int)),q5,q6,q7,rfl,hr'',d'',fun b hb=>?_,by simp [hlen]⟩)
    rcases List.mem_append.mp hb with hb | hb
    · exact hok b hb
    · have:b=a:=by simpa using hb
      subst this;exact ha
section
variable {C CF CT:Addr} {cs:List Addr} {f:List D→M→Option (D×M)}
noncomputable abbrev zj0:List D→M→Option (D×M):=z3h (z0y z0i)
noncomputable abbrev zs5:List D→M→Option (D×M):=z1b z04
noncomputable abbrev w1:SV:=(z10 (vL z1f (z02 (z01 1) z0b)) (z00 2))
noncomputable abbrev w2:SV:=(z10 (v2 fIx (vL z3j (z02 (vL z04 (z02 (z01 2) (z02 (vC (.int 8)) z0b))) (z02 (vL z04 (z02 (z01 2) (z02 (vC (.int 6)) z0b))) z0b))) (v1 z7k (v2 fGt (vL z04 (z02 (z01 2) (z02 (vC (.int 3)) z0b))) (vC (.int 0))))) (z00 3))
noncomputable abbrev w3:SV:=(z10 (vL zs5 (z02 (z01 2) (z02 (z01 3) z0b))) (z00 4))
noncomputable abbrev w4:SV:=(z10 (v1 zaz (z01 4)) (z00 5))
noncomputable abbrev w5:SV:=(z10 (vL zj0 (z02 (z01 3) (z02 (z01 4) z0b))) (z00 6))
noncomputable abbrev w6b (T:List D→M→Option (D×M)):SV:=(sIf (bOr (zfd (z65 (vL (z1e 10) (z02 (vL T (z02 (z01 3) (z02 (z01 5) z0b))) (z02 (z01 6) z0b))))) (vT (v2 fNe (z01 5) (z01 4))))
          (z32 (vC (.bl false)))
          sNx)
noncomputable abbrev w6 (T:List D→M→Option (D×M)):SV:=(z82 (ivR (vC (.int 2))) (z00 7) (w6b T))
noncomputable abbrev w7b (T:List D→M→Option (D×M)):SV:=(z0v (z10 (vL z04 (z02 (z01 2) (z02 (v1 z6b (z01 5)) z0b))) (z00 8))
        (z0v (z10 (v2 z0w (vSl (v2 fIx (z01 5) (z01 8)) z5f (z4g (vC (.int 2)))) (vL za3 (z02 (v1 zf2 (v2 fIx (v2 fIx (z01 5) (z01 8)) (vC (.int 2)))) z0b))) (z89 (z01 5) (z01 8)))
        (sIf (zfd (z65 (vL (z1e 10) (z02 (vL T (z02 (z01 3) (z02 (z01 5) z0b))) (z02 (vL zj0 (z02 (z01 3) (z02 (v1 z7h (z01 5)) z0b))) z0b)))))
          (z32 (vC (.bl false)))
          sNx)))
noncomputable abbrev w7 (T:List D→M→Option (D×M)):SV:=(sIf (vT (v2 fNe (z01 5) (vL z3j z0b))) (w7b T) sNx)
theorem rw2 {sc c:D} {k:Nat} {o3 o4 o5 o6 o7 o8:Option D} {μ:M} (h:Dk μ k):∃ (n:Nat) (μ':M),n≤7∧Dk μ' k∧w2 [some sc,some c,some (.ref k),o3,o4,o5,o6,o7,o8] μ=some (.nx,[some sc,some c,some (.ref k),some (.int (n:Int)),o4,o5,o6,o7,o8],μ'):=by
  obtain ⟨a,μ1,e1,b1,d1,_⟩:=z1j (m:=8) h (by decide) (by decide)
  obtain ⟨b,μ2,e2,b2,d2,_⟩:=z1j (m:=6) d1 (by decide) (by decide)
  obtain ⟨t,μ3,e3,b3,d3,_⟩:=z1j (m:=3) d2 (by decide) (by decide)
  have hl:vL z3j (z02 (vL z04 (z02 (z01 2) (z02 (vC (.int 8)) z0b))) (z02 (vL z04 (z02 (z01 2) (z02 (vC (.int 6)) z0b))) z0b)) [some sc,some c,some (.ref k),o3,o4,o5,o6,o7,o8] μ=some (.lst [.int (a:Int),.int (b:Int)],μ2):=by
    simp [e1,e2,z3j]
  have ht:v1 z7k (v2 fGt (vL z04 (z02 (z01 2) (z02 (vC (.int 3)) z0b))) (vC (.int 0))) [some sc,some c,some (.ref k),o3,o4,o5,o6,o7,o8] μ2=some (.int (if 0<t then 1 else 0),μ3):=by
    have hv:vL z04 (z02 (z01 2) (z02 (vC (.int 3)) z0b)) [some sc,some c,some (.ref k),o3,o4,o5,o6,o7,o8] μ2=some (.int (t:Int),μ3):=by simp [e3]
    have hg:v2 fGt (vL z04 (z02 (z01 2) (z02 (vC (.int 3)) z0b))) (vC (.int 0)) [some sc,some c,some (.ref k),o3,o4,o5,o6,o7,o8] μ2=some (.bl (decide (0<(t:Int))),μ3):=by
      rw [e_2 (y:=.int 0) (μ2:=μ3) hv rfl];rfl
    rw [e_1 hg,zku]
    by_cases h0:0<t
    · have:(0:Int)<(t:Int):=by omega
      simp [h0,this]
    · have:¬ (0:Int)<(t:Int):=by omega
      simp [h0,this]
  by_cases h0:0<t
  · refine ⟨b,μ3,by omega,d3,?_⟩
    rw [w2,z1l,e_2 hl ht,if_pos h0]
    rfl
  · refine ⟨a,μ3,by omega,d3,?_⟩
    rw [w2,z1l,e_2 hl ht,if_neg h0]
    rfl
theorem zjx {sc:D} {c:Int} {o2 o3 o4 o5 o6 o7 o8:Option D} {μ:M} (hC:CF∈cs) (hf:∀ (μ:M) (k:Nat),μ[k]?=some (some (.exc CF))→f [.ref k] μ=some (.str "fit",μ)) :
    ∃ x2 x3 x4 x5 x6 x7 x8 μ',(z0v w1 (z0v w2 (z0v w3 (z0v w4 (z0v w5 (z0v (w6 (z8g f C CF CT cs)) (w7 (z8g f C CF CT cs)))))))) [some sc,some (.int c),o2,o3,o4,o5,o6,o7,o8] μ=some (.nx,[some sc,some (.int c),x2,x3,x4,x5,x6,x7,x8],μ'):=by
  obtain ⟨k,μ1,e1,d1,_,_⟩:=zjw (μ:=μ) (c:=c)
  have h1:w1 [some sc,some (.int c),o2,o3,o4,o5,o6,o7,o8] μ=some (.nx,[some sc,some (.int c),some (.ref k),o3,o4,o5,o6,o7,o8],μ1):=by
    simp [w1,e1]
  obtain ⟨n,μ2,hn,d2,h2⟩:=rw2 (sc:=sc) (c:=.int c) (o3:=o3) (o4:=o4) (o5:=o5) (o6:=o6) (o7:=o7) (o8:=o8) d1
  obtain ⟨d,as,μ3,e3,hL3,hok,hlen,d3,hdk⟩:=zc2 hn d2
  have h3:w3 [some sc,some (.int c),some (.ref k),some (.int (n:Int)),o4,o5,o6,o7,o8] μ2=some (.nx,[some sc,some (.int c),some (.ref k),some (.int (n:Int)),some d,o5,o6,o7,o8],μ3):=by
    have:vL zs5 (z02 (z01 2) (z02 (z01 3) z0b)) [some sc,some (.int c),some (.ref k),some (.int (n:Int)),o4,o5,o6,o7,o8] μ2=some (d,μ3):=e3
    rw [w3,z1l,this]
    rfl
  have h4:w4 [some sc,some (.int c),some (.ref k),some (.int (n:Int)),some d,o5,o6,o7,o8] μ3=some (.nx,[some sc,some (.int c),some (.ref k),some (.int (n:Int)),some d,some (.ref μ3.length),o6,o7,o8],μ3++[some (.lst (as.map dA))]):=by
    have:v1 zaz (z01 4) [some sc,some (.int c),some (.ref k),some (.int (n:Int)),some d,o5,o6,o7,o8] μ3=some (.ref μ3.length,μ3++[some (.lst (as.map dA))]):=by
      rw [e_1 (x:=d) (μ1:=μ3) rfl]
      unfold zaz zp7
      rw [hL3.1]
      rfl
    rw [w4,z1l,this]
    rfl
  have hkh:k≠μ3.length:=by have:=d3.lt;omega
  generalize hh:μ3.length=h at h4 hkh
  have hL4:Ls (μ3++[some (O.lst (as.map dA))]) d (as.map dA):=hL3.gr gr_app
  have hH4:(μ3++[some (O.lst (as.map dA))])[h]?=some (some (.lst (as.map dA))):=by rw [← hh];simp
  have d4:Dk (μ3++[some (O.lst (as.map dA))]) k:=d3.gr gr_app
  have hdh:∀ q,d=.ref q→q≠h:=fun q hq=>by
    rcases z2l hL3 with ⟨q',e,hq'⟩ | e | e
    · rw [e] at hq;cases hq
      have:=(List.getElem?_eq_some_iff.mp hq').1
      omega
    · rw [e] at hq;cases hq
    · rw [e] at hq;cases hq
  generalize hμ4:μ3++[some (O.lst (as.map dA))]=μ4 at h4 hL4 hH4 d4
  obtain ⟨μ5,e5,g5⟩:=zga (d:=d) hn hL4 hok.inN (by omega)
  have h5:w5 [some sc,some (.int c),some (.ref k),some (.int (n:Int)),some d,some (.ref h),o6,o7,o8] μ4=some (.nx,[some sc,some (.int c),some (.ref k),some (.int (n:Int)),some d,some (.ref h),some (z18 n as),o7,o8],μ5):=by
    have:vL zj0 (z02 (z01 3) (z02 (z01 4) z0b)) [some sc,some (.int c),some (.ref k),some (.int (n:Int)),some d,some (.ref h),o6,o7,o8] μ4=some (z18 n as,μ5):=e5
    rw [w5,z1l,this]
    rfl
  have turn:∀ (i:D) (x8:Option D) (μ:M),μ[h]?=some (some (.lst (as.map dA)))→Ls μ d (as.map dA)→∃ μ',w6b (z8g f C CF CT cs) [some sc,some (.int c),some (.ref k),some (.int (n:Int)),some d,some (.ref h),some (z18 n as),some i,x8] μ=some (.nx,[some sc,some (.int c),some (.ref k),some (.int (n:Int)),some d,some (.ref h),some (z18 n as),some i,x8],μ')∧Gr μ μ':=by
    intro i x8 μ hH hL
    refine bq fun bG=>?_
    obtain ⟨μ',e,g⟩:=zdf (C:=C) (CT:=CT) (d:=.ref h) (.ref hH) hok (by omega) hn hC hf
    refine bG (⟨μ',?_,g⟩)
    have ht:vL (z1e 10) (z02 (vL (z8g f C CF CT cs) (z02 (z01 3) (z02 (z01 5) z0b))) (z02 (z01 6) z0b)) [some sc,some (.int c),some (.ref k),some (.int (n:Int)),some d,some (.ref h),some (z18 n as),some i,x8] μ=some (.bl true,μ'):=by
      have hv:vL (z8g f C CF CT cs) (z02 (z01 3) (z02 (z01 5) z0b)) [some sc,some (.int c),some (.ref k),some (.int (n:Int)),some d,some (.ref h),some (z18 n as),some i,x8] μ=some (z8d n as,μ'):=e
      have hl:z02 (vL (z8g f C CF CT cs) (z02 (z01 3) (z02 (z01 5) z0b))) (z02 (z01 6) z0b) [some sc,some (.int c),some (.ref k),some (.int (n:Int)),some d,some (.ref h),some (z18 n as),some i,x8] μ=some ([z8d n as,z18 n as],μ'):=by
        rw [z28,hv]
        rfl
      rw [zei,hl]
      exact zag (k:=8)
    have hne:vT (v2 fNe (z01 5) (z01 4)) [some sc,some (.int c),some (.ref k),some (.int (n:Int)),some d,some (.ref h),some (z18 n as),some i,x8] μ'=some (false,μ'):=by
      rw [z7y,e_2 (x:=.ref h) (μ1:=μ') (y:=d) (μ2:=μ') rfl rfl]
      unfold fNe
      rw [zoj (.ref (g.get hH)) (hL.gr g)]
      simp
    rw [w6b,z1n,zsg,zik,za2,ht]
    show zsy _ _ _ (vT (v2 fNe (z01 5) (z01 4)) _ μ')=_
    rw [hne]
    rfl
  have hH5:=g5.get hH4
  have hL5:=hL4.gr g5
  have d5:=d4.gr g5
  obtain ⟨μ6,t6,g6⟩:=turn (.int 0) o8 μ5 hH5 hL5
  obtain ⟨μ7,t7,g7⟩:=turn (.int 1) o8 μ6 (g6.get hH5) (hL5.gr g6)
  have h6:w6 (z8g f C CF CT cs) [some sc,some (.int c),some (.ref k),some (.int (n:Int)),some d,some (.ref h),some (z18 n as),o7,o8] μ5=some (.nx,[some sc,some (.int c),some (.ref k),some (.int (n:Int)),some d,some (.ref h),some (z18 n as),some (.int 1),o8],μ7):=by
    have hr:ivR (vC (.int 2)) [some sc,some (.int c),some (.ref k),some (.int (n:Int)),some d,some (.ref h),some (z18 n as),o7,o8] μ5=some (([.int 0,.int 1],none),μ5):=rfl
    have n1:z00 7 (.int 0) [some sc,some (.int c),some (.ref k),some (.int (n:Int)),some d,some (.ref h),some (z18 n as),o7,o8] μ5=some ([some sc,some (.int c),some (.ref k),some (.int (n:Int)),some d,some (.ref h),some (z18 n as),some (.int 0),o8],μ5):=rfl
    have n2:z00 7 (.int 1) [some sc,some (.int c),some (.ref k),some (.int (n:Int)),some d,some (.ref h),some (z18 n as),some (.int 0),o8] μ6=some ([some sc,some (.int c),some (.ref k),some (.int (n:Int)),some d,some (.ref h),some (z18 n as),some (.int 1),o8],μ6):=rfl
    rw [w6,z2e,hr,z3v]
    simp only [z5b,n1,bs,t6,z1x,n2,t7]
  have g57:=g6.trans g7
  have hH7:=g57.get hH5
  have d7:=d5.gr g57
  have tt:vT (v2 fNe (z01 5) (vL z3j z0b)) [some sc,some (.int c),some (.ref k),some (.int (n:Int)),some d,some (.ref h),some (z18 n as),some (.int 1),o8] μ7=some (!decide (as=[]),μ7):=by
    rw [z7y,e_2 (x:=.ref h) (μ1:=μ7) (y:=.lst []) (μ2:=μ7) rfl rfl]
    unfold fNe
    have hq:eqD (.ref h) (.lst []) μ7=some (decide (as=[])):=zoj (bs:=[]) (.ref hH7) .lst
    rw [hq]
    rfl
  by_cases h0:as=[]
  · refine ⟨some (.ref k),some (.int (n:Int)),some d,some (.ref h),some (z18 n as),some (.int 1),o8,μ7,?_⟩
    rw [z09,h1,z0d,z09,h2,z0d,z09,h3,z0d,z09,h4,z0d,z09,h5,z0d,z09,h6,z0d,w7,z1n,tt,decide_eq_true h0]
    rfl
  · rw [decide_eq_false h0] at tt
    have hpos:0<as.length:=List.length_pos_iff.mpr h0
    obtain ⟨at_,μ8,e8,b8,d8,o8'⟩:=z1j (m:=(as.length:Int)) d7 (by omega) (by omega)
    have hat:at_<as.length:=by omega
    have hH8:μ8[h]?=some (some (.lst (as.map dA))):=by rw [o8'.at_ h (Ne.symm hkh)];exact hH7
    have s1:z10 (vL z04 (z02 (z01 2) (z02 (v1 z6b (z01 5)) z0b))) (z00 8) [some sc,some (.int c),some (.ref k),some (.int (n:Int)),some d,some (.ref h),some (z18 n as),some (.int 1),o8] μ7=some (.nx,[some sc,some (.int c),some (.ref k),some (.int (n:Int)),some d,some (.ref h),some (z18 n as),some (.int 1),some (.int (at_:Int))],μ8):=by
      simp [z9p hH7,e8]
    have ix:v2 fIx (z01 5) (z01 8) [some sc,some (.int c),some (.ref k),some (.int (n:Int)),some d,some (.ref h),some (z18 n as),some (.int 1),some (.int (at_:Int))] μ8=some (dA as[at_],μ8):=by
      rw [e_2 (x:=.ref h) (μ1:=μ8) (y:=.int (at_:Int)) (μ2:=μ8) rfl rfl,z7i hH8,z7v (j:=at_) (v:=dA as[at_]) (by simp [hat])]
      rfl
    generalize hbs:as.set at_ (as[at_].1,as[at_].2.1,!as[at_].2.2)=as2
    have hst:(as.map dA).set at_ (dA (as[at_].1,as[at_].2.1,!as[at_].2.2))=as2.map dA:=by rw [← hbs,List.map_set]
    have hlen2:as2.length=as.length:=by rw [← hbs,List.length_set]
    have hok2:Ok2 n as2:=by
      intro b hb
      rw [← hbs] at hb
      rcases List.mem_or_eq_of_mem_set hb with hb | rfl
      · exact hok b hb
      · exact hok as[at_] (List.getElem_mem _)
    have s2:z10 (v2 z0w (vSl (v2 fIx (z01 5) (z01 8)) z5f (z4g (vC (.int 2)))) (vL za3 (z02 (v1 zf2 (v2 fIx (v2 fIx (z01 5) (z01 8)) (vC (.int 2)))) z0b))) (z89 (z01 5) (z01 8)) [some sc,some (.int c),some (.ref k),some (.int (n:Int)),some d,some (.ref h),some (z18 n as),some (.int 1),some (.int (at_:Int))] μ8=some (.nx,[some sc,some (.int c),some (.ref k),some (.int (n:Int)),some d,some (.ref h),some (z18 n as),some (.int 1),some (.int (at_:Int))],μ8.set h (some (.lst (as2.map dA)))):=by
      have a1:vSl (v2 fIx (z01 5) (z01 8)) z5f (z4g (vC (.int 2))) [some sc,some (.int c),some (.ref k),some (.int (n:Int)),some d,some (.ref h),some (z18 n as),some (.int 1),some (.int (at_:Int))] μ8=some (.tup [.int (as[at_].1:Int),.int (as[at_].2.1:Int)],μ8):=by
        unfold vSl
        rw [ix]
        rfl
      have a2:vL za3 (z02 (v1 zf2 (v2 fIx (v2 fIx (z01 5) (z01 8)) (vC (.int 2)))) z0b) [some sc,some (.int c),some (.ref k),some (.int (n:Int)),some d,some (.ref h),some (z18 n as),some (.int 1),some (.int (at_:Int))] μ8=some (.tup [.bl (!as[at_].2.2)],μ8):=by
        have hx:v2 fIx (v2 fIx (z01 5) (z01 8)) (vC (.int 2)) [some sc,some (.int c),some (.ref k),some (.int (n:Int)),some d,some (.ref h),some (z18 n as),some (.int 1),some (.int (at_:Int))] μ8=some (.bl as[at_].2.2,μ8):=by
          rw [e_2 (y:=.int 2) (μ2:=μ8) ix rfl]
          rfl
        rw [zei,z28,e_1 hx]
        rfl
      have a3:v2 z0w (vSl (v2 fIx (z01 5) (z01 8)) z5f (z4g (vC (.int 2)))) (vL za3 (z02 (v1 zf2 (v2 fIx (v2 fIx (z01 5) (z01 8)) (vC (.int 2)))) z0b)) [some sc,some (.int c),some (.ref k),some (.int (n:Int)),some d,some (.ref h),some (z18 n as),some (.int 1),some (.int (at_:Int))] μ8=some (dA (as[at_].1,as[at_].2.1,!as[at_].2.2),μ8):=by
        rw [e_2 a1 a2]
        rfl
      have hix:ixN (as.map dA).length (at_:Int)=some at_:=by
        unfold ixN
        rw [if_pos (by omega),if_pos (by simp;omega)];rfl
      rw [z1l,a3]
      show kG (z89 (z01 5) (z01 8) (dA (as[at_].1,as[at_].2.1,!as[at_].2.2)) _ μ8)=_
      have hg:z89 (z01 5) (z01 8) (dA (as[at_].1,as[at_].2.1,!as[at_].2.2)) [some sc,some (.int c),some (.ref k),some (.int (n:Int)),some d,some (.ref h),some (z18 n as),some (.int 1),some (.int (at_:Int))] μ8=some ([some sc,some (.int c),some (.ref k),some (.int (n:Int)),some d,some (.ref h),some (z18 n as),some (.int 1),some (.int (at_:Int))],μ8.set h (some (.lst (as2.map dA)))):=by
        simp [z4x hH8,zdb hix,hst]
      rw [hg]
      rfl
    have hH9:(μ8.set h (some (O.lst (as2.map dA))))[h]?=some (some (.lst (as2.map dA))):=z37 hH8
    generalize hμ9:μ8.set h (some (O.lst (as2.map dA)))=μ9 at s2 hH9
    obtain ⟨μ10,e10,g10⟩:=zdf (C:=C) (CT:=CT) (d:=.ref h) (.ref hH9) hok2 (by omega) hn hC hf
    obtain ⟨μ11,e11,g11⟩:=zga (μ:=μ10) (d:=.lst (as2.map dA)) (as:=as2) hn .lst hok2.inN (by omega)
    have ht:vL (z1e 10) (z02 (vL (z8g f C CF CT cs) (z02 (z01 3) (z02 (z01 5) z0b))) (z02 (vL zj0 (z02 (z01 3) (z02 (v1 z7h (z01 5)) z0b))) z0b)) [some sc,some (.int c),some (.ref k),some (.int (n:Int)),some d,some (.ref h),some (z18 n as),some (.int 1),some (.int (at_:Int))] μ9=some (.bl true,μ11):=by
      have hv:vL (z8g f C CF CT cs) (z02 (z01 3) (z02 (z01 5) z0b)) [some sc,some (.int c),some (.ref k),some (.int (n:Int)),some d,some (.ref h),some (z18 n as),some (.int 1),some (.int (at_:Int))] μ9=some (z8d n as2,μ10):=e10
      have hli:v1 z7h (z01 5) [some sc,some (.int c),some (.ref k),some (.int (n:Int)),some d,some (.ref h),some (z18 n as),some (.int 1),some (.int (at_:Int))] μ10=some (.lst (as2.map dA),μ10):=by
        rw [e_1 (x:=.ref h) (μ1:=μ10) rfl]
        unfold z7h zp7
        rw [z2m (g10.get hH9)]
        rfl
      have hl2:z02 (z01 3) (z02 (v1 z7h (z01 5)) z0b) [some sc,some (.int c),some (.ref k),some (.int (n:Int)),some d,some (.ref h),some (z18 n as),some (.int 1),some (.int (at_:Int))] μ10=some ([.int (n:Int),.lst (as2.map dA)],μ10):=by
        rw [z28]
        show zm8 (.int (n:Int)) (z02 (v1 z7h (z01 5)) z0b _ μ10)=_
        rw [z28,hli]
        rfl
      have hd2:vL zj0 (z02 (z01 3) (z02 (v1 z7h (z01 5)) z0b)) [some sc,some (.int c),some (.ref k),some (.int (n:Int)),some d,some (.ref h),some (z18 n as),some (.int 1),some (.int (at_:Int))] μ10=some (z18 n as2,μ11):=by
        rw [zei,hl2]
        exact e11
      have hl:z02 (vL (z8g f C CF CT cs) (z02 (z01 3) (z02 (z01 5) z0b))) (z02 (vL zj0 (z02 (z01 3) (z02 (v1 z7h (z01 5)) z0b))) z0b) [some sc,some (.int c),some (.ref k),some (.int (n:Int)),some d,some (.ref h),some (z18 n as),some (.int 1),some (.int (at_:Int))] μ9=some ([z8d n as2,z18 n as2],μ11):=by
        rw [z28,hv]
        show zm8 (z8d n as2) (z02 (vL zj0 _) z0b _ μ10)=_
        rw [z28,hd2]
        rfl
      rw [zei,hl]
      exact zag (k:=8)
    refine ⟨some (.ref k),some (.int (n:Int)),some d,some (.ref h),some (z18 n as),some (.int 1),some (.int (at_:Int)),μ11,?_⟩
    rw [z09,h1,z0d,z09,h2,z0d,z09,h3,z0d,z09,h4,z0d,z09,h5,z0d,z09,h6,z0d,w7,z1n,tt]
    show w7b (z8g f C CF CT cs) _ μ7=_
    rw [w7b,z09,s1,z0d,z09,s2,z0d,z1n,zik,za2,ht]
    rfl
noncomputable abbrev zoz (T:List D→M→Option (D×M)):SV:=(z0v w1 (z0v w2 (z0v w3 (z0v w4 (z0v w5 (z0v (w6 T) (w7 T)))))))
theorem zl3 {ns:List Int} {lo hi:Option Int} {d:D} (h:d∈ze6 (ns.map D.int) lo hi):∃ c,d=.int c:=by
  have:=List.mem_of_mem_drop (List.mem_of_mem_take h)
  refine bq fun bG=>?_
  obtain ⟨c,_,e⟩:=List.mem_map.mp this
  exact bG (⟨c,e.symm⟩)
theorem zou {ds:List D} {lo hi:Option Int}:(ze6 ds lo hi).length≤ds.length:=by
  unfold ze6;rw [List.length_take,List.length_drop];omega
theorem zn6 (hC:CF∈cs) (hf:∀ (μ:M) (k:Nat),μ[k]?=some (some (.exc CF))→f [.ref k] μ=some (.str "fit",μ)) (ns:List Int) (hn:ns.length≤63):∃ μ',zdq z0u z1f z04 zs5 zj0 (z8g f C CF CT cs) (z1e 10) [.scr (ns.map D.int)] []=some (.bl true,μ'):=by
  have hl:=zou (ds:=ns.map D.int) (lo:=none) (hi:=some 3)
  rw [List.length_map] at hl
  obtain ⟨v,e0⟩:=zep (μ:=[]) (ns:=ns)
  have main:=zdz (c:=none) (g:=z00 1) (body:=zoz (z8g f C CF CT cs)) (fun Γ μ=>∃ o1 o2 o3 o4 o5 o6 o7 o8,Γ=[some (.scr (ns.map D.int)),o1,o2,o3,o4,o5,o6,o7,o8])
    (ze6 (ns.map D.int) none (some 3)++[D.int v]) [some (.scr (ns.map D.int)),none,none,none,none,none,none,none,none] [] ⟨_,_,_,_,_,_,_,_,rfl⟩ ?_
  · obtain ⟨Γ',μ',e,o1,o2,o3,o4,o5,o6,o7,o8,rfl⟩:=main
    refine ⟨μ',?_⟩
    have hs:fSl (.scr (ns.map D.int)) none (some 3) []=some (.lst (ze6 (ns.map D.int) none (some 3)),[]):=rfl
    have hl2:(ze6 (ns.map D.int) none (some 3)).length+1≤1000000:=by omega
    have ef:zi4 z0u z1f z04 zs5 zj0 (z8g f C CF CT cs) (z1e 10)=z0v (z82 (ivL (v2 z0w (vSl (z01 0) z5f (z4g (vC (.int 3)))) (vL z3j (z02 (vL z0u (z02 (z01 0) (z02 (vC (.int 0)) z0b))) z0b)))) (z00 1) (zoz (z8g f C CF CT cs))) (z32 (vC (.bl true))):=rfl
    unfold zdq
    rw [ef]
    generalize zoz (z8g f C CF CT cs)=B at *
    simp [hs,hl2,e0,e]
  · rintro d hd Γ μ ⟨o1,o2,o3,o4,o5,o6,o7,o8,rfl⟩
    obtain ⟨c,rfl⟩:∃ c,d=.int c:=by
      rcases List.mem_append.mp hd with hd | hd
      · exact zl3 hd
      · exact ⟨v,by simpa using hd⟩
    refine bq fun bG=>?_
    obtain ⟨x2,x3,x4,x5,x6,x7,x8,μ',e⟩:=zjx (C:=C) (CF:=CF) (CT:=CT) (sc:=.scr (ns.map D.int)) (c:=c) (o2:=o2) (o3:=o3) (o4:=o4) (o5:=o5) (o6:=o6) (o7:=o7) (o8:=o8) (μ:=μ) hC hf
    exact bG (⟨_,_,_,_,rfl,e,trivial,_,_,_,_,_,_,_,_,rfl⟩)
end
@[elab_as_elim] theorem zm6 {α:Type} {P:List α→Prop} (us:List α) (h:us.length=1) (k:∀ a,P [a]):P us:=match us,h with | [a],_=>k a
@[elab_as_elim] theorem zcl {α:Type} {P:List α→Prop} (us:List α) (h:us.length=2) (k:∀ a b,P [a,b]):P us:=match us,h with | [a,b],_=>k a b
@[elab_as_elim] theorem zve {α:Type} {P:List α→Prop} (us:List α) (h:us.length=3) (k:∀ a b c,P [a,b,c]):P us:=match us,h with | [a,b,c],_=>k a b c
theorem all_mk {l:PySem.W.OpenLaw} {w:World} {K:PySem.W.Frag} {h:Heap} {mg:Str→Option Value} {fa f1 f2 f3 f4 f5 f6 f7 f8 f9 f10 f11 f12 f13 f14 f15 f16 f17 f18 f19 f20 f21 f22 f23 f24 f25 c_NoThing c_NoFit c_TooMany c_NoneYet c_NoText c_NoName c_NoForm c_NoAsk c_HalfError:Addr} {cd_c_NoThing cd_c_NoFit cd_c_TooMany cd_c_HalfError:ClassData} (X:K.In h) (G:h.Ns mainGlobals mg) (hfa:mg "law" = some (.ref fa))
    {od1 an1 od2 an2 od3 an3 od4 an4 od5 an5 od6 an6 od7 an7 od8 an8 od9 an9 od10 an10 od11 an11 od12 an12 od13 an13 od14 an14 od15 an15 od16 an16 od17 an17 od18 an18 od19 an19 od20 an20 od21 an21 od22 an22 od23 an23 od24 an24 od25 an25:Option Addr} {sl1 sl2 sl3 sl4 sl5 sl6 sl7 sl8 sl9 sl10 sl11 sl12 sl13 sl14 sl15 sl16 sl17 sl18 sl19 sl20 sl21 sl22 sl23 sl24 sl25:Array (Option Value)} {oc1 kV1 dc1 pm1 cd1 ct1 oc2 kV2 dc2 pm2 cd2 ct2 oc3 kV3 dc3 pm3 cd3 ct3 oc4 kV4 dc4 pm4 cd4 ct4 oc5 kV5 dc5 pm5 cd5 ct5 oc6 kV6 dc6 pm6 cd6 ct6 oc7 kV7 dc7 pm7 cd7 ct7 oc8 kV8 dc8 pm8 cd8 ct8 oc9 kV9 dc9 pm9 cd9 ct9 oc10 kV10 dc10 pm10 cd10 ct10 oc11 kV11 dc11 pm11 cd11 ct11 oc12 kV12 dc12 pm12 cd12 ct12 oc13 kV13 dc13 pm13 cd13 ct13 oc14 kV14 dc14 pm14 cd14 ct14 oc15 kV15 dc15 pm15 cd15 ct15 oc16 kV16 dc16 pm16 cd16 ct16 oc17 kV17 dc17 pm17 cd17 ct17 oc18 kV18 dc18 pm18 cd18 ct18 oc19 kV19 dc19 pm19 cd19 ct19 oc20 kV20 dc20 pm20 cd20 ct20 oc21 kV21 dc21 pm21 cd21 ct21 oc22 kV22 dc22 pm22 cd22 ct22 oc23 kV23 dc23 pm23 cd23 ct23 oc24 kV24 dc24 pm24 cd24 ct24 oc25 kV25 dc25 pm25 cd25 ct25:Value}
    (a1:PySem.W.nsIn K mainGlobals "check_things" = some (some (.ref f1)))
    (l1:K.lookup f1=some ⟨oc1,od1,.func (PySem.W.fnOf "check_things" "check_things" (z0r (top 21)) (z0p (top 21)) (z07 (top 21)) .none kV1 dc1 pm1 an1 cd1 ct1),sl1⟩) (c1:PySem.W.codeIn K cd1 "check_things" = true) (k1:PySem.W.keepIn K (.ref f1)=true)
    (a2:PySem.W.nsIn K mainGlobals "moved" = some (some (.ref f2)))
    (l2:K.lookup f2=some ⟨oc2,od2,.func (PySem.W.fnOf "moved" "moved" (z0r (top 22)) (z0p (top 22)) (z07 (top 22)) .none kV2 dc2 pm2 an2 cd2 ct2),sl2⟩) (c2:PySem.W.codeIn K cd2 "moved" = true) (k2:PySem.W.keepIn K (.ref f2)=true)
    (a3:PySem.W.nsIn K mainGlobals "homes_of" = some (some (.ref f3)))
    (l3:K.lookup f3=some ⟨oc3,od3,.func (PySem.W.fnOf "homes_of" "homes_of" (z0r (top 23)) (z0p (top 23)) (z07 (top 23)) .none kV3 dc3 pm3 an3 cd3 ct3),sl3⟩) (c3:PySem.W.codeIn K cd3 "homes_of" = true) (k3:PySem.W.keepIn K (.ref f3)=true)
    (a4:PySem.W.nsIn K mainGlobals "can_be" = some (some (.ref f4)))
    (l4:K.lookup f4=some ⟨oc4,od4,.func (PySem.W.fnOf "can_be" "can_be" (z0r (top 24)) (z0p (top 24)) (z07 (top 24)) .none kV4 dc4 pm4 an4 cd4 ct4),sl4⟩) (c4:PySem.W.codeIn K cd4 "can_be" = true) (k4:PySem.W.keepIn K (.ref f4)=true)
    (a5:PySem.W.nsIn K mainGlobals "check_right" = some (some (.ref f5)))
    (l5:K.lookup f5=some ⟨oc5,od5,.func (PySem.W.fnOf "check_right" "check_right" (z0r (top 25)) (z0p (top 25)) (z07 (top 25)) .none kV5 dc5 pm5 an5 cd5 ct5),sl5⟩) (c5:PySem.W.codeIn K cd5 "check_right" = true) (k5:PySem.W.keepIn K (.ref f5)=true)
    (a6:PySem.W.nsIn K mainGlobals "fits" = some (some (.ref f6)))
    (l6:K.lookup f6=some ⟨oc6,od6,.func (PySem.W.fnOf "fits" "fits" (z0r (top 26)) (z0p (top 26)) (z07 (top 26)) .none kV6 dc6 pm6 an6 cd6 ct6),sl6⟩) (c6:PySem.W.codeIn K cd6 "fits" = true) (k6:PySem.W.keepIn K (.ref f6)=true)
    (a7:PySem.W.nsIn K mainGlobals "one_thing_more" = some (some (.ref f7)))
    (l7:K.lookup f7=some ⟨oc7,od7,.func (PySem.W.fnOf "one_thing_more" "one_thing_more" (z0r (top 14)) (z0p (top 14)) (z07 (top 14)) .none kV7 dc7 pm7 an7 cd7 ct7),sl7⟩) (c7:PySem.W.codeIn K cd7 "one_thing_more" = true) (k7:PySem.W.keepIn K (.ref f7)=true)
    (a8:PySem.W.nsIn K mainGlobals "all_sorts" = some (some (.ref f8)))
    (l8:K.lookup f8=some ⟨oc8,od8,.func (PySem.W.fnOf "all_sorts" "all_sorts" (z0r (top 15)) (z0p (top 15)) (z07 (top 15)) .none kV8 dc8 pm8 an8 cd8 ct8),sl8⟩) (c8:PySem.W.codeIn K cd8 "all_sorts" = true) (k8:PySem.W.keepIn K (.ref f8)=true)
    (a9:PySem.W.nsIn K mainGlobals "sorts_that_fit" = some (some (.ref f9)))
    (l9:K.lookup f9=some ⟨oc9,od9,.func (PySem.W.fnOf "sorts_that_fit" "sorts_that_fit" (z0r (top 27)) (z0p (top 27)) (z07 (top 27)) .none kV9 dc9 pm9 an9 cd9 ct9),sl9⟩) (c9:PySem.W.codeIn K cd9 "sorts_that_fit" = true) (k9:PySem.W.keepIn K (.ref f9)=true)
    (a10:PySem.W.nsIn K mainGlobals "alike_things" = some (some (.ref f10)))
    (l10:K.lookup f10=some ⟨oc10,od10,.func (PySem.W.fnOf "alike_things" "alike_things" (z0r (top 12)) (z0p (top 12)) (z07 (top 12)) .none kV10 dc10 pm10 an10 cd10 ct10),sl10⟩) (c10:PySem.W.codeIn K cd10 "alike_things" = true) (k10:PySem.W.keepIn K (.ref f10)=true)
    (a11:PySem.W.nsIn K mainGlobals "most_are" = some (some (.ref f11)))
    (l11:K.lookup f11=some ⟨oc11,od11,.func (PySem.W.fnOf "most_are" "most_are" (z0r (top 13)) (z0p (top 13)) (z07 (top 13)) .none kV11 dc11 pm11 an11 cd11 ct11),sl11⟩) (c11:PySem.W.codeIn K cd11 "most_are" = true) (k11:PySem.W.keepIn K (.ref f11)=true)
    (a12:PySem.W.nsIn K mainGlobals "most_ends" = some (some (.ref f12)))
    (l12:K.lookup f12=some ⟨oc12,od12,.func (PySem.W.fnOf "most_ends" "most_ends" (z0r (top 18)) (z0p (top 18)) (z07 (top 18)) .none kV12 dc12 pm12 an12 cd12 ct12),sl12⟩) (c12:PySem.W.codeIn K cd12 "most_ends" = true) (k12:PySem.W.keepIn K (.ref f12)=true)
    (a13:PySem.W.nsIn K mainGlobals "common_end" = some (some (.ref f13)))
    (l13:K.lookup f13=some ⟨oc13,od13,.func (PySem.W.fnOf "common_end" "common_end" (z0r (top 19)) (z0p (top 19)) (z07 (top 19)) .none kV13 dc13 pm13 an13 cd13 ct13),sl13⟩) (c13:PySem.W.codeIn K cd13 "common_end" = true) (k13:PySem.W.keepIn K (.ref f13)=true)
    (a14:PySem.W.nsIn K mainGlobals "tells_most" = some (some (.ref f14)))
    (l14:K.lookup f14=some ⟨oc14,od14,.func (PySem.W.fnOf "tells_most" "tells_most" (z0r (top 29)) (z0p (top 29)) (z07 (top 29)) .none kV14 dc14 pm14 an14 cd14 ct14),sl14⟩) (c14:PySem.W.codeIn K cd14 "tells_most" = true) (k14:PySem.W.keepIn K (.ref f14)=true)
    (a15:PySem.W.nsIn K mainGlobals "_law_cell_at" = some (some (.ref f15)))
    (l15:K.lookup f15=some ⟨oc15,od15,.func (PySem.W.fnOf "_law_cell_at" "_law_cell_at" (z0r (top 31)) (z0p (top 31)) (z07 (top 31)) .none kV15 dc15 pm15 an15 cd15 ct15),sl15⟩) (c15:PySem.W.codeIn K cd15 "_law_cell_at" = true) (k15:PySem.W.keepIn K (.ref f15)=true)
    (a16:PySem.W.nsIn K mainGlobals "_law_deck" = some (some (.ref f16)))
    (l16:K.lookup f16=some ⟨oc16,od16,.func (PySem.W.fnOf "_law_deck" "_law_deck" (z0r (top 32)) (z0p (top 32)) (z07 (top 32)) .none kV16 dc16 pm16 an16 cd16 ct16),sl16⟩) (c16:PySem.W.codeIn K cd16 "_law_deck" = true) (k16:PySem.W.keepIn K (.ref f16)=true)
    (a17:PySem.W.nsIn K mainGlobals "_law_take" = some (some (.ref f17)))
    (l17:K.lookup f17=some ⟨oc17,od17,.func (PySem.W.fnOf "_law_take" "_law_take" (z0r (top 33)) (z0p (top 33)) (z07 (top 33)) .none kV17 dc17 pm17 an17 cd17 ct17),sl17⟩) (c17:PySem.W.codeIn K cd17 "_law_take" = true) (k17:PySem.W.keepIn K (.ref f17)=true)
    (a18:PySem.W.nsIn K mainGlobals "_law_answers" = some (some (.ref f18)))
    (l18:K.lookup f18=some ⟨oc18,od18,.func (PySem.W.fnOf "_law_answers" "_law_answers" (z0r (top 34)) (z0p (top 34)) (z07 (top 34)) .none kV18 dc18 pm18 an18 cd18 ct18),sl18⟩) (c18:PySem.W.codeIn K cd18 "_law_answers" = true) (k18:PySem.W.keepIn K (.ref f18)=true)
    (a19:PySem.W.nsIn K mainGlobals "_law_all_sorts" = some (some (.ref f19)))
    (l19:K.lookup f19=some ⟨oc19,od19,.func (PySem.W.fnOf "_law_all_sorts" "_law_all_sorts" (z0r (top 35)) (z0p (top 35)) (z07 (top 35)) .none kV19 dc19 pm19 an19 cd19 ct19),sl19⟩) (c19:PySem.W.codeIn K cd19 "_law_all_sorts" = true) (k19:PySem.W.keepIn K (.ref f19)=true)
    (a20:PySem.W.nsIn K mainGlobals "_law_fitting" = some (some (.ref f20)))
    (l20:K.lookup f20=some ⟨oc20,od20,.func (PySem.W.fnOf "_law_fitting" "_law_fitting" (z0r (top 36)) (z0p (top 36)) (z07 (top 36)) .none kV20 dc20 pm20 an20 cd20 ct20),sl20⟩) (c20:PySem.W.codeIn K cd20 "_law_fitting" = true) (k20:PySem.W.keepIn K (.ref f20)=true)
    (a21:PySem.W.nsIn K mainGlobals "_law_kind" = some (some (.ref f21)))
    (l21:K.lookup f21=some ⟨oc21,od21,.func (PySem.W.fnOf "_law_kind" "_law_kind" (z0r (top 37)) (z0p (top 37)) (z07 (top 37)) .none kV21 dc21 pm21 an21 cd21 ct21),sl21⟩) (c21:PySem.W.codeIn K cd21 "_law_kind" = true) (k21:PySem.W.keepIn K (.ref f21)=true)
    (a22:PySem.W.nsIn K mainGlobals "_law_same" = some (some (.ref f22)))
    (l22:K.lookup f22=some ⟨oc22,od22,.func (PySem.W.fnOf "_law_same" "_law_same" (z0r (top 38)) (z0p (top 38)) (z07 (top 38)) .none kV22 dc22 pm22 an22 cd22 ct22),sl22⟩) (c22:PySem.W.codeIn K cd22 "_law_same" = true) (k22:PySem.W.keepIn K (.ref f22)=true)
    (a23:PySem.W.nsIn K mainGlobals "_law_due" = some (some (.ref f23)))
    (l23:K.lookup f23=some ⟨oc23,od23,.func (PySem.W.fnOf "_law_due" "_law_due" (z0r (top 39)) (z0p (top 39)) (z07 (top 39)) .none kV23 dc23 pm23 an23 cd23 ct23),sl23⟩) (c23:PySem.W.codeIn K cd23 "_law_due" = true) (k23:PySem.W.keepIn K (.ref f23)=true)
    (a24:PySem.W.nsIn K mainGlobals "_law_told" = some (some (.ref f24)))
    (l24:K.lookup f24=some ⟨oc24,od24,.func (PySem.W.fnOf "_law_told" "_law_told" (z0r (top 40)) (z0p (top 40)) (z07 (top 40)) .none kV24 dc24 pm24 an24 cd24 ct24),sl24⟩) (c24:PySem.W.codeIn K cd24 "_law_told" = true) (k24:PySem.W.keepIn K (.ref f24)=true)
    (a25:PySem.W.nsIn K mainGlobals "law" = some (some (.ref f25)))
    (l25:K.lookup f25=some ⟨oc25,od25,.func (PySem.W.fnOf "law" "law" (z0r (top 41)) (z0p (top 41)) (z07 (top 41)) .none kV25 dc25 pm25 an25 cd25 ct25),sl25⟩) (c25:PySem.W.codeIn K cd25 "law" = true) (k25:PySem.W.keepIn K (.ref f25)=true)
    {t_MOST_THINGS:Tok} (z_MOST_THINGS:PySem.W.nsIn K mainGlobals "MOST_THINGS" = some (some (.int 7 t_MOST_THINGS)))
    {p_OPEN:Addr} {o_OPEN:Obj} {t_OPEN:Tok} {n_OPEN:Nat} (z_OPEN:PySem.W.nsIn K mainGlobals "OPEN" = some (some (.ref p_OPEN))) (y_OPEN:K.lookup p_OPEN=some o_OPEN) (x_OPEN:o_OPEN.cls=.type "tuple") (w_OPEN:o_OPEN.data=.seq #[.str "open" t_OPEN] n_OPEN)
    (z_all:PySem.W.nsIn K mainGlobals "all" = some none)
    (z_max:PySem.W.nsIn K mainGlobals "max" = some none)
    (z_min:PySem.W.nsIn K mainGlobals "min" = some none)
    (z_range:PySem.W.nsIn K mainGlobals "range" = some none)
    (z_enumerate:PySem.W.nsIn K mainGlobals "enumerate" = some none)
    (z_list:PySem.W.nsIn K mainGlobals "list" = some none)
    (z_len:PySem.W.nsIn K mainGlobals "len" = some none)
    (z_sorted:PySem.W.nsIn K mainGlobals "sorted" = some none)
    (z_int:PySem.W.nsIn K mainGlobals "int" = some none)
    (z_set:PySem.W.nsIn K mainGlobals "set" = some none)
    (z_isinstance:PySem.W.nsIn K mainGlobals "isinstance" = some none)
    (z_ValueError:PySem.W.nsIn K mainGlobals "ValueError" = some none)
    (z_tuple:PySem.W.nsIn K mainGlobals "tuple" = some none)
    (z_str:PySem.W.nsIn K mainGlobals "str" = some none)
    (z_bool:PySem.W.nsIn K mainGlobals "bool" = some none)
    (zc_NoThing:PySem.W.nsIn K mainGlobals "NoThing" = some (some (.ref c_NoThing)))
    (zc_NoFit:PySem.W.nsIn K mainGlobals "NoFit" = some (some (.ref c_NoFit)))
    (zc_TooMany:PySem.W.nsIn K mainGlobals "TooMany" = some (some (.ref c_TooMany)))
    (zc_NoneYet:PySem.W.nsIn K mainGlobals "NoneYet" = some (some (.ref c_NoneYet)))
    (zc_NoText:PySem.W.nsIn K mainGlobals "NoText" = some (some (.ref c_NoText)))
    (zc_NoName:PySem.W.nsIn K mainGlobals "NoName" = some (some (.ref c_NoName)))
    (zc_NoForm:PySem.W.nsIn K mainGlobals "NoForm" = some (some (.ref c_NoForm)))
    (zc_NoAsk:PySem.W.nsIn K mainGlobals "NoAsk" = some (some (.ref c_NoAsk)))
    (zc_HalfError:PySem.W.nsIn K mainGlobals "HalfError" = some (some (.ref c_HalfError)))
    (ks_HalfError:PySem.W.subIn K (.ref c_HalfError) (.type "BaseException")=some true) (kc_HalfError:PySem.W.clsIn K c_HalfError=some cd_c_HalfError) (ky_HalfError:PySem.W.typeIn K (.ref c_HalfError)=some (.type "type"))
    {nm_NoFit qn_NoFit N_NoFit bs_NoFit bm_NoFit hd_NoFit sn_NoFit su_NoFit ab_NoFit co_NoFit dd_NoFit k0_NoFit k1_NoFit k2_NoFit k3_NoFit k5_NoFit:_} (el_NoFit:K.lookup c_NoFit=some (excClassObj nm_NoFit qn_NoFit c_NoFit N_NoFit bs_NoFit bm_NoFit hd_NoFit sn_NoFit su_NoFit ab_NoFit co_NoFit dd_NoFit k0_NoFit k1_NoFit k2_NoFit k3_NoFit k5_NoFit "ValueError.__new__")) (et_NoFit:PySem.W.tailIn K zpn bm_NoFit=true) (en_NoFit:PySem.W.nsOkIn K N_NoFit=true) (ez_NoFit:PySem.W.nsIn K N_NoFit "__init__" = some none)
    (xhga_NoFit:PySem.W.findIn K (.ref c_NoFit) "__getattribute__" = some (some (.builtin "BaseException.__getattribute__")))
    (xhgn_NoFit:PySem.W.findIn K (.ref c_NoFit) "__getattr__" = some none)
    (xhmB_NoFit:PySem.W.mroIn K c_NoFit (.type "BaseException")=some true)
    (xha_NoFit:PySem.W.findIn K (.ref c_NoFit) "__class__" = some (some (.builtin "object.__class__")))
    (xhn_NoFit:PySem.W.specialIn K (.builtin "object.__class__") "__get__" = some (some (.builtin "getset_descriptor.__get__")))
    (xhtk_NoFit:PySem.W.takesIn K (.builtin "object.__class__")=some true)
    (xhm_NoFit:PySem.W.mroIn K c_NoFit (.type "object")=some true)
    (xcls_NoFit:PySem.W.clsIn K c_NoFit=some cd_c_NoFit)
    (kq_TooMany_NoFit:PySem.W.kitOne K (.ref c_NoFit) (.ref c_TooMany)=some false)
    (kq_NoFit_NoFit:PySem.W.kitOne K (.ref c_NoFit) (.ref c_NoFit)=some true)
    (kq_NoThing_NoFit:PySem.W.kitOne K (.ref c_NoFit) (.ref c_NoThing)=some false)
    (kq_NoneYet_NoFit:PySem.W.kitOne K (.ref c_NoFit) (.ref c_NoneYet)=some false)
    (kq_NoText_NoFit:PySem.W.kitOne K (.ref c_NoFit) (.ref c_NoText)=some false)
    (kq_NoName_NoFit:PySem.W.kitOne K (.ref c_NoFit) (.ref c_NoName)=some false)
    (kq_NoForm_NoFit:PySem.W.kitOne K (.ref c_NoFit) (.ref c_NoForm)=some false)
    (kq_NoAsk_NoFit:PySem.W.kitOne K (.ref c_NoFit) (.ref c_NoAsk)=some false)
    (kq_ValueError_NoFit:PySem.W.kitOne K (.ref c_NoFit) (.type "ValueError")=some true)
    (kt_HalfError_NoFit:PySem.W.subIn K (.ref c_NoFit) (.ref c_HalfError)=some true)
    {nm_NoThing qn_NoThing N_NoThing bs_NoThing bm_NoThing hd_NoThing sn_NoThing su_NoThing ab_NoThing co_NoThing dd_NoThing k0_NoThing k1_NoThing k2_NoThing k3_NoThing k5_NoThing:_} (el_NoThing:K.lookup c_NoThing=some (excClassObj nm_NoThing qn_NoThing c_NoThing N_NoThing bs_NoThing bm_NoThing hd_NoThing sn_NoThing su_NoThing ab_NoThing co_NoThing dd_NoThing k0_NoThing k1_NoThing k2_NoThing k3_NoThing k5_NoThing "ValueError.__new__")) (et_NoThing:PySem.W.tailIn K zpn bm_NoThing=true) (en_NoThing:PySem.W.nsOkIn K N_NoThing=true) (ez_NoThing:PySem.W.nsIn K N_NoThing "__init__" = some none)
    (xhga_NoThing:PySem.W.findIn K (.ref c_NoThing) "__getattribute__" = some (some (.builtin "BaseException.__getattribute__")))
    (xhgn_NoThing:PySem.W.findIn K (.ref c_NoThing) "__getattr__" = some none)
    (xhmB_NoThing:PySem.W.mroIn K c_NoThing (.type "BaseException")=some true)
    (xha_NoThing:PySem.W.findIn K (.ref c_NoThing) "__class__" = some (some (.builtin "object.__class__")))
    (xhn_NoThing:PySem.W.specialIn K (.builtin "object.__class__") "__get__" = some (some (.builtin "getset_descriptor.__get__")))
    (xhtk_NoThing:PySem.W.takesIn K (.builtin "object.__class__")=some true)
    (xhm_NoThing:PySem.W.mroIn K c_NoThing (.type "object")=some true)
    (xcls_NoThing:PySem.W.clsIn K c_NoThing=some cd_c_NoThing)
    (kq_TooMany_NoThing:PySem.W.kitOne K (.ref c_NoThing) (.ref c_TooMany)=some false)
    (kq_NoFit_NoThing:PySem.W.kitOne K (.ref c_NoThing) (.ref c_NoFit)=some false)
    (kq_NoThing_NoThing:PySem.W.kitOne K (.ref c_NoThing) (.ref c_NoThing)=some true)
    (kq_NoneYet_NoThing:PySem.W.kitOne K (.ref c_NoThing) (.ref c_NoneYet)=some false)
    (kq_NoText_NoThing:PySem.W.kitOne K (.ref c_NoThing) (.ref c_NoText)=some false)
    (kq_NoName_NoThing:PySem.W.kitOne K (.ref c_NoThing) (.ref c_NoName)=some false)
    (kq_NoForm_NoThing:PySem.W.kitOne K (.ref c_NoThing) (.ref c_NoForm)=some false)
    (kq_NoAsk_NoThing:PySem.W.kitOne K (.ref c_NoThing) (.ref c_NoAsk)=some false)
    (kq_ValueError_NoThing:PySem.W.kitOne K (.ref c_NoThing) (.type "ValueError")=some true)
    (kt_HalfError_NoThing:PySem.W.subIn K (.ref c_NoThing) (.ref c_HalfError)=some true)
    {nm_TooMany qn_TooMany N_TooMany bs_TooMany bm_TooMany hd_TooMany sn_TooMany su_TooMany ab_TooMany co_TooMany dd_TooMany k0_TooMany k1_TooMany k2_TooMany k3_TooMany k5_TooMany:_} (el_TooMany:K.lookup c_TooMany=some (excClassObj nm_TooMany qn_TooMany c_TooMany N_TooMany bs_TooMany bm_TooMany hd_TooMany sn_TooMany su_TooMany ab_TooMany co_TooMany dd_TooMany k0_TooMany k1_TooMany k2_TooMany k3_TooMany k5_TooMany "ValueError.__new__")) (et_TooMany:PySem.W.tailIn K zpn bm_TooMany=true) (en_TooMany:PySem.W.nsOkIn K N_TooMany=true) (ez_TooMany:PySem.W.nsIn K N_TooMany "__init__" = some none)
    (xhga_TooMany:PySem.W.findIn K (.ref c_TooMany) "__getattribute__" = some (some (.builtin "BaseException.__getattribute__")))
    (xhgn_TooMany:PySem.W.findIn K (.ref c_TooMany) "__getattr__" = some none)
    (xhmB_TooMany:PySem.W.mroIn K c_TooMany (.type "BaseException")=some true)
    (xha_TooMany:PySem.W.findIn K (.ref c_TooMany) "__class__" = some (some (.builtin "object.__class__")))
    (xhn_TooMany:PySem.W.specialIn K (.builtin "object.__class__") "__get__" = some (some (.builtin "getset_descriptor.__get__")))
    (xhtk_TooMany:PySem.W.takesIn K (.builtin "object.__class__")=some true)
    (xhm_TooMany:PySem.W.mroIn K c_TooMany (.type "object")=some true)
    (xcls_TooMany:PySem.W.clsIn K c_TooMany=some cd_c_TooMany)
    (kq_TooMany_TooMany:PySem.W.kitOne K (.ref c_TooMany) (.ref c_TooMany)=some true)
    (kq_NoFit_TooMany:PySem.W.kitOne K (.ref c_TooMany) (.ref c_NoFit)=some false)
    (kq_NoThing_TooMany:PySem.W.kitOne K (.ref c_TooMany) (.ref c_NoThing)=some false)
    (kq_NoneYet_TooMany:PySem.W.kitOne K (.ref c_TooMany) (.ref c_NoneYet)=some false)
    (kq_NoText_TooMany:PySem.W.kitOne K (.ref c_TooMany) (.ref c_NoText)=some false)
    (kq_NoName_TooMany:PySem.W.kitOne K (.ref c_TooMany) (.ref c_NoName)=some false)
    (kq_NoForm_TooMany:PySem.W.kitOne K (.ref c_TooMany) (.ref c_NoForm)=some false)
    (kq_NoAsk_TooMany:PySem.W.kitOne K (.ref c_TooMany) (.ref c_NoAsk)=some false)
    (kq_ValueError_TooMany:PySem.W.kitOne K (.ref c_TooMany) (.type "ValueError")=some true)
    (kt_HalfError_TooMany:PySem.W.subIn K (.ref c_TooMany) (.ref c_HalfError)=some true) :
    ∃ fd:FuncData,(∀ (s:Shared) (v:Value),BindsTo s fd ⟨[v],[]⟩ [("script",v)])∧∀ base:Heap,K.In base→base.Ns mainGlobals mg→FnOk l.prog w K mg base CX0 12 fa fd ["script"] (zji K):=by
  have e:=hfa.symm.trans (PySem.W.mg_of X G a25)
  cases e
  have F1:=z1a (st:=(top 21)) l1 c1 k1
  have b1:=F1.binds (ps:=["many", "answers"]) fun _ _ _ _ _ _ us hl=>zcl us hl fun _ _=>rfl
  have g1:=PySem.W.mg_of X G a1
  have F2:=z1a (st:=(top 22)) l2 c2 k2
  have b2:=F2.binds (ps:=["homes", "old", "new"]) fun _ _ _ _ _ _ us hl=>zve us hl fun _ _ _=>rfl
  have g2:=PySem.W.mg_of X G a2
  have F3:=z1a (st:=(top 23)) l3 c3 k3
  have b3:=F3.binds (ps:=["answers"]) fun _ _ _ _ _ _ us hl=>zm6 us hl fun _=>rfl
  have g3:=PySem.W.mg_of X G a3
  have F4:=z1a (st:=(top 24)) l4 c4 k4
  have b4:=F4.binds (ps:=["many", "answers"]) fun _ _ _ _ _ _ us hl=>zcl us hl fun _ _=>rfl
  have g4:=PySem.W.mg_of X G a4
  have F5:=z1a (st:=(top 25)) l5 c5 k5
  have b5:=F5.binds (ps:=["many", "answers"]) fun _ _ _ _ _ _ us hl=>zcl us hl fun _ _=>rfl
  have g5:=PySem.W.mg_of X G a5
  have F6:=z1a (st:=(top 26)) l6 c6 k6
  have b6:=F6.binds (ps:=["kinds", "answers"]) fun _ _ _ _ _ _ us hl=>zcl us hl fun _ _=>rfl
  have g6:=PySem.W.mg_of X G a6
  have F7:=z1a (st:=(top 14)) l7 c7 k7
  have b7:=F7.binds (ps:=["sort", "most"]) fun _ _ _ _ _ _ us hl=>zcl us hl fun _ _=>rfl
  have g7:=PySem.W.mg_of X G a7
  have F8:=z1a (st:=(top 15)) l8 c8 k8
  have b8:=F8.binds (ps:=["many", "most"]) fun _ _ _ _ _ _ us hl=>zcl us hl fun _ _=>rfl
  have g8:=PySem.W.mg_of X G a8
  have F9:=z1a (st:=(top 27)) l9 c9 k9
  have b9:=F9.binds (ps:=["many", "answers"]) fun _ _ _ _ _ _ us hl=>zcl us hl fun _ _=>rfl
  have g9:=PySem.W.mg_of X G a9
  have F10:=z1a (st:=(top 12)) l10 c10 k10
  have b10:=F10.binds (ps:=["kinds"]) fun _ _ _ _ _ _ us hl=>zm6 us hl fun _=>rfl
  have g10:=PySem.W.mg_of X G a10
  have F11:=z1a (st:=(top 13)) l11 c11 k11
  have b11:=F11.binds (ps:=["kinds"]) fun _ _ _ _ _ _ us hl=>zm6 us hl fun _=>rfl
  have g11:=PySem.W.mg_of X G a11
  have F12:=z1a (st:=(top 18)) l12 c12 k12
  have b12:=F12.binds (ps:=["kinds"]) fun _ _ _ _ _ _ us hl=>zm6 us hl fun _=>rfl
  have g12:=PySem.W.mg_of X G a12
  have F13:=z1a (st:=(top 19)) l13 c13 k13
  have b13:=F13.binds (ps:=["ends"]) fun _ _ _ _ _ _ us hl=>zm6 us hl fun _=>rfl
  have g13:=PySem.W.mg_of X G a13
  have F14:=z1a (st:=(top 29)) l14 c14 k14
  have b14:=F14.binds (ps:=["many", "answers"]) fun _ _ _ _ _ _ us hl=>zcl us hl fun _ _=>rfl
  have g14:=PySem.W.mg_of X G a14
  have F15:=z1a (st:=(top 31)) l15 c15 k15
  have b15:=F15.binds (ps:=["script", "k"]) fun _ _ _ _ _ _ us hl=>zcl us hl fun _ _=>rfl
  have g15:=PySem.W.mg_of X G a15
  have F16:=z1a (st:=(top 32)) l16 c16 k16
  have b16:=F16.binds (ps:=["cell"]) fun _ _ _ _ _ _ us hl=>zm6 us hl fun _=>rfl
  have g16:=PySem.W.mg_of X G a16
  have F17:=z1a (st:=(top 33)) l17 c17 k17
  have b17:=F17.binds (ps:=["deck", "many"]) fun _ _ _ _ _ _ us hl=>zcl us hl fun _ _=>rfl
  have g17:=PySem.W.mg_of X G a17
  have F18:=z1a (st:=(top 34)) l18 c18 k18
  have b18:=F18.binds (ps:=["deck", "many"]) fun _ _ _ _ _ _ us hl=>zcl us hl fun _ _=>rfl
  have g18:=PySem.W.mg_of X G a18
  have F19:=z1a (st:=(top 35)) l19 c19 k19
  have b19:=F19.binds (ps:=["many"]) fun _ _ _ _ _ _ us hl=>zm6 us hl fun _=>rfl
  have g19:=PySem.W.mg_of X G a19
  have F20:=z1a (st:=(top 36)) l20 c20 k20
  have b20:=F20.binds (ps:=["many", "answers"]) fun _ _ _ _ _ _ us hl=>zcl us hl fun _ _=>rfl
  have g20:=PySem.W.mg_of X G a20
  have F21:=z1a (st:=(top 37)) l21 c21 k21
  have b21:=F21.binds (ps:=["caught"]) fun _ _ _ _ _ _ us hl=>zm6 us hl fun _=>rfl
  have g21:=PySem.W.mg_of X G a21
  have F22:=z1a (st:=(top 38)) l22 c22 k22
  have b22:=F22.binds (ps:=["found", "due"]) fun _ _ _ _ _ _ us hl=>zcl us hl fun _ _=>rfl
  have g22:=PySem.W.mg_of X G a22
  have F23:=z1a (st:=(top 39)) l23 c23 k23
  have b23:=F23.binds (ps:=["many", "answers"]) fun _ _ _ _ _ _ us hl=>zcl us hl fun _ _=>rfl
  have g23:=PySem.W.mg_of X G a23
  have F24:=z1a (st:=(top 40)) l24 c24 k24
  have b24:=F24.binds (ps:=["many", "answers"]) fun _ _ _ _ _ _ us hl=>zcl us hl fun _ _=>rfl
  have g24:=PySem.W.mg_of X G a24
  have F25:=z1a (st:=(top 41)) l25 c25 k25
  have m_all:=PySem.W.mg_none_of X G z_all
  have m_max:=PySem.W.mg_none_of X G z_max
  have m_min:=PySem.W.mg_none_of X G z_min
  have m_range:=PySem.W.mg_none_of X G z_range
  have m_enumerate:=PySem.W.mg_none_of X G z_enumerate
  have m_list:=PySem.W.mg_none_of X G z_list
  have m_len:=PySem.W.mg_none_of X G z_len
  have m_sorted:=PySem.W.mg_none_of X G z_sorted
  have m_int:=PySem.W.mg_none_of X G z_int
  have m_set:=PySem.W.mg_none_of X G z_set
  have m_isinstance:=PySem.W.mg_none_of X G z_isinstance
  have m_ValueError:=PySem.W.mg_none_of X G z_ValueError
  have m_tuple:=PySem.W.mg_none_of X G z_tuple
  have m_str:=PySem.W.mg_none_of X G z_str
  have m_bool:=PySem.W.mg_none_of X G z_bool
  have g_MOST_THINGS:mg "MOST_THINGS" = some (.int 7 t_MOST_THINGS)∧RelV (.int 7) (.int 7 t_MOST_THINGS)∧∀ W,DR K W (.int 7) (.int 7):=⟨PySem.W.mg_of X G z_MOST_THINGS,⟨_,rfl⟩,fun _=>.int _⟩
  have g_OPEN:mg "OPEN" = some (.ref p_OPEN)∧RelV (.ref p_OPEN) (.ref p_OPEN)∧∀ W,DR K W (.gt [.str "open"]) (.ref p_OPEN):=⟨PySem.W.mg_of X G z_OPEN,rfl,fun _=>.gt (vs:=[.str "open"]) (.inr ⟨o_OPEN,_,n_OPEN,y_OPEN,x_OPEN,w_OPEN,(show 1≤sizeLine from z39 (by decide)),.cons ⟨t_OPEN,rfl⟩ .nil⟩) (.cons (.str _) .nil)⟩
  have ei_NoFit:ExcIn K c_NoFit:=⟨xhga_NoFit,xhgn_NoFit,xhmB_NoFit,xha_NoFit,xhn_NoFit,xhtk_NoFit,xhm_NoFit,by rw [xcls_NoFit];rfl⟩
  have ei_NoThing:ExcIn K c_NoThing:=⟨xhga_NoThing,xhgn_NoThing,xhmB_NoThing,xha_NoThing,xhn_NoThing,xhtk_NoThing,xhm_NoThing,by rw [xcls_NoThing];rfl⟩
  have ei_TooMany:ExcIn K c_TooMany:=⟨xhga_TooMany,xhgn_TooMany,xhmB_TooMany,xha_TooMany,xhn_TooMany,xhtk_TooMany,xhm_TooMany,by rw [xcls_TooMany];rfl⟩
  have e_NoThing:mg "NoThing" = some (.ref c_NoThing)∧z3d K c_NoThing:=⟨PySem.W.mg_of X G zc_NoThing,_,_,_,_,_,_,_,_,_,_,_,_,_,_,_,_,el_NoThing,et_NoThing,en_NoThing,ez_NoThing⟩
  have e_NoFit:mg "NoFit" = some (.ref c_NoFit)∧z3d K c_NoFit:=⟨PySem.W.mg_of X G zc_NoFit,_,_,_,_,_,_,_,_,_,_,_,_,_,_,_,_,el_NoFit,et_NoFit,en_NoFit,ez_NoFit⟩
  have e_TooMany:mg "TooMany" = some (.ref c_TooMany)∧z3d K c_TooMany:=⟨PySem.W.mg_of X G zc_TooMany,_,_,_,_,_,_,_,_,_,_,_,_,_,_,_,_,el_TooMany,et_TooMany,en_TooMany,ez_TooMany⟩
  have i_TooMany:mg "TooMany" = some (.ref c_TooMany)∧IsX K (.ref c_TooMany) (qOf K (.ref c_TooMany)):=⟨PySem.W.mg_of X G zc_TooMany,z9h rfl⟩
  have fq_TooMany_NoFit:(qOf K (.ref c_TooMany)) c_NoFit=some false:=z5o ei_NoFit kq_TooMany_NoFit
  have fq_TooMany_NoThing:(qOf K (.ref c_TooMany)) c_NoThing=some false:=z5o ei_NoThing kq_TooMany_NoThing
  have fq_TooMany_TooMany:(qOf K (.ref c_TooMany)) c_TooMany=some true:=z5o ei_TooMany kq_TooMany_TooMany
  have i_NoFit:mg "NoFit" = some (.ref c_NoFit)∧IsX K (.ref c_NoFit) (qOf K (.ref c_NoFit)):=⟨PySem.W.mg_of X G zc_NoFit,z9h rfl⟩
  have fq_NoFit_NoFit:(qOf K (.ref c_NoFit)) c_NoFit=some true:=z5o ei_NoFit kq_NoFit_NoFit
  have fq_NoFit_NoThing:(qOf K (.ref c_NoFit)) c_NoThing=some false:=z5o ei_NoThing kq_NoFit_NoThing
  have fq_NoFit_TooMany:(qOf K (.ref c_NoFit)) c_TooMany=some false:=z5o ei_TooMany kq_NoFit_TooMany
  have i_NoThing:mg "NoThing" = some (.ref c_NoThing)∧IsX K (.ref c_NoThing) (qOf K (.ref c_NoThing)):=⟨PySem.W.mg_of X G zc_NoThing,z9h rfl⟩
  have fq_NoThing_NoFit:(qOf K (.ref c_NoThing)) c_NoFit=some false:=z5o ei_NoFit kq_NoThing_NoFit
  have fq_NoThing_NoThing:(qOf K (.ref c_NoThing)) c_NoThing=some true:=z5o ei_NoThing kq_NoThing_NoThing
  have fq_NoThing_TooMany:(qOf K (.ref c_NoThing)) c_TooMany=some false:=z5o ei_TooMany kq_NoThing_TooMany
  have i_NoneYet:mg "NoneYet" = some (.ref c_NoneYet)∧IsX K (.ref c_NoneYet) (qOf K (.ref c_NoneYet)):=⟨PySem.W.mg_of X G zc_NoneYet,z9h rfl⟩
  have fq_NoneYet_NoFit:(qOf K (.ref c_NoneYet)) c_NoFit=some false:=z5o ei_NoFit kq_NoneYet_NoFit
  have fq_NoneYet_NoThing:(qOf K (.ref c_NoneYet)) c_NoThing=some false:=z5o ei_NoThing kq_NoneYet_NoThing
  have fq_NoneYet_TooMany:(qOf K (.ref c_NoneYet)) c_TooMany=some false:=z5o ei_TooMany kq_NoneYet_TooMany
  have i_NoText:mg "NoText" = some (.ref c_NoText)∧IsX K (.ref c_NoText) (qOf K (.ref c_NoText)):=⟨PySem.W.mg_of X G zc_NoText,z9h rfl⟩
  have fq_NoText_NoFit:(qOf K (.ref c_NoText)) c_NoFit=some false:=z5o ei_NoFit kq_NoText_NoFit
  have fq_NoText_NoThing:(qOf K (.ref c_NoText)) c_NoThing=some false:=z5o ei_NoThing kq_NoText_NoThing
  have fq_NoText_TooMany:(qOf K (.ref c_NoText)) c_TooMany=some false:=z5o ei_TooMany kq_NoText_TooMany
  have i_NoName:mg "NoName" = some (.ref c_NoName)∧IsX K (.ref c_NoName) (qOf K (.ref c_NoName)):=⟨PySem.W.mg_of X G zc_NoName,z9h rfl⟩
  have fq_NoName_NoFit:(qOf K (.ref c_NoName)) c_NoFit=some false:=z5o ei_NoFit kq_NoName_NoFit
  have fq_NoName_NoThing:(qOf K (.ref c_NoName)) c_NoThing=some false:=z5o ei_NoThing kq_NoName_NoThing
  have fq_NoName_TooMany:(qOf K (.ref c_NoName)) c_TooMany=some false:=z5o ei_TooMany kq_NoName_TooMany
  have i_NoForm:mg "NoForm" = some (.ref c_NoForm)∧IsX K (.ref c_NoForm) (qOf K (.ref c_NoForm)):=⟨PySem.W.mg_of X G zc_NoForm,z9h rfl⟩
  have fq_NoForm_NoFit:(qOf K (.ref c_NoForm)) c_NoFit=some false:=z5o ei_NoFit kq_NoForm_NoFit
  have fq_NoForm_NoThing:(qOf K (.ref c_NoForm)) c_NoThing=some false:=z5o ei_NoThing kq_NoForm_NoThing
  have fq_NoForm_TooMany:(qOf K (.ref c_NoForm)) c_TooMany=some false:=z5o ei_TooMany kq_NoForm_TooMany
  have i_NoAsk:mg "NoAsk" = some (.ref c_NoAsk)∧IsX K (.ref c_NoAsk) (qOf K (.ref c_NoAsk)):=⟨PySem.W.mg_of X G zc_NoAsk,z9h rfl⟩
  have fq_NoAsk_NoFit:(qOf K (.ref c_NoAsk)) c_NoFit=some false:=z5o ei_NoFit kq_NoAsk_NoFit
  have fq_NoAsk_NoThing:(qOf K (.ref c_NoAsk)) c_NoThing=some false:=z5o ei_NoThing kq_NoAsk_NoThing
  have fq_NoAsk_TooMany:(qOf K (.ref c_NoAsk)) c_TooMany=some false:=z5o ei_TooMany kq_NoAsk_TooMany
  have i_ValueError:IsX K (.ty "ValueError") (qOf K (.type "ValueError")):=z9h rfl
  have fq_ValueError_NoFit:(qOf K (.type "ValueError")) c_NoFit=some true:=z5o ei_NoFit kq_ValueError_NoFit
  have fq_ValueError_NoThing:(qOf K (.type "ValueError")) c_NoThing=some true:=z5o ei_NoThing kq_ValueError_NoThing
  have fq_ValueError_TooMany:(qOf K (.type "ValueError")) c_TooMany=some true:=z5o ei_TooMany kq_ValueError_TooMany
  have t_HalfError:mg "HalfError" = some (.ref c_HalfError)∧∀ C∈([c_NoFit,c_NoThing,c_TooMany]:List Addr),PySem.W.exmOne K (.ref C) (.ref c_HalfError)=some true:=⟨PySem.W.mg_of X G zc_HalfError,fun C hC=>by
    simp only [List.mem_cons,List.not_mem_nil,or_false] at hC
    rcases hC with rfl | rfl | rfl
    · exact zi2 ks_HalfError kc_HalfError ky_HalfError kt_HalfError_NoFit
    · exact zi2 ks_HalfError kc_HalfError ky_HalfError kt_HalfError_NoThing
    · exact zi2 ks_HalfError kc_HalfError ky_HalfError kt_HalfError_TooMany⟩
  refine ⟨PySem.W.fnOf "law" "law" (z0r (top 41)) (z0p (top 41)) (z07 (top 41)) .none kV25 dc25 pm25 an25 cd25 ct25,fun s v=>.of_eq rfl,fun base _ _=>?_⟩
  have D_check_things:DfX l.prog w K mg base 1 "check_things" ["many", "answers"] (spX K (z1g c_NoThing)):=⟨_,_,z73 F1 e_NoThing,b1,k1,g1⟩
  have D_moved:Df l.prog w K mg base 1 "moved" ["homes", "old", "new"] (spM K (z1w)):=⟨_,_,zkg F2,b2,k2,g2⟩
  have D_homes_of:Df l.prog w K mg base 2 "homes_of" ["answers"] (spM K (z1p z1w)):=⟨_,_,zce F3 (D_moved) (by omega),b3,k3,g3⟩
  have D_can_be:DfX l.prog w K mg base 3 "can_be" ["many", "answers"] (spX K (zci c_NoThing)):=⟨_,_,zh0 F4 (D_homes_of) (by omega) (D_check_things) (by omega) m_all,b4,k4,g4⟩
  have D_check_right:DfX l.prog w K mg base 4 "check_right" ["many", "answers"] (spX K (z9f c_NoThing c_NoFit)):=⟨_,_,z86 F5 (D_can_be) (by omega) e_NoFit,b5,k5,g5⟩
  have D_fits:Df l.prog w K mg base 1 "fits" ["kinds", "answers"] (spM K (z45)):=⟨_,_,zo1 F6,b6,k6,g6⟩
  have D_one_thing_more:Df l.prog w K mg base 1 "one_thing_more" ["sort", "most"] (spM K (z0f)):=⟨_,_,z5q F7 m_max m_min m_range,b7,k7,g7⟩
  have D_all_sorts:DfX l.prog w K mg base 2 "all_sorts" ["many", "most"] (spX K (z1q z0f (.int 7) c_TooMany)):=⟨_,_,zao F8 (D_one_thing_more) (by omega) g_MOST_THINGS e_TooMany m_range,b8,k8,g8⟩
  have D_sorts_that_fit:DfX l.prog w K mg base 5 "sorts_that_fit" ["many", "answers"] (spX K (z88 c_NoThing c_NoFit c_TooMany)):=⟨_,_,z5p F9 (D_fits) (by omega) (D_check_right) (by omega) (D_all_sorts) (by omega),b9,k9,g9⟩
  have D_alike_things:Df l.prog w K mg base 1 "alike_things" ["kinds"] (spM K (z11)):=⟨_,_,z74 F10 m_enumerate m_list,b10,k10,g10⟩
  have D_most_are:Df l.prog w K mg base 2 "most_are" ["kinds"] (spM K (z61)):=⟨_,_,zc8 F11 (D_alike_things) (by omega) m_len m_max,b11,k11,g11⟩
  have D_most_ends:Df l.prog w K mg base 3 "most_ends" ["kinds"] (spM K (z46)):=⟨_,_,zan F12 (D_most_are) (by omega) m_sorted,b12,k12,g12⟩
  have D_common_end:Df l.prog w K mg base 1 "common_end" ["ends"] (spM K (z19 zia)):=⟨_,_,z9a F13 g_OPEN m_all,b13,k13,g13⟩
  have D_tells_most:DfX l.prog w K mg base 6 "tells_most" ["many", "answers"] (spX K (z5r c_NoThing c_NoFit c_TooMany)):=⟨_,_,z98 F14 (D_common_end) (by omega) (D_most_ends) (by omega) (D_sorts_that_fit) (by omega),b14,k14,g14⟩
  have D_law_cell_at:Df l.prog w K mg base 1 "_law_cell_at" ["script", "k"] (spM K (z0u)):=⟨_,_,z84 F15 m_len,b15,k15,g15⟩
  have D_law_deck:Df l.prog w K mg base 1 "_law_deck" ["cell"] (spM K (z1f)):=⟨_,_,zcd F16 m_max,b16,k16,g16⟩
  have D_law_take:Df l.prog w K mg base 1 "_law_take" ["deck", "many"] (spM K (z04)):=⟨_,_,zca F17,b17,k17,g17⟩
  have D_law_answers:Df l.prog w K mg base 2 "_law_answers" ["deck", "many"] (spM K (zs5)):=⟨_,_,z85 F18 (D_law_take) (by omega) m_range m_int,b18,k18,g18⟩
  have D_law_all_sorts:Df l.prog w K mg base 1 "_law_all_sorts" ["many"] (spM K (z0i)):=⟨_,_,z69 F19 m_range m_len m_set,b19,k19,g19⟩
  have D_law_fitting:Df l.prog w K mg base 2 "_law_fitting" ["many", "answers"] (spM K (z0y z0i)):=⟨_,_,z83 F20 (D_law_all_sorts) (by omega) m_all,b20,k20,g20⟩
  have D_law_kind:Df l.prog w K mg base 1 "_law_kind" ["caught"] (spM K (z24 (qOf K (.ref c_TooMany)) (qOf K (.ref c_NoFit)) (qOf K (.ref c_NoThing)) (qOf K (.ref c_NoneYet)) (qOf K (.ref c_NoText)) (qOf K (.ref c_NoName)) (qOf K (.ref c_NoForm)) (qOf K (.ref c_NoAsk)) (qOf K (.type "ValueError")))):=⟨_,_,zcc F21 i_TooMany i_NoFit i_NoThing i_NoneYet i_NoText i_NoName i_NoForm i_NoAsk i_ValueError m_isinstance m_ValueError,b21,k21,g21⟩
  have D_law_same:∀ n,Df l.prog w K mg base (1+n) "_law_same" ["found", "due"] (spM K (z1e n)):=fun n=>by
    induction n with
    | zero=>exact ⟨_,_,zoc,b22,k22,g22⟩
    | succ n ih=>exact (show Df l.prog w K mg base (1+n+1) "_law_same" ["found", "due"] (spM K (z1e (n+1))) from ⟨_,_,zcb F22 ih (by omega) m_tuple m_list m_isinstance m_len m_range m_all m_str m_bool m_int,b22,k22,g22⟩)
  have D_law_due:Df l.prog w K mg base 3 "_law_due" ["many", "answers"] (spM K (zj0)):=⟨_,_,zet F23 (D_law_fitting) (by omega) m_list m_range m_max,b23,k23,g23⟩
  have D_law_told:Df l.prog w K mg base 7 "_law_told" ["many", "answers"] (spM K (z8g (z24 (qOf K (.ref c_TooMany)) (qOf K (.ref c_NoFit)) (qOf K (.ref c_NoThing)) (qOf K (.ref c_NoneYet)) (qOf K (.ref c_NoText)) (qOf K (.ref c_NoName)) (qOf K (.ref c_NoForm)) (qOf K (.ref c_NoAsk)) (qOf K (.type "ValueError"))) c_NoThing c_NoFit c_TooMany [c_NoFit,c_NoThing,c_TooMany])):=⟨_,_,zc9 F24 (D_law_kind) (by omega) (D_tells_most) (by omega) t_HalfError,b24,k24,g24⟩
  exact zrk (zre F25 (D_law_cell_at) (by omega) (D_law_deck) (by omega) (D_law_take) (by omega) (D_law_answers) (by omega) (D_law_due) (by omega) (D_law_told) (by omega) (D_law_same 10) (by omega) m_int m_list m_range m_len) (zn6 (C:=c_NoThing) (CF:=c_NoFit) (CT:=c_TooMany) (cs:=[c_NoFit,c_NoThing,c_TooMany]) (by simp) fun μ k hk=>zjt hk fq_TooMany_NoFit fq_NoFit_NoFit fq_NoThing_NoFit fq_NoneYet_NoFit fq_NoText_NoFit fq_NoName_NoFit fq_NoForm_NoFit fq_NoAsk_NoFit fq_ValueError_NoFit)
theorem walk {l:PySem.W.OpenLaw} {q:Program} {loose:List Str} {XP:(Str→Option Value)→Heap→Prop} {YP:World→Heap→Prop} {d:DefRec} {K:Params→PySem.W.Frag} (hn:l.most=some 63) (hdf:d.params.defaults=[])
    (hY:∀ (w:World) (h:Heap),YP w h→(K w.params).In h)
    (F:∀ (w:World) (mg:Str→Option Value) (fa:Addr) (h:Heap),(K w.params).In h→h.Ns mainGlobals mg→mg d.name=some (.ref fa) →
      ∃ fd:FuncData,(∀ (s:Shared) (u:Value),BindsTo s fd ⟨[u],[]⟩ [("script",u)])∧∀ base:Heap,(K w.params).In base→base.Ns mainGlobals mg→FnOk l.prog w (K w.params) mg base CX0 12 fa fd ["script"] (zji (K w.params))) :
    PySem.W.WalkO q loose XP YP l.row.toRowW d [] (fun f vs=>PySem.call f vs) :=
  L2.walk_of (n:=63) (k:=12) (x := "script") (CX:=fun _=>CX0) (sp:=fun w=>zji (K w.params)) hn (by decide) hdf ⟨rfl,by decide,by decide⟩ hY F (fun _ _ a ns hl hO hS=>⟨a,ns,rfl,hO,hS,hl,fun _=>rfl⟩) fun _ _ _ _ _ z=>z
end Law
open PySem PySem.W PyProof.Rows
set_option maxRecDepth 100000 in
set_option maxHeartbeats 0 in
theorem PySem.Challenge.cw_morethanhalf_k33_what_answers_tell_of_mo_holds : PySem.Challenge.rw_morethanhalf_k33_what_answers_tell_of_mo.Holds := by
  w_on;o_law;k_head;(case hw=>w_witness2)
  k_fill
  refine Law.walk (l:=PySem.Challenge.rw_morethanhalf_k33_what_answers_tell_of_mo) rfl rfl (fun w h Y=>PySem.W.kIn_of Y) ?F
  case F =>
    intro w mg fa h KX G hmg
    refine' Law.all_mk KX G hmg ?a1 ?l1 ?c1 ?k1 ?a2 ?l2 ?c2 ?k2 ?a3 ?l3 ?c3 ?k3 ?a4 ?l4 ?c4 ?k4 ?a5 ?l5 ?c5 ?k5 ?a6 ?l6 ?c6 ?k6 ?a7 ?l7 ?c7 ?k7 ?a8 ?l8 ?c8 ?k8 ?a9 ?l9 ?c9 ?k9 ?a10 ?l10 ?c10 ?k10 ?a11 ?l11 ?c11 ?k11 ?a12 ?l12 ?c12 ?k12 ?a13 ?l13 ?c13 ?k13 ?a14 ?l14 ?c14 ?k14 ?a15 ?l15 ?c15 ?k15 ?a16 ?l16 ?c16 ?k16 ?a17 ?l17 ?c17 ?k17 ?a18 ?l18 ?c18 ?k18 ?a19 ?l19 ?c19 ?k19 ?a20 ?l20 ?c20 ?k20 ?a21 ?l21 ?c21 ?k21 ?a22 ?l22 ?c22 ?k22 ?a23 ?l23 ?c23 ?k23 ?a24 ?l24 ?c24 ?k24 ?a25 ?l25 ?c25 ?k25 ?z_MOST_THINGS ?z_OPEN ?y_OPEN ?x_OPEN ?w_OPEN ?z_all ?z_max ?z_min ?z_range ?z_enumerate ?z_list ?z_len ?z_sorted ?z_int ?z_set ?z_isinstance ?z_ValueError ?z_tuple ?z_str ?z_bool ?zc_NoThing ?zc_NoFit ?zc_TooMany ?zc_NoneYet ?zc_NoText ?zc_NoName ?zc_NoForm ?zc_NoAsk ?zc_HalfError ?ks_HalfError ?kc_HalfError ?ky_HalfError ?el_NoFit ?et_NoFit ?en_NoFit ?ez_NoFit ?xhga_NoFit ?xhgn_NoFit ?xhmB_NoFit ?xha_NoFit ?xhn_NoFit ?xhtk_NoFit ?xhm_NoFit ?xcls_NoFit ?kq_TooMany_NoFit ?kq_NoFit_NoFit ?kq_NoThing_NoFit ?kq_NoneYet_NoFit ?kq_NoText_NoFit ?kq_NoName_NoFit ?kq_NoForm_NoFit ?kq_NoAsk_NoFit ?kq_ValueError_NoFit ?kt_HalfError_NoFit ?el_NoThing ?et_NoThing ?en_NoThing ?ez_NoThing ?xhga_NoThing ?xhgn_NoThing ?xhmB_NoThing ?xha_NoThing ?xhn_NoThing ?xhtk_NoThing ?xhm_NoThing ?xcls_NoThing ?kq_TooMany_NoThing ?kq_NoFit_NoThing ?kq_NoThing_NoThing ?kq_NoneYet_NoThing ?kq_NoText_NoThing ?kq_NoName_NoThing ?kq_NoForm_NoThing ?kq_NoAsk_NoThing ?kq_ValueError_NoThing ?kt_HalfError_NoThing ?el_TooMany ?et_TooMany ?en_TooMany ?ez_TooMany ?xhga_TooMany ?xhgn_TooMany ?xhmB_TooMany ?xha_TooMany ?xhn_TooMany ?xhtk_TooMany ?xhm_TooMany ?xcls_TooMany ?kq_TooMany_TooMany ?kq_NoFit_TooMany ?kq_NoThing_TooMany ?kq_NoneYet_TooMany ?kq_NoText_TooMany ?kq_NoName_TooMany ?kq_NoForm_TooMany ?kq_NoAsk_TooMany ?kq_ValueError_TooMany ?kt_HalfError_TooMany
    (case zc_NoThing=>k_is)
    (case zc_NoFit=>k_is)
    (case zc_TooMany=>k_is)
    (case zc_NoneYet=>k_is)
    (case zc_NoText=>k_is)
    (case zc_NoName=>k_is)
    (case zc_NoForm=>k_is)
    (case zc_NoAsk=>k_is)
    (case zc_HalfError=>k_is)
    (case a1=>k_is)
    (case l1=>k_is)
    (case c1=>k_is)
    (case k1=>k_is)
    (case a2=>k_is)
    (case l2=>k_is)
    (case c2=>k_is)
    (case k2=>k_is)
    (case a3=>k_is)
    (case l3=>k_is)
    (case c3=>k_is)
    (case k3=>k_is)
    (case a4=>k_is)
    (case l4=>k_is)
    (case c4=>k_is)
    (case k4=>k_is)
    (case a5=>k_is)
    (case l5=>k_is)
    (case c5=>k_is)
    (case k5=>k_is)
    (case a6=>k_is)
    (case l6=>k_is)
    (case c6=>k_is)
    (case k6=>k_is)
    (case a7=>k_is)
    (case l7=>k_is)
    (case c7=>k_is)
    (case k7=>k_is)
    (case a8=>k_is)
    (case l8=>k_is)
    (case c8=>k_is)
    (case k8=>k_is)
    (case a9=>k_is)
    (case l9=>k_is)
    (case c9=>k_is)
    (case k9=>k_is)
    (case a10=>k_is)
    (case l10=>k_is)
    (case c10=>k_is)
    (case k10=>k_is)
    (case a11=>k_is)
    (case l11=>k_is)
    (case c11=>k_is)
    (case k11=>k_is)
    (case a12=>k_is)
    (case l12=>k_is)
    (case c12=>k_is)
    (case k12=>k_is)
    (case a13=>k_is)
    (case l13=>k_is)
    (case c13=>k_is)
    (case k13=>k_is)
    (case a14=>k_is)
    (case l14=>k_is)
    (case c14=>k_is)
    (case k14=>k_is)
    (case a15=>k_is)
    (case l15=>k_is)
    (case c15=>k_is)
    (case k15=>k_is)
    (case a16=>k_is)
    (case l16=>k_is)
    (case c16=>k_is)
    (case k16=>k_is)
    (case a17=>k_is)
    (case l17=>k_is)
    (case c17=>k_is)
    (case k17=>k_is)
    (case a18=>k_is)
    (case l18=>k_is)
    (case c18=>k_is)
    (case k18=>k_is)
    (case a19=>k_is)
    (case l19=>k_is)
    (case c19=>k_is)
    (case k19=>k_is)
    (case a20=>k_is)
    (case l20=>k_is)
    (case c20=>k_is)
    (case k20=>k_is)
    (case a21=>k_is)
    (case l21=>k_is)
    (case c21=>k_is)
    (case k21=>k_is)
    (case a22=>k_is)
    (case l22=>k_is)
    (case c22=>k_is)
    (case k22=>k_is)
    (case a23=>k_is)
    (case l23=>k_is)
    (case c23=>k_is)
    (case k23=>k_is)
    (case a24=>k_is)
    (case l24=>k_is)
    (case c24=>k_is)
    (case k24=>k_is)
    (case a25=>k_is)
    (case l25=>k_is)
    (case c25=>k_is)
    (case k25=>k_is)
    (case z_MOST_THINGS=>k_is)
    (case z_OPEN=>k_is)
    (case y_OPEN=>k_is)
    (case x_OPEN=>rfl)
    (case w_OPEN=>rfl)
    (case z_all=>k_is)
    (case z_max=>k_is)
    (case z_min=>k_is)
    (case z_range=>k_is)
    (case z_enumerate=>k_is)
    (case z_list=>k_is)
    (case z_len=>k_is)
    (case z_sorted=>k_is)
    (case z_int=>k_is)
    (case z_set=>k_is)
    (case z_isinstance=>k_is)
    (case z_ValueError=>k_is)
    (case z_tuple=>k_is)
    (case z_str=>k_is)
    (case z_bool=>k_is)
    (case ks_HalfError=>k_is)
    (case kc_HalfError=>k_is)
    (case ky_HalfError=>k_is)
    (case el_NoFit=>k_is)
    (case et_NoFit=>kernel_rfl)
    (case en_NoFit=>kernel_rfl)
    (case ez_NoFit=>k_is)
    (case xhga_NoFit=>k_is)
    (case xhgn_NoFit=>k_is)
    (case xhmB_NoFit=>k_is)
    (case xha_NoFit=>k_is)
    (case xhn_NoFit=>k_is)
    (case xhtk_NoFit=>k_is)
    (case xhm_NoFit=>k_is)
    (case xcls_NoFit=>k_is)
    (case kq_TooMany_NoFit=>kit_is)
    (case kq_NoFit_NoFit=>kit_is)
    (case kq_NoThing_NoFit=>kit_is)
    (case kq_NoneYet_NoFit=>kit_is)
    (case kq_NoText_NoFit=>kit_is)
    (case kq_NoName_NoFit=>kit_is)
    (case kq_NoForm_NoFit=>kit_is)
    (case kq_NoAsk_NoFit=>kit_is)
    (case kq_ValueError_NoFit=>kit_is)
    (case kt_HalfError_NoFit=>k_is)
    (case el_NoThing=>k_is)
    (case et_NoThing=>kernel_rfl)
    (case en_NoThing=>kernel_rfl)
    (case ez_NoThing=>k_is)
    (case xhga_NoThing=>k_is)
    (case xhgn_NoThing=>k_is)
    (case xhmB_NoThing=>k_is)
    (case xha_NoThing=>k_is)
    (case xhn_NoThing=>k_is)
    (case xhtk_NoThing=>k_is)
    (case xhm_NoThing=>k_is)
    (case xcls_NoThing=>k_is)
    (case kq_TooMany_NoThing=>kit_is)
    (case kq_NoFit_NoThing=>kit_is)
    (case kq_NoThing_NoThing=>kit_is)
    (case kq_NoneYet_NoThing=>kit_is)
    (case kq_NoText_NoThing=>kit_is)
    (case kq_NoName_NoThing=>kit_is)
    (case kq_NoForm_NoThing=>kit_is)
    (case kq_NoAsk_NoThing=>kit_is)
    (case kq_ValueError_NoThing=>kit_is)
    (case kt_HalfError_NoThing=>k_is)
    (case el_TooMany=>k_is)
    (case et_TooMany=>kernel_rfl)
    (case en_TooMany=>kernel_rfl)
    (case ez_TooMany=>k_is)
    (case xhga_TooMany=>k_is)
    (case xhgn_TooMany=>k_is)
    (case xhmB_TooMany=>k_is)
    (case xha_TooMany=>k_is)
    (case xhn_TooMany=>k_is)
    (case xhtk_TooMany=>k_is)
    (case xhm_TooMany=>k_is)
    (case xcls_TooMany=>k_is)
    (case kq_TooMany_TooMany=>kit_is)
    (case kq_NoFit_TooMany=>kit_is)
    (case kq_NoThing_TooMany=>kit_is)
    (case kq_NoneYet_TooMany=>kit_is)
    (case kq_NoText_TooMany=>kit_is)
    (case kq_NoName_TooMany=>kit_is)
    (case kq_NoForm_TooMany=>kit_is)
    (case kq_NoAsk_TooMany=>kit_is)
    (case kq_ValueError_TooMany=>kit_is)
    (case kt_HalfError_TooMany=>k_is)
