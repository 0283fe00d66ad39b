import PyProof.Rows.All
import Wide.All
import OpenK.AllK
import Wide.FinOn
import Lean
import PyProof.EqAt
import PyProof.EqKinds
import PyProof.TupleCall
import PyProof.NsDelKeeps
import KE.KTryMore
import OpenK.KOwn
import PyProof.ExcBaseAll.ValueError
import PyProof.Rows.CountFlat
import PyProof.Rows.SeqMore2
import PyProof.SumWalkG
import PyProof.FitsBits
import PyProof.Rows.IntMath
import PyProof.P3Eq
import PyProof.ZipIter
import PyProof.TupleIter
import PySem.Challenge.RW_morethanhalf_k07_what_answers_tell
set_option Elab.async false
set_option linter.all false
set_option compiler.extract_closed false
set_option maxRecDepth 100000
set_option maxHeartbeats 0
theorem bq {p:Prop} (h:¬ p→False):p:=Classical.byContradiction h
namespace L2
open PySem PySem.Spec PyProof.Rows
noncomputable abbrev Key:=Sum Int Str
noncomputable def ze2:Key→Value→Bool
 | .inl k,v=>Value.isInt k v
 | .inr x,v=>Value.isStrOf x v
noncomputable def zyj (w:World):Key→Int
 | .inl k=>hashInt k
 | .inr x=>hashStr w x
theorem z11:∀ {k:Key} {v:Value},ze2 k v=true→(∃ i t,k=Sum.inl i∧v=Value.int i t)∨(∃ x t,k=Sum.inr x∧v=Value.str x t)
 | .inl i,v,h=>by
  obtain ⟨t,e⟩:=Value.isInt_shape (k:=i) (v:=v) h
  exact .inl ⟨i,t,rfl,e⟩
 | .inr x,v,h=>by
  refine bq fun bG=>?_
  obtain ⟨t,e⟩:=Value.isStrOf_shape (x:=x) (v:=v) h
  exact bG (.inr ⟨x,t,rfl,e⟩)
theorem zk0 (i:Int) (t:Tok):ze2 (.inl i) (.int i t)=true:=by simp [ze2,Value.isInt]
theorem zjz (x:Str) (t:Tok):ze2 (.inr x) (.str x t)=true:=by simp [ze2,Value.isStrOf]
theorem zur (a b:Int):decide ((Sum.inl a:Key)=Sum.inl b)=(a==b):=by
 by_cases e:a=b
 ·subst e;simp
 ·have h:¬ (Sum.inl a:Key)=Sum.inl b:=fun q=>e (Sum.inl.inj q)
  rw [decide_eq_false h]
  exact (beq_eq_false_iff_ne.mpr e).symm
theorem zuo (a b:Str):decide ((Sum.inr a:Key)=Sum.inr b)=decide (a=b):=by
 by_cases e:a=b
 ·subst e;simp
 ·have h:¬ (Sum.inr a:Key)=Sum.inr b:=fun q=>e (Sum.inr.inj q)
  rw [decide_eq_false h,decide_eq_false e]
theorem zuq (a:Int) (b:Str):decide ((Sum.inl a:Key)=Sum.inr b)=false:=decide_eq_false (fun q=>nomatch q)
theorem zup (a:Str) (b:Int):decide ((Sum.inr a:Key)=Sum.inl b)=false:=decide_eq_false (fun q=>nomatch q)
noncomputable def z16 (prog:Program) (w:World):PySem.KeyKind prog w Key where
 is:=ze2
 hash:=zyj w
 inj:=fun v a b ha hb=>by
  rcases z11 ha with ⟨i,t,rfl,rfl⟩ | ⟨x,t,rfl,rfl⟩
  ·rcases z11 hb with ⟨j,u,rfl,e⟩ | ⟨y,u,rfl,e⟩
   ·injection e with e1 _;rw [e1]
   ·exact nomatch e
  ·rcases z11 hb with ⟨j,u,rfl,e⟩ | ⟨y,u,rfl,e⟩
   ·exact nomatch e
   ·injection e with e1 _;rw [e1]
 byValue:=fun k v h=>by
  rcases z11 h with ⟨i,t,rfl,rfl⟩ | ⟨x,t,rfl,rfl⟩ <;> rfl
 pyHash:=fun hv h=>by
  rcases z11 hv with ⟨i,t,rfl,rfl⟩ | ⟨x,t,rfl,rfl⟩
  ·exact wpAny_pyHash_int h
  ·exact wpAny_pyHash_str h
 eqBool:=fun hu hv h=>by
  rcases z11 hu with ⟨i,t,rfl,rfl⟩ | ⟨x,t,rfl,rfl⟩
  ·rcases z11 hv with ⟨j,u,rfl,rfl⟩ | ⟨y,u,rfl,rfl⟩
   ·rw [zur] at h;exact wpAny_eqBool_int h
   ·rw [zuq] at h;exact SeqAt.EqAt.int_str i t y u _ _ _ _ h
  ·rcases z11 hv with ⟨j,u,rfl,rfl⟩ | ⟨y,u,rfl,rfl⟩
   ·rw [zup] at h;exact SeqAt.EqAt.str_int x t j u _ _ _ _ h
   ·rw [zuo] at h;exact wpAny_eqBool_str h
 «strs»:=fun k x t v h=>by
  rcases z11 h with ⟨i,u,rfl,e⟩ | ⟨y,u,rfl,e⟩
  ·exact nomatch e
  ·injection e with e1 _
   subst e1
   cases v <;> rfl
theorem zdw (prog:Program) (w:World) (i:Int) (t:Tok):(z16 prog w).is (.inl i) (.int i t)=true:=zk0 i t
theorem zdv (prog:Program) (w:World) (x:Str) (t:Tok):(z16 prog w).is (.inr x) (.str x t)=true:=zjz x t
inductive V where
 | non | bl (b:Bool) | int (i:Int) | str (x:Str) | byt (b:Array UInt8) | flt (b:UInt64) | ref (a:Addr) | ty (n:String)
 deriving DecidableEq
def RelV:V→Value→Prop
 | .non,u=>u=Value.none
 | .bl b,u=>u=Value.bool b
 | .int i,u=>∃ t,u=Value.int i t
 | .str x,u=>∃ t,u=Value.str x t
 | .byt b,u=>∃ t,u=Value.bytes b t
 | .flt b,u=>∃ t,u=Value.float b t
 | .ref a,u=>u=Value.ref a
 | .ty n,u=>u=Value.type n
noncomputable abbrev Vals:List V→List Value→Prop:=Paired RelV
theorem Vals.length {xs:List V} {us:List Value} (r:Vals xs us):xs.length=us.length:=Paired.length r
theorem Vals.get:∀ {xs:List V} {us:List Value} {i:Nat} {x:V},Vals xs us→xs[i]?=some x→∃ u,us[i]?=some u∧RelV x u
 | _,_,_,_,.nil,e=>by simp at e
 | _,_,0,_,.cons r _,e=>by simp at e;subst e;exact ⟨_,rfl,r⟩
 | _,_,i+1,x,.cons _ t,e=>by
  refine bq fun bG=>?_
  obtain ⟨u,h1,h2⟩:=Vals.get (i:=i) (x:=x) t (by simpa using e)
  exact bG (⟨u,by simpa using h1,h2⟩)
theorem Vals.set {x:V} {u:Value} (r:RelV x u):∀ {xs:List V} {us:List Value} (i:Nat),Vals xs us→Vals (xs.set i x) (us.set i u)
 | _,_,_,.nil=>.nil
 | _,_,0,.cons _ t=>.cons r t
 | _,_,i+1,.cons q t=>.cons q (Vals.set r i t)
theorem Vals.append:∀ {xs ys:List V} {us ws:List Value},Vals xs us→Vals ys ws→Vals (xs++ys) (us++ws)
 | _,_,_,_,.nil,s=>s
 | _,_,_,_,.cons r t,s=>.cons r (Vals.append t s)
theorem Vals.take:∀ {xs:List V} {us:List Value} (n:Nat),Vals xs us→Vals (xs.take n) (us.take n)
 | _,_,0,_=>.nil
 | _,_,_+1,.nil=>.nil
 | _,_,n+1,.cons r t=>.cons r (Vals.take n t)
theorem Vals.drop:∀ {xs:List V} {us:List Value} (n:Nat),Vals xs us→Vals (xs.drop n) (us.drop n)
 | _,_,0,r=>r
 | _,_,_+1,.nil=>.nil
 | _,_,n+1,.cons _ t=>Vals.drop n t
def RelO:Option V→Option Value→Prop
 | some v,some u=>RelV v u
 | none,none=>True
 | _,_=>False
def KV {κ:Type}:List (κ×V)→List (κ×Value)→Prop:=Paired fun (p:κ×V) (q:κ×Value)=>p.1=q.1∧RelV p.2 q.2
noncomputable def kV:Key→V
 | .inl i=>.int i
 | .inr x=>.str x
inductive HO where
 | lst (xs:List V)
 | tup (xs:List V)
 | dK (kvs:List (Key×V)) | dT (kvs:List (List Key×V))
 | set (S:Int→Bool) (n:Nat)
 | ins (C dx:Addr) (fs:List (Str×V))
 | own (x:Addr)
 | xd (fs:List (Str×V))
 | met (f x:Addr)
 | rng (lo hi:Int)
 | frz (o:Obj) (u:HO)
 | tbl (ps:Array Value)
 | ext (φ:Heap→Prop)
noncomputable abbrev Hp:=Addr→Option HO
noncomputable def upd (H:Hp) (a:Addr) (o:HO):Hp:=fun b=>if b=a then some o else H b
theorem z0l {H:Hp} {a:Addr} {o:HO}:upd H a o a=some o:=by unfold upd;rw [if_pos rfl]
theorem z0h {H:Hp} {a b:Addr} {o:HO} (h:b≠a):upd H a o b=H b:=by unfold upd;rw [if_neg h]
theorem z0j {H:Hp} {a b:Addr} {o:HO} (h:H a=some o) (h':H b=none):a≠b:=by
 intro e;subst e;rw [h] at h';cases h'
section
variable (P:Program) (w:World)
def ObjOk (H:Hp) (h:Heap) (a:Addr):HO→Prop
 | .lst xs=>xs.length≤sizeLine∧∃ (its:List Value) (n:Nat),Vals xs its∧h.get? a=some { cls:=.type "list",data:=.seq its.toArray n }
 | .tup xs=>xs.length≤sizeLine∧∃ its:List Value,Vals xs its∧IsTup h a its.toArray
 | .dK kvs=>kvs.length≤sizeLine∧(a==sysModules)=false∧∃ vs,KV kvs vs∧h.DictOf (z16 P w) a vs
 | .dT kvs=>kvs.length≤sizeLine∧(a==sysModules)=false∧∃ xs:List (List Key×Addr×Value),
   Paired (fun (p:List Key×V) (q:List Key×Addr×Value)=>p.1=q.1∧H q.2.1=some (.tup (p.1.map kV))∧RelV p.2 q.2.2) kvs xs ∧
   ∃ o es ep,h.get? a=some o∧o.ExactDict∧o.data=.dict es ep∧es.toList=xs.map (entryOfKey (tupleKind (z16 P w)))∧(xs.map (·.1)).Nodup
 | .set S n=>h.SetOf (intKind P w) a S n
 | .ins C dx fs=>H dx=some (.own a)∧fs.length≤1000∧dx≠a∧h.get? a=some (PySem.W.instObj C dx) ∧
   ∃ mA,h.Ns1 dx mA∧(∀ f,RelO (fs.lookup f) (mA f))∧PySem.Within mA (fs.map (·.1))
 | .own _=>∃ o,h.get? a=some o
 | .xd fs=>∃ mA,h.Ns1 a mA∧∀ f,RelO (fs.lookup f) (mA f)
 | .rng lo hi=>∃ t u v,h.get? a=some { cls:=.type "range",data:=.fields #[.int lo t,.int hi u,.int 1 v] }
 | .frz o u=>h.get? a=some o∧ObjOk H h a u
 | .tbl ps=>h.get? a=some { cls:=.none,data:=.fields ps }
 | .met f x=>h.get? a=some (PySem.W.methodObj (.ref f) (.ref x))
 | .ext φ=>φ h∧(∃ o,h.get? a=some o)∧∀ h1 h2:Heap,φ h1→(∀ o,h1.get? a=some o→h2.get? a=some o)→φ h2
def HOk (H:Hp) (h:Heap):Prop:=∀ a o,H a=some o→ObjOk P w H h a o
end
section
variable {P:Program} {w:World} {H H':Hp} {h h':Heap} {a:Addr} {o:HO}
theorem ObjOk.lt (x:ObjOk P w H h a o):a<h.objs.size:=by
 cases o with
 | lst xs=>obtain ⟨_,_,_,_,e⟩:=x;exact Heap.lt_size e
 | tup xs=>obtain ⟨_,_,_,p⟩:=x;exact p.lt
 | dK kvs=>obtain ⟨_,_,_,_,o,_,_,e,_⟩:=x;exact Heap.lt_size e
 | dT kvs=>obtain ⟨_,_,_,_,o,_,_,e,_⟩:=x;exact Heap.lt_size e
 | set S n=>obtain ⟨o,_,_,_,e,_⟩:=x;exact Heap.lt_size e
 | ins C dx fs=>obtain ⟨_,_,_,e,_⟩:=x;exact Heap.lt_size e
 | own y=>obtain ⟨_,e⟩:=x;exact Heap.lt_size e
 | xd fs=>obtain ⟨_,⟨_,_,_,e,_⟩,_⟩:=x;exact Heap.lt_size e
 | rng lo hi=>obtain ⟨_,_,_,e⟩:=x;exact Heap.lt_size e
 | frz ob u=>obtain ⟨e,_⟩:=x;exact Heap.lt_size e
 | tbl ps=>exact Heap.lt_size (show h.get? a=some _ from x)
 | met f y=>exact Heap.lt_size (show h.get? a=some _ from x)
 | ext φ=>obtain ⟨_,⟨_,e⟩,_⟩:=x;exact Heap.lt_size e
theorem Paired.mapP {α β:Type} {F G:α→β→Prop}:∀ {l₁:List α} {l₂:List β},Paired F l₁ l₂→(∀ a b,F a b→G a b)→Paired G l₁ l₂
 | _,_,.nil,_=>.nil
 | _,_,.cons r t,f=>.cons (f _ _ r) (Paired.mapP t f)
theorem ObjOk.stay (x:ObjOk P w H h a o) (k:∀ b u,(b=a∨H b=some (.own a))→h.get? b=some u→h'.get? b=some u)
  (ho:∀ b,H b=some (.own a)→H' b=some (.own a)) (ht:∀ b xs,H b=some (.tup xs)→H' b=some (.tup xs)):ObjOk P w H' h' a o:=by
 induction o with
 | lst xs=>obtain ⟨z,its,n,r,e⟩:=x;exact ⟨z,its,n,r,k _ _ (.inl rfl) e⟩
 | tup xs=>obtain ⟨z,its,r,ob,e,c⟩:=x;exact ⟨z,its,r,ob,k _ _ (.inl rfl) e,c⟩
 | dK kvs=>obtain ⟨z,y,vs,r,ob,es,ep,e,c⟩:=x;exact ⟨z,y,vs,r,ob,es,ep,k _ _ (.inl rfl) e,c⟩
 | dT kvs =>
  obtain ⟨z,y,xs,r,ob,es,ep,e,c⟩:=x
  exact ⟨z,y,xs,Paired.mapP r fun p q z=>⟨z.1,ht _ _ z.2.1,z.2.2⟩,ob,es,ep,k _ _ (.inl rfl) e,c⟩
 | set S n=>obtain ⟨ob,es,ep,t,e,c⟩:=x;exact ⟨ob,es,ep,t,k _ _ (.inl rfl) e,c⟩
 | ins C dx fs =>
  obtain ⟨d,z,ne,e,mA,⟨od,es,ep,e2,c⟩,r⟩:=x
  exact ⟨ho _ d,z,ne,k _ _ (.inl rfl) e,mA,⟨od,es,ep,k _ _ (.inr d) e2,c⟩,r⟩
 | own y=>obtain ⟨ob,e⟩:=x;exact ⟨ob,k _ _ (.inl rfl) e⟩
 | xd fs=>obtain ⟨mA,⟨od,es,ep,e,c⟩,r⟩:=x;exact ⟨mA,⟨od,es,ep,k _ _ (.inl rfl) e,c⟩,r⟩
 | rng lo hi=>obtain ⟨t,u,v,e⟩:=x;exact ⟨t,u,v,k _ _ (.inl rfl) e⟩
 | frz ob u ih=>obtain ⟨e,q⟩:=x;exact ⟨k _ _ (.inl rfl) e,ih q⟩
 | tbl ps =>
  have e:h.get? a=some { cls:=.none,data:=.fields ps }:=x
  show h'.get? a=some { cls:=.none,data:=.fields ps }
  exact k a _ (.inl rfl) e
 | met f y =>
  have e:h.get? a=some (PySem.W.methodObj (.ref f) (.ref y)):=x
  show h'.get? a=some (PySem.W.methodObj (.ref f) (.ref y))
  exact k a _ (.inl rfl) e
 | ext φ=>obtain ⟨p,⟨o,e⟩,st⟩:=x;exact ⟨st _ _ p fun o q=>k _ _ (.inl rfl) q,⟨o,k _ _ (.inl rfl) e⟩,st⟩
theorem HOk.lt (x:HOk P w H h) (e:H a=some o):a<h.objs.size:=(x a o e).lt
theorem HOk.fresh (x:HOk P w H h) (e:h.objs.size≤a):H a=none:=by
 cases q:H a with
 | none=>rfl
 | some u=>exact absurd (Nat.lt_of_lt_of_le (x.lt q) e) (Nat.lt_irrefl _)
theorem HOk.kept (x:HOk P w H h) (k:∀ b u,h.get? b=some u→h'.get? b=some u):HOk P w H h':=fun a o e =>
 (x a o e).stay (fun b u _ q=>k b u q) (fun _ q=>q) fun _ _ q=>q
theorem HOk.laid (x:HOk P w H h) (k:∀ b u,h.get? b=some u→h'.get? b=some u) (hp:h.objs.size≤a) (new:ObjOk P w (upd H a o) h' a o):HOk P w (upd H a o) h':=fun b u e=>by
 have hn:=x.fresh hp
 by_cases hb:b=a
 ·subst hb;rw [z0l] at e;cases e;exact new
 ·rw [z0h hb] at e
  exact (x b u e).stay (fun c v _ q=>k c v q) (fun c q=>by rw [z0h (z0j q hn)];exact q) fun c xs q=>by rw [z0h (z0j q hn)];exact q
end
def Rd (H:Hp) (a:Addr) (u:HO):Prop:=H a=some u∨∃ o,H a=some (.frz o u)
theorem Rd.ok {P:Program} {w:World} {H:Hp} {h:Heap} {a:Addr} {u:HO} (r:Rd H a u) (x:HOk P w H h):ObjOk P w H h a u:=by
 rcases r with r | ⟨o,r⟩
 ·exact x a u r
 ·obtain ⟨_,q⟩:=x a _ r
  exact q
def Mut:Option HO→Prop
 | some (.lst _)=>True
 | some (.dK _)=>True
 | some (.dT _)=>True
 | some (.set _ _)=>True
 | some (.ins _ _ _)=>True
 | some (.ext _)=>True
 | _=>False
section
variable {P:Program} {w:World} {H:Hp} {h h':Heap} {x e:Addr} {o':HO}
theorem HOk.write (ok:HOk P w H h) (mu:Mut (H x)) (he:e=x∨H e=some (.own x)) (k:∀ b u,b≠e→h.get? b=some u→h'.get? b=some u) (heo:∃ u,h'.get? e=some u)
  (new:ObjOk P w (upd H x o') h' x o'):HOk P w (upd H x o') h':=fun b u q=>by
 have nown:∀ c y,H c=some (.own y)→c≠x:=fun c y r z=>by subst z;rw [r] at mu;exact mu
 have ntup:∀ c xs,H c=some (.tup xs)→c≠x:=fun c xs r z=>by subst z;rw [r] at mu;exact mu
 by_cases hb:b=x
 ·subst hb;rw [z0l] at q;cases q;exact new
 ·rw [z0h hb] at q
  by_cases hbe:b=e
  ·have q':H b=some (.own x):=by
    rcases he with z | z
    ·exact absurd (hbe.trans z) hb
    ·rw [hbe];exact z
   rw [q] at q';cases q'
   obtain ⟨v,hv⟩:=heo
   exact ⟨v,by rw [hbe];exact hv⟩
  ·refine (ok b u q).stay (fun c v hc r=>k c v ?_ r) (fun c r=>by rw [z0h (nown c b r)];exact r) fun c xs r=>by rw [z0h (ntup c xs r)];exact r
   rcases hc with rfl | hc
   ·exact hbe
   ·rintro rfl
    rcases he with z | z
    ·exact nown c b hc z
    ·rw [hc] at z;cases z;exact hb rfl
end
structure Un (fs ex:List Addr) (H H':Hp) (h h':Heap):Prop where
 keep:∀ b o,h.get? b=some o→H b=none→b∉fs→b∉ex→h'.get? b=some o
 slot:∀ b o,h.get? b=some o→H b=none→b∈fs→b∉ex→∃ sl,h'.get? b=some { o with slots:=sl }
 free:∀ b o,h.get? b=some o→H b=none→b∉ex→H' b=none
 there:∀ b o,h.get? b=some o→b∉ex→∃ o',h'.get? b=some o'
 tups:∀ b xs,H b=some (.tup xs)→H' b=some (.tup xs)
 frzs:∀ b o u,H b=some (.frz o u)→H' b=some (.frz o u)
 tbls:∀ b ps,H b=some (.tbl ps)→∃ more,H' b=some (.tbl (ps++more))
section
variable {fs fs' ex ex':List Addr} {H H1 H2:Hp} {h h1 h2 h':Heap} {a x e:Addr} {o:HO}
theorem Un.any (u:Un fs ex H H1 h h1) {b:Addr} {ob:Obj} (q:h.get? b=some ob) (n:H b=none) (hx:b∉ex):∃ sl,h1.get? b=some { ob with slots:=sl }:=by
 by_cases hb:b∈fs
 ·exact u.slot b ob q n hb hx
 ·exact ⟨ob.slots,u.keep b ob q n hb hx⟩
theorem Un.kept (k:∀ b u,h.get? b=some u→h'.get? b=some u):Un fs ex H H h h' :=
 ⟨fun b ob q _ _ _=>k b ob q,fun b ob q _ _ _=>⟨ob.slots,k b ob q⟩,fun _ _ _ n _=>n,fun b ob q _=>⟨ob,k b ob q⟩,fun _ _ q=>q,fun _ _ _ q=>q,fun _ ps q=>⟨#[],by rw [q];simp⟩⟩
theorem Un.refl:Un fs ex H H h h:=Un.kept fun _ _ q=>q
theorem Un.laid (k:∀ b u,h.get? b=some u→h'.get? b=some u) (hp:h.objs.size≤a) (hn:H a=none):Un fs ex H (upd H a o) h h' where
 keep:=fun b u q _ _ _=>k b u q
 slot:=fun b u q _ _ _=>⟨u.slots,k b u q⟩
 free:=fun b u q n _=>by rw [z0h (Nat.ne_of_lt (Nat.lt_of_lt_of_le (Heap.lt_size q) hp))];exact n
 there:=fun b u q _=>⟨u,k b u q⟩
 tups:=fun b xs q=>by rw [z0h (z0j q hn)];exact q
 frzs:=fun b u xs q=>by rw [z0h (z0j q hn)];exact q
 tbls:=fun b ps q=>⟨#[],by rw [z0h (z0j q hn),q];simp⟩
theorem Un.write (mu:Mut (H x)) (he:e=x∨H e=some (.own x)) (k:∀ b u,b≠e→h.get? b=some u→h'.get? b=some u) (heo:∃ u,h'.get? e=some u):Un fs ex H (upd H x o) h h':=by
 have hx:∀ b,H b=none→b≠x:=fun b n z=>by subst z;rw [n] at mu;exact mu
 have hb:∀ b,H b=none→b≠e:=fun b n z=>by
  subst z
  rcases he with r | r
  ·exact hx b n r
  ·rw [n] at r;cases r
 have hm:∀ b u,H b=some u→¬ Mut (some u)→b≠x:=fun b u q nm z=>by subst z;rw [q] at mu;exact nm mu
 refine ⟨fun b u q n _ _=>k b u (hb b n) q,fun b u q n _ _=>⟨u.slots,k b u (hb b n) q⟩,fun b u q n _=>by rw [z0h (hx b n)];exact n,fun b u q _=>?_,
  fun b xs q=>by rw [z0h (hm b _ q fun z=>z)];exact q,fun b u xs q=>by rw [z0h (hm b _ q fun z=>z)];exact q,fun b ps q=>⟨#[],by rw [z0h (hm b _ q fun z=>z),q];simp⟩⟩
 by_cases hbe:b=e
 ·subst hbe;exact heo
 ·exact ⟨u,k b u hbe q⟩
end
noncomputable def trk (h:Heap) (H:Hp):List Addr:=(List.range h.objs.size).filter fun a=>(H a).isSome
noncomputable def zno (h:Heap) (H:Hp):Heap:=PySem.W.hideAll h (trk h H)
theorem zk9 (h:Heap) (H:Hp):(zno h H).objs.size=h.objs.size:=PySem.W.hideAll_size _ _
theorem znn {h:Heap} {H:Hp} {b:Addr} {o:Obj} (e:h.get? b=some o) (n:H b=none):(zno h H).get? b=some o :=
 PySem.W.hideAll_get _ e fun hm=>by
  have q:(H b).isSome=true:=(List.mem_filter.mp hm).2
  rw [n] at q;simp at q
theorem zr2 {h:Heap} {H:Hp} {b:Addr} {o:Obj} (e:(zno h H).get? b=some o):h.get? b=some o∧H b=none:=by
 have e':h.get? b=some o:=PySem.W.of_hideAll (trk h H) e
 refine ⟨e',?_⟩
 cases q:H b with
 | none=>rfl
 | some x =>
  have hm:b∈trk h H:=List.mem_filter.mpr ⟨List.mem_range.mpr (Heap.lt_size e'),by simp [q]⟩
  have z:(zno h H).get? b=none:=PySem.W.hideAll_none (trk h H) hm
  rw [z] at e;cases e
noncomputable def zrv (g h:Heap) (L:Addr):List (Addr×Obj):=(List.range h.objs.size).filterMap fun a=>if a=L∨(g.get? a).isSome=true then none else (h.get? a).map fun o=>(a,o)
noncomputable def z1w (g h:Heap) (L d:Addr):List (Addr×Obj):=(zrv g h L).filter fun p=>decide (p.1≠d)
structure Mod (K:PySem.W.Frag) (mg:Str→Option Value) (base:Heap):Prop where
 kin:K.In base
 glob:base.Ns mainGlobals mg
 blt:∃ mb,base.Ns builtinsNs mb∧∀ x:Str,x ≠ "__name__" → mb x=bootBuiltins x
 nolimit:base.NoLimit
structure Cx where
 prog:Program
 w:World
 K:PySem.W.Frag
 mg:Str→Option Value
 base:Heap
 A:Around
 N:List Str
 s₀:Shared
 H₀:Hp
 env:Env
 outer:List Env
 stack:List Env
 ex:List Addr
 fn:Str→Bool
 calm:Bool
 pn:List (Addr×Obj)
 xe:Value→Shared→Prop
noncomputable def frs (l:List Env):List Addr:=l.filterMap (·.frame)
noncomputable abbrev Cx.fs (X:Cx):List Addr:=frs X.outer
def Vis (sc:Scope) (x:Str):Prop:=sc.names.lookup x=some .local∨sc.names.lookup x=some .cell∨sc.names.lookup x=some .free
def Loc (sc:Scope) (x:Str):Prop:=sc.names.lookup x=some .local∨sc.names.lookup x=some .cell
noncomputable def zz1 (env:Env) (h:Heap) (m:Str→Option Value) (x:Str) (u:Value):Prop :=
 (env.kindOf x=some .local∧m x=some u)∨((env.kindOf x=some .cell∨env.kindOf x=some .free)∧∃ c,env.cells.lookup x=some c∧h.IsCell c (some u))
structure Cx.Ok (X:Cx):Prop where
 mod:Mod X.K X.mg X.base
 kind:X.env.scope.kind=.function
 glob:X.env.globals=mainGlobals
 blt:X.env.builtins=builtinsNs
 above:X.s₀.heap.objs.size≤X.env.locals
 inj:∀ x y c,X.env.cells.lookup x=some c→X.env.cells.lookup y=some c→x=y
 has:∀ x,(X.env.kindOf x=some .cell∨X.env.kindOf x=some .free)→∃ c,X.env.cells.lookup x=some c
 cab:∀ x c,X.fn x=true→X.env.cells.lookup x=some c→X.s₀.heap.objs.size≤c
 hd:X.calm=true→X.A.handled=none
 frames:X.A.frames=some X.stack
 stk:X.stack=X.outer∨(X.stack=X.env::X.outer∧X.env.frame=some X.env.locals)
 exf:∀ b∈X.ex,b≠X.env.locals∧∀ x c,X.env.cells.lookup x=some c→c≠b
 bs:∀ b o,X.base.get? b=some o→X.s₀.heap.get? b=some o∧X.H₀ b=none
 bsz:X.base.objs.size≤X.s₀.heap.objs.size
 noex:∀ b o,X.base.get? b=some o→b∉X.ex
 exfs:∀ b∈X.ex,b∉X.fs
 funs:X.s₀.heap.FunFrames X.base X.outer
 frf:∀ b∈X.fs,X.H₀ b=none
structure Inv (X:Cx) (pins:List (Addr×Obj)) (σ:List (Option V)) (H:Hp) (s:Shared):Prop where
 ok:X.Ok
 os:s.os=X.s₀.os
 bare:AllBare s.gens
 base:Un X.fs X.ex X.H₀ H X.s₀.heap s.heap
 loc:∃ m,s.heap.Ns X.env.locals m∧∀ (i:Nat) (x:Str) (v:V),X.N[i]?=some x→σ[i]?=some (some v)→Vis X.env.scope x→∃ u,RelV v u∧zz1 X.env s.heap m x u
 cell:∀ x c,X.env.cells.lookup x=some c→∃ v,s.heap.IsCell c v
 free:H X.env.locals=none
 freeC:∀ x c,X.env.cells.lookup x=some c→H c=none
 pin:∀ p∈X.pn++pins,s.heap.get? p.1=some p.2∧H p.1=none∧p.1≠X.env.locals∧p.1∉X.fs∧∀ v,p.2.data≠.cell v
 hok:HOk X.prog X.w H s.heap
 len:σ.length=X.N.length
section
variable {X:Cx} {pins:List (Addr×Obj)} {σ:List (Option V)} {H H':Hp} {s:Shared} {h':Heap}
theorem Cx.Ok.nofr (ok:X.Ok) {b:Addr} {o:Obj} (e:X.base.get? b=some o):b∉X.fs:=fun hb=>by
 have:=(ok.funs.mem hb).1
 rw [e] at this;cases this
theorem Inv.bs (I:Inv X pins σ H s):∀ b o,X.base.get? b=some o→s.heap.get? b=some o∧H b=none:=fun b o e =>
 ⟨I.base.keep b o (I.ok.bs b o e).1 (I.ok.bs b o e).2 (I.ok.nofr e) (I.ok.noex b o e),I.base.free b o (I.ok.bs b o e).1 (I.ok.bs b o e).2 (I.ok.noex b o e)⟩
theorem Inv.bk (I:Inv X pins σ H s):∀ b o,X.base.get? b=some o→s.heap.get? b=some o:=fun b o e=>(I.bs b o e).1
theorem Inv.mod (I:Inv X pins σ H s):Mod X.K X.mg X.base:=I.ok.mod
theorem Inv.kIn (I:Inv X pins σ H s):X.K.In s.heap:=I.ok.mod.kin.keeps I.bk
theorem Inv.lt (I:Inv X pins σ H s):X.env.locals<s.heap.objs.size:=let ⟨_,hn,_⟩:=I.loc;hn.lt
theorem Inv.sz (I:Inv X pins σ H s):X.s₀.heap.objs.size≤s.heap.objs.size:=Nat.le_trans I.ok.above (Nat.le_of_lt I.lt)
theorem Inv.nofs (I:Inv X pins σ H s) {a:Addr} (h:s.heap.objs.size≤a):a∉X.fs:=fun hb=>by
 refine bq fun bG=>?_
 obtain ⟨_,o,ho,_⟩:=I.ok.funs.mem hb
 exact bG (absurd (Nat.lt_of_lt_of_le (Heap.lt_size ho) (Nat.le_trans I.sz h)) (Nat.lt_irrefl _))
theorem Inv.cne (I:Inv X pins σ H s):∀ x c,X.env.cells.lookup x=some c→c≠X.env.locals:=fun x c e z=>by
 obtain ⟨v,o,ho,hd⟩:=I.cell x c e
 obtain ⟨m,⟨o',es,ep,ho',hd',_⟩,_⟩:=I.loc
 rw [z,ho'] at ho;cases ho;rw [hd'] at hd;cases hd
theorem Inv.funs (I:Inv X pins σ H s):s.heap.FunFrames X.base X.outer:=by
 have all:∀ (l:List Env),(∀ b∈frs l,b∈X.fs)→X.s₀.heap.FunFrames X.base l→s.heap.FunFrames X.base l:=by
  intro l
  induction l with
  | nil=>intro _ _;trivial
  | cons env r ih =>
   intro hs hl
   obtain ⟨hk,⟨L,o,hf,hn,ho,hd⟩,hr⟩:=hl
   have hL:L∈X.fs:=hs L (by unfold frs;rw [List.filterMap_cons,hf];exact List.mem_cons_self)
   obtain ⟨sl,e⟩:=I.base.slot L o ho (I.ok.frf L hL) hL fun z=>I.ok.exfs L z hL
   exact ⟨hk,⟨L,_,hf,hn,e,hd⟩,ih (fun b hb=>hs b (by unfold frs;rw [List.filterMap_cons,hf];exact List.mem_cons_of_mem _ hb)) hr⟩
 exact all X.outer (fun _ hb=>hb) I.ok.funs
theorem Inv.stack (I:Inv X pins σ H s):s.heap.FunFrames X.base X.stack:=by
 rcases I.ok.stk with e | ⟨e,hf⟩
 ·rw [e];exact I.funs
 ·rw [e]
  obtain ⟨m,hn,_⟩:=I.loc
  refine .cons (by rw [I.ok.kind];decide) hf hn ?_ I.funs
  exact Heap.get?_none_of_le (Nat.le_trans I.ok.bsz I.ok.above)
theorem Inv.stkSub (I:Inv X pins σ H s):∀ b∈frs X.stack,b∈X.env.locals::X.fs:=fun b hb=>by
 rcases I.ok.stk with e | ⟨e,hf⟩
 ·rw [e] at hb;exact List.mem_cons_of_mem _ hb
 ·rw [e] at hb
  unfold frs at hb
  rw [List.filterMap_cons,hf] at hb
  exact hb
theorem Inv.stkFree (I:Inv X pins σ H s):∀ b∈frs X.stack,H b=none:=fun b hb=>by
 rcases List.mem_cons.mp (I.stkSub b hb) with e | hb
 ·rw [e];exact I.free
 ·obtain ⟨_,o,ho,_⟩:=I.ok.funs.mem hb
  exact I.base.free b o ho (I.ok.frf b hb) fun z=>I.ok.exfs b z hb
theorem Inv.step {g':Array GenState} {t':Nat} {d':Drawn} {ch:List Addr} (I:Inv X pins σ H s)
  (hch:∀ b∈ch,(b∈X.ex∨X.s₀.heap.objs.size≤b)∧b≠X.env.locals∧(∀ x c,X.env.cells.lookup x=some c→c≠b)∧∀ p∈X.pn++pins,p.1≠b)
  (keep:∀ b o,b≠X.env.locals→b∉X.fs→b∉ch→s.heap.get? b=some o→H b=none→h'.get? b=some o)
  (slot:∀ b o,b≠X.env.locals→b∈X.fs→b∉ch→s.heap.get? b=some o→H b=none→∃ sl,h'.get? b=some { o with slots:=sl }) (free:∀ b o,b∉ch→s.heap.get? b=some o→H b=none→H' b=none)
  (there:∀ b o,b∉ch→s.heap.get? b=some o→∃ o',h'.get? b=some o')
  (tups:∀ b xs,H b=some (.tup xs)→H' b=some (.tup xs)) (frzs:∀ b o u,H b=some (.frz o u)→H' b=some (.frz o u)) (tbls:∀ b ps,H b=some (.tbl ps)→∃ more,H' b=some (.tbl (ps++more)))
  (ns:∀ m,s.heap.Ns X.env.locals m→h'.Ns X.env.locals m) (hok:HOk X.prog X.w H' h') (hg:AllBare g') :
  Inv X pins σ H' { s with heap:=h',gens:=g',drawn:=d',toks:=t' }:=by
 have neL:∀ b o,X.s₀.heap.get? b=some o→b≠X.env.locals:=fun b o e=>Nat.ne_of_lt (Nat.lt_of_lt_of_le (Heap.lt_size e) I.ok.above)
 have neC:∀ b o,X.s₀.heap.get? b=some o→b∉X.ex→b∉ch:=fun b o e hx hb=>by
  rcases (hch b hb).1 with z | z
  ·exact hx z
  ·exact absurd (Nat.lt_of_lt_of_le (Heap.lt_size e) z) (Nat.lt_irrefl _)
 have cellK:∀ x c,X.env.cells.lookup x=some c→∀ v,s.heap.IsCell c v→h'.IsCell c v:=fun x c e v ⟨o,ho,hd⟩=>by
  have nch:c∉ch:=fun z=>(hch c z).2.2.1 x c e rfl
  by_cases hc:c∈X.fs
  ·obtain ⟨sl,q⟩:=slot c o (I.cne x c e) hc nch ho (I.freeC x c e)
   exact ⟨_,q,hd⟩
  ·exact ⟨o,keep c o (I.cne x c e) hc nch ho (I.freeC x c e),hd⟩
 refine ⟨I.ok,I.os,hg,⟨fun b o e n hb hx=>?_,fun b o e n hb hx=>?_,fun b o e n hx=>?_,fun b o e hx=>?_,fun b xs e=>tups b xs (I.base.tups b xs e),fun b o xs e=>frzs b o xs (I.base.frzs b o xs e),fun b ps e=>?_⟩,?_,fun x c e=>?_,?_,fun x c e=>?_,fun p hp=>?_,hok,I.len⟩
 ·exact keep b o (neL b o e) hb (neC b o e hx) (I.base.keep b o e n hb hx) (I.base.free b o e n hx)
 ·obtain ⟨sl,e1⟩:=I.base.slot b o e n hb hx
  refine bq fun bG=>?_
  obtain ⟨sl',e2⟩:=slot b _ (neL b o e) hb (neC b o e hx) e1 (I.base.free b o e n hx)
  exact bG (⟨sl',e2⟩)
 ·obtain ⟨o',e1⟩:=I.base.there b o e hx
  exact free b o' (neC b o e hx) e1 (I.base.free b o e n hx)
 ·obtain ⟨o',e1⟩:=I.base.there b o e hx
  exact there b o' (neC b o e hx) e1
 ·obtain ⟨m1,e1⟩:=I.base.tbls b ps e
  refine bq fun bG=>?_
  obtain ⟨m2,e2⟩:=tbls b _ e1
  exact bG (⟨m1++m2,by rw [e2,Array.append_assoc]⟩)
 ·obtain ⟨m,hn,hl⟩:=I.loc
  refine ⟨m,ns m hn,fun i x v e1 e2 e3=>?_⟩
  refine bq fun bG=>?_
  obtain ⟨u,r,l⟩:=hl i x v e1 e2 e3
  refine bG (⟨u,r,?_⟩)
  rcases l with l | ⟨k,c,e,z⟩
  ·exact .inl l
  ·exact .inr ⟨k,c,e,cellK x c e _ z⟩
 ·obtain ⟨v,z⟩:=I.cell x c e
  exact ⟨v,cellK x c e v z⟩
 ·obtain ⟨m,⟨o,_,_,ho,_⟩,_⟩:=I.loc
  exact free _ o (fun z=>(hch _ z).2.1 rfl) ho I.free
 ·obtain ⟨v,o,ho,hd⟩:=I.cell x c e
  exact free c o (fun z=>(hch c z).2.2.1 x c e rfl) ho (I.freeC x c e)
 ·obtain ⟨e,n,ne,nf,d⟩:=I.pin p hp
  have nch:p.1∉ch:=fun z=>(hch p.1 z).2.2.2 p hp rfl
  exact ⟨keep p.1 p.2 ne nf nch e n,free p.1 p.2 nch e n,ne,nf,d⟩
theorem Inv.un {t':Nat} (I:Inv X pins σ H s) (u:Un X.fs [] H H' s.heap h') (hok:HOk X.prog X.w H' h'):Inv X pins σ H' { s with heap:=h',toks:=t' }:=by
 obtain ⟨m,⟨o,es,ep,ho,r⟩,_⟩:=id I.loc
 obtain ⟨sl,hL⟩:=u.any ho I.free (by simp)
 exact I.step (g':=s.gens) (d':=s.drawn) (ch:=[]) (fun _ z=>nomatch z) (fun b o _ hb _ e n=>u.keep b o e n hb (by simp)) (fun b o _ hb _ e n=>u.slot b o e n hb (by simp)) (fun b o _ e n=>u.free b o e n (by simp)) (fun b o _ e=>u.there b o e (by simp)) u.tups u.frzs u.tbls (fun m' hm=>by
  obtain ⟨o',es',ep',ho',r'⟩:=hm
  rw [ho] at ho';cases ho'
  exact ⟨_,es',ep',hL,r'⟩) hok I.bare
theorem Inv.call {g':Array GenState} {t':Nat} {d':Drawn} {ch:List Addr} (I:Inv X pins σ H s) (u:Un (frs X.stack) ch H H' s.heap h') (hok:HOk X.prog X.w H' h') (hg:AllBare g')
  (hch:∀ b∈ch,(b∈X.ex∨X.s₀.heap.objs.size≤b)∧b≠X.env.locals∧(∀ x c,X.env.cells.lookup x=some c→c≠b)∧∀ p∈X.pn++pins,p.1≠b) :
  Inv X pins σ H' { s with heap:=h',gens:=g',drawn:=d',toks:=t' }:=by
 obtain ⟨m,⟨o,es,ep,ho,r⟩,_⟩:=id I.loc
 obtain ⟨sl,hL⟩:=u.any ho I.free fun z=>(hch _ z).2.1 rfl
 exact I.step (ch:=ch) hch (fun b o hL hb hc e n=>u.keep b o e n (fun z=>(List.mem_cons.mp (I.stkSub b z)).elim hL hb) hc) (fun b o _ _ hc e n=>u.any e n hc) (fun b o hc e n=>u.free b o e n hc) (fun b o hc e=>u.there b o e hc) u.tups u.frzs u.tbls (fun m' hm=>by
  obtain ⟨o',es',ep',ho',r'⟩:=hm
  rw [ho] at ho';cases ho'
  exact ⟨_,es',ep',hL,r'⟩) hok hg
theorem Inv.turned {t':Nat} {it:Addr} (I:Inv X pins σ H s) (k:∀ b o,b≠it→s.heap.get? b=some o→h'.get? b=some o) (hn:H it=none) (hL:it≠X.env.locals)
  (h1:it∈X.ex∨X.s₀.heap.objs.size≤it) (h2:∀ x c,X.env.cells.lookup x=some c→c≠it) (h3:∀ p∈X.pn++pins,p.1≠it):Inv X pins σ H { s with heap:=h',toks:=t' }:=by
 have nit:∀ b u,H b=some u→b≠it:=fun b u e z=>by rw [z,hn] at e;cases e
 refine I.step (g':=s.gens) (d':=s.drawn) (ch:=[it]) (fun b hb=>?_) (fun b o _ _ hc e _=>k b o (fun z=>hc (by simp [z])) e) (fun b o _ _ hc e _=>⟨o.slots,k b o (fun z=>hc (by simp [z])) e⟩) (fun _ _ _ _ n=>n)
  (fun b o hc e=>⟨o,k b o (fun z=>hc (by simp [z])) e⟩) (fun _ _ e=>e) (fun _ _ _ e=>e) (fun b ps e=>⟨#[],by rw [e];simp⟩) (fun m hm=>?_) (fun b u e=>?_) I.bare
 ·have e:b=it:=by simpa using hb
  subst e
  exact ⟨h1,hL,h2,h3⟩
 ·obtain ⟨o,es,ep,ho,r⟩:=hm
  exact ⟨o,es,ep,k _ o (Ne.symm hL) ho,r⟩
 ·refine (I.hok b u e).stay (fun c v hc q=>k c v ?_ q) (fun _ q=>q) fun _ _ q=>q
  rcases hc with z | z
  ·rw [z];exact nit b u e
  ·exact nit c _ z
theorem Inv.tok (I:Inv X pins σ H s) (t:Nat):Inv X pins σ H { s with toks:=t }:=I.un (h':=s.heap) (t':=t) Un.refl I.hok
theorem Inv.kept {t':Nat} (I:Inv X pins σ H s) (k:∀ b u,s.heap.get? b=some u→h'.get? b=some u):Inv X pins σ H { s with heap:=h',toks:=t' }:=I.un (Un.kept k) (I.hok.kept k)
theorem Inv.laid {a:Addr} {o:HO} {t':Nat} (I:Inv X pins σ H s) (k:∀ b u,s.heap.get? b=some u→h'.get? b=some u) (hp:s.heap.objs.size≤a) (new:ObjOk X.prog X.w (upd H a o) h' a o) :
  Inv X pins σ (upd H a o) { s with heap:=h',toks:=t' }:=I.un (Un.laid k hp (I.hok.fresh hp)) (I.hok.laid k hp new)
theorem Inv.write {x e:Addr} {o:HO} {t':Nat} (I:Inv X pins σ H s) (mu:Mut (H x)) (he:e=x∨H e=some (.own x)) (k:∀ b u,b≠e→s.heap.get? b=some u→h'.get? b=some u) (heo:∃ u,h'.get? e=some u)
  (new:ObjOk X.prog X.w (upd H x o) h' x o):Inv X pins σ (upd H x o) { s with heap:=h',toks:=t' }:=I.un (Un.write mu he k heo) (I.hok.write mu he k heo new)
theorem Inv.pins_of {pins':List (Addr×Obj)} (I:Inv X pins σ H s) (h:∀ p∈pins',s.heap.get? p.1=some p.2∧H p.1=none∧p.1≠X.env.locals∧p.1∉X.fs∧∀ v,p.2.data≠.cell v):Inv X pins' σ H s :=
 ⟨I.ok,I.os,I.bare,I.base,I.loc,I.cell,I.free,I.freeC,fun p hp=>(List.mem_append.mp hp).elim (fun z=>I.pin p (List.mem_append_left _ z)) (h p),I.hok,I.len⟩
theorem zfb {N:List Str} (hN:N.Nodup) {i j:Nat} {x:Str} (a:N[i]?=some x) (b:N[j]?=some x):i=j:=by
 refine bq fun bG=>?_
 obtain ⟨h1,e1⟩:=List.getElem?_eq_some_iff.mp a
 obtain ⟨h2,e2⟩:=List.getElem?_eq_some_iff.mp b
 exact bG ((List.getElem_inj hN).mp (e1.trans e2.symm))
theorem z7v {M:Model} {A:Around} {E:Value→Shared→Prop} {i:Nat} {x:Str} {v:V} {u:Value} {Q:Unit→Shared→Prop} (I:Inv X pins σ H s) (hN:X.N.Nodup) (hi:X.N[i]?=some x) (hx:Loc X.env.scope x) (r:RelV v u)
  (h:∀ s',Inv X pins (σ.set i (some v)) H s'→(∃ a,Heap.SameBut a s.heap s'.heap∧(a=X.env.locals∨X.env.cells.lookup x=some a))→Q () s') (hf:X.fn x=true∨X.env.scope.names.lookup x=some .local:=by first | exact .inl rfl | exact .inr rfl | assumption):wpAny M A (storeName X.env x u) Q E s:=by
 obtain ⟨m,hn,hl⟩:=id I.loc
 have hcls:(X.env.scope.kind==.class||(X.env.scope.kind==.module&&X.env.locals != X.env.globals))=false:=by rw [I.ok.kind];rfl
 have hiσ:i<σ.length:=by rw [I.len];exact (List.getElem?_eq_some_iff.mp hi).1
 have cne:=I.cne
 have tracked:∀ {a:Addr} {h':Heap},(∃ o,s.heap.get? a=some o∧H a=none)→Heap.SameBut a s.heap h'→HOk X.prog X.w H h':=fun {a h'} ha hs b ob e=>by
  refine bq fun bG=>?_
  obtain ⟨_,_,hfree⟩:=ha
  refine bG ((I.hok b ob e).stay (fun c w' hc q=>(hs.2 c ?_).trans q) (fun _ q=>q) fun _ _ q=>q)
  rintro rfl
  rcases hc with rfl | hc
  ·rw [hfree] at e;cases e
  ·rw [hfree] at hc;cases hc
 rcases hx with hk | hk
 ·refine wpAny_storeName_local hk hn (fun h' hn' hs=>?_) hcls
  refine bq fun bG=>?_
  obtain ⟨oL,_,_,hoL,_⟩:=id hn
  refine bG (h _ ⟨I.ok,I.os,I.bare,⟨fun b o e n hb hx=>?_,fun b o e n hb hx=>?_,I.base.free,fun b o e hx=>?_,I.base.tups,I.base.frzs,I.base.tbls⟩,⟨_,hn',fun j y v' e1 e2 e3=>?_⟩,fun y c e=>?_,I.free,I.freeC,fun p hp=>?_,tracked ⟨oL,hoL,I.free⟩ hs,by simpa using I.len⟩ ⟨_,hs,.inl rfl⟩)
  ·exact (hs.2 b (Nat.ne_of_lt (Nat.lt_of_lt_of_le (Heap.lt_size e) I.ok.above))).trans (I.base.keep b o e n hb hx)
  ·obtain ⟨sl,e1⟩:=I.base.slot b o e n hb hx
   exact ⟨sl,(hs.2 b (Nat.ne_of_lt (Nat.lt_of_lt_of_le (Heap.lt_size e) I.ok.above))).trans e1⟩
  ·obtain ⟨o',e1⟩:=I.base.there b o e hx
   exact ⟨o',(hs.2 b (Nat.ne_of_lt (Nat.lt_of_lt_of_le (Heap.lt_size e) I.ok.above))).trans e1⟩
  ·by_cases hj:j=i
   ·subst hj
    rw [hi] at e1;cases e1
    rw [List.getElem?_set_self hiσ] at e2
    cases e2
    exact ⟨u,r,.inl ⟨hk,by simp⟩⟩
   ·rw [List.getElem?_set_ne (Ne.symm hj)] at e2
    refine bq fun bG=>?_
    obtain ⟨u',r',q⟩:=hl j y v' e1 e2 e3
    refine bG (⟨u',r',?_⟩)
    rcases q with ⟨k,e⟩ | ⟨k,c,e,z⟩
    ·refine .inl ⟨k,?_⟩
     have:y≠x:=fun e=>hj (zfb hN e1 (e ▸ hi))
     simp [this,e]
    ·exact .inr ⟨k,c,e,z.sameBut hs (cne y c e)⟩
  ·obtain ⟨w',z⟩:=I.cell y c e
   exact ⟨w',z.sameBut hs (cne y c e)⟩
  ·obtain ⟨e,n,ne,nf,d⟩:=I.pin p hp
   exact ⟨(hs.2 p.1 ne).trans e,n,ne,nf,d⟩
 ·have hfn:X.fn x=true:=by
   rcases hf with z | z
   ·exact z
   ·rw [z] at hk;cases hk
  refine bq fun bG=>?_
  obtain ⟨c,hc⟩:=I.ok.has x (.inl hk)
  obtain ⟨w',z⟩:=I.cell x c hc
  refine bG (wpAny_storeName_cell I.ok.kind hk hc z (fun h' hc' hs=>?_))
  refine bq fun bG=>?_
  obtain ⟨oc,hoc,hocd⟩:=id z
  refine bG (h { s with heap:=h' } ⟨I.ok,I.os,I.bare,⟨fun b o e n hb hx=>?_,fun b o e n hb hx=>?_,I.base.free,fun b o e hx=>?_,I.base.tups,I.base.frzs,I.base.tbls⟩,⟨m,hn.sameBut hs (Ne.symm (cne x c hc)),fun j y v' e1 e2 e3=>?_⟩,fun y c' e=>?_,I.free,I.freeC,fun p hp=>?_,tracked ⟨oc,hoc,I.freeC x c hc⟩ hs,by simpa using I.len⟩ ⟨c,hs,.inr hc⟩)
  ·exact (hs.2 b (Nat.ne_of_lt (Nat.lt_of_lt_of_le (Heap.lt_size e) (I.ok.cab x c hfn hc)))).trans (I.base.keep b o e n hb hx)
  ·obtain ⟨sl,e1⟩:=I.base.slot b o e n hb hx
   exact ⟨sl,(hs.2 b (Nat.ne_of_lt (Nat.lt_of_lt_of_le (Heap.lt_size e) (I.ok.cab x c hfn hc)))).trans e1⟩
  ·obtain ⟨o',e1⟩:=I.base.there b o e hx
   exact ⟨o',(hs.2 b (Nat.ne_of_lt (Nat.lt_of_lt_of_le (Heap.lt_size e) (I.ok.cab x c hfn hc)))).trans e1⟩
  ·by_cases hj:j=i
   ·subst hj
    rw [hi] at e1;cases e1
    rw [List.getElem?_set_self hiσ] at e2
    cases e2
    exact ⟨u,r,.inr ⟨.inl hk,c,hc,hc'⟩⟩
   ·rw [List.getElem?_set_ne (Ne.symm hj)] at e2
    refine bq fun bG=>?_
    obtain ⟨u',r',q⟩:=hl j y v' e1 e2 e3
    refine bG (⟨u',r',?_⟩)
    rcases q with q | ⟨k,c',e,z'⟩
    ·exact .inl q
    ·refine .inr ⟨k,c',e,z'.sameBut hs ?_⟩
     rintro rfl
     exact hj (zfb hN e1 (I.ok.inj _ _ _ e hc ▸ hi))
  ·by_cases hcc:c'=c
   ·subst hcc;exact ⟨_,hc'⟩
   ·obtain ⟨w2,z2⟩:=I.cell y c' e
    exact ⟨w2,z2.sameBut hs hcc⟩
  ·obtain ⟨e,n,ne,nf,d⟩:=I.pin p hp
   refine ⟨(hs.2 p.1 ?_).trans e,n,ne,nf,d⟩
   intro q
   rw [q,hoc] at e
   have q':oc=p.2:=Option.some.inj e
   exact d w' (by rw [← q'];exact hocd)
theorem zeu {M:Model} {A:Around} {E:Value→Shared→Prop} {i:Nat} {x:Str} {v:V} {u:Value} {Q:Unit→Shared→Prop} (I:Inv X pins σ H s) (hN:X.N.Nodup) (hi:X.N[i]?=some x) (hx:Loc X.env.scope x) (r:RelV v u)
  (h:∀ s',Inv X pins (σ.set i (some v)) H s'→Q () s') (hf:X.fn x=true∨X.env.scope.names.lookup x=some .local:=by first | exact .inl rfl | exact .inr rfl | assumption):wpAny M A (storeName X.env x u) Q E s :=
 z7v I hN hi hx r (fun s' I' _=>h s' I') hf
theorem Inv.call' {s':Shared} {ch:List Addr} (I:Inv X pins σ H s) (ho:s'.os=s.os) (u:Un (frs X.stack) ch H H' s.heap s'.heap) (hok:HOk X.prog X.w H' s'.heap) (hg:AllBare s'.gens)
  (hch:∀ b∈ch,(b∈X.ex∨X.s₀.heap.objs.size≤b)∧b≠X.env.locals∧(∀ x c,X.env.cells.lookup x=some c→c≠b)∧∀ p∈X.pn++pins,p.1≠b):Inv X pins σ H' s':=by
 refine bq fun bG=>?_
 obtain ⟨h',g',d',t',o'⟩:=s'
 have e:o'=s.os:=ho
 subst e
 exact bG (I.call (g':=g') (t':=t') (d':=d') u hok hg hch)
end
noncomputable abbrev XK:=Value→Option Addr→Hp→Prop
noncomputable abbrev St:=List (Option V)
noncomputable abbrev VK:=V→Hp→Prop
noncomputable abbrev TE:=St→Hp→VK→Prop
noncomputable abbrev TT:=St→Hp→(Bool→Hp→Prop)→Prop
noncomputable abbrev TA:=St→Hp→(List V→Hp→Prop)→Prop
structure Ends where
 nx:St→Hp→Prop
 rt:VK
 bk:St→Hp→Prop:=fun _ _=>False
 ct:St→Hp→Prop:=fun _ _=>False
noncomputable abbrev TS:=Ends→St→Hp→Prop
def EP (X:Cx) (pins:List (Addr×Obj)) (σ:St) (Q:VK) (u:Value) (s':Shared):Prop:=∃ v H',Inv X pins σ H' s'∧RelV v u∧Q v H'
def TP (X:Cx) (pins:List (Addr×Obj)) (σ:St) (Q:Bool→Hp→Prop) (b:Bool) (s':Shared):Prop:=∃ H',Inv X pins σ H' s'∧Q b H'
def AP (X:Cx) (pins:List (Addr×Obj)) (σ:St) (Q:List V→Hp→Prop) (us:List Value) (s':Shared):Prop:=∃ vs H',Inv X pins σ H' s'∧Vals vs us∧Q vs H'
noncomputable def SP (X:Cx) (pins:List (Addr×Obj)) (D:Ends) (f:Flow) (s':Shared):Prop :=
 match f with
 | .next=>∃ σ' H',Inv X pins σ' H' s'∧D.nx σ' H'
 | .brk=>∃ σ' H',Inv X pins σ' H' s'∧D.bk σ' H'
 | .cont=>∃ σ' H',Inv X pins σ' H' s'∧D.ct σ' H'
 | .ret u=>∃ v σ' H',Inv X pins σ' H' s'∧RelV v u∧D.rt v H'
noncomputable def PE (X:Cx) (e:Expr) (t:TE):Prop :=
 ∀ (pins:List (Addr×Obj)) (s:Shared) (σ:St) (H:Hp) (Q:VK),Inv X pins σ H s→t σ H Q→wpAny (model X.prog X.w) X.A (eval e X.env) (EP X pins σ Q) X.xe s
noncomputable def PT (X:Cx) (e:Expr) (t:TT):Prop :=
 ∀ (pins:List (Addr×Obj)) (s:Shared) (σ:St) (H:Hp) (Q:Bool→Hp→Prop),Inv X pins σ H s→t σ H Q→wpAny (model X.prog X.w) X.A (isTrue e X.env (eval e X.env)) (TP X pins σ Q) X.xe s
noncomputable def PW (X:Cx) (e:Expr) (t:TT):Prop :=
 ∀ (whole:Sem Value) (pins:List (Addr×Obj)) (s:Shared) (σ:St) (H:Hp) (Q:Bool→Hp→Prop),Inv X pins σ H s→t σ H Q→wpAny (model X.prog X.w) X.A (isTrue e X.env whole) (TP X pins σ Q) X.xe s
theorem PW.pt {X:Cx} {e:Expr} {t:TT} (h:PW X e t):PT X e t:=h _
noncomputable def PA (X:Cx) (es:List Expr) (t:TA):Prop :=
 ∀ (pos:Pos) (pins:List (Addr×Obj)) (s:Shared) (σ:St) (H:Hp) (Q:List V→Hp→Prop),Inv X pins σ H s→t σ H Q→wpAny (model X.prog X.w) X.A (spliced (backTo pos (starEach es X.env))) (AP X pins σ Q) X.xe s
noncomputable def PS (X:Cx) (st:Stmt) (t:TS):Prop :=
 ∀ (pins:List (Addr×Obj)) (s:Shared) (σ:St) (H:Hp) (D:Ends),Inv X pins σ H s→t D σ H→wpAny (model X.prog X.w) X.A (exec st X.env) (SP X pins D) X.xe s
noncomputable def PSs (X:Cx) (st:List Stmt) (t:TS):Prop :=
 ∀ (pins:List (Addr×Obj)) (s:Shared) (σ:St) (H:Hp) (D:Ends),Inv X pins σ H s→t D σ H→wpAny (model X.prog X.w) X.A (execs st X.env) (SP X pins D) X.xe s
theorem thn {α:Type} {t:Sem α} {Q Q':α→Shared→Prop} {M:Model} {A:Around} {E:Value→Shared→Prop} {s:Shared} (h:wpAny M A t Q E s) (hQ:∀ a s,Q a s→Q' a s):wpAny M A t Q' E s:=wpAny_mono h hQ fun _ _ x=>x
section
variable {X:Cx}
def zxl (i:Nat):TE:=fun σ H Q=>∃ v,σ[i]?=some (some v)∧Q v H
def tC (v:V):TE:=fun _ H Q=>Q v H
theorem zow {i:Nat} {x:Str} {pos:Pos} (hN:X.N[i]?=some x) (hv:Vis X.env.scope x) (hd:(x==("__debug__" : Str))=false:=by decide) (hcd:(x==("__classdict__" : Str))=false:=by decide):PE X (.Name x pos) (zxl i):=by
 intro pins s σ H Q I h
 obtain ⟨v,e,h⟩:=h
 obtain ⟨m,hn,hl⟩:=I.loc
 obtain ⟨u,r,l⟩:=hl i x v hN e hv
 have fin:EP X pins σ Q u s:=⟨v,H,I,r,h⟩
 rcases l with ⟨hk,hm⟩ | ⟨hk,c,hc,hcell⟩
 ·exact wpAny_Name (wpAny_loadName_local I.ok.kind hk hn hm fin) hd
 ·rcases hk with hk | hk
  ·exact wpAny_Name (wpAny_loadName_cell I.ok.kind hk hc hcell fin) hd
  ·exact wpAny_Name (wpAny_loadName_free I.ok.kind hk hc hcell fin hcd) hd
theorem zp0 {i j pos}:PE X (.Constant (.int i) j pos) (tC (.int i)):=fun _ _ _ H _ I h=>wpAny_Constant_int ⟨.int i,H,I.tok _,⟨_,rfl⟩,h⟩
theorem zwq {b j pos}:PE X (.Constant (.bool b) j pos) (tC (.bl b)):=fun _ _ _ H _ I h=>Constant_bool ⟨.bl b,H,I,rfl,h⟩
theorem ztx {j pos}:PE X (.Constant .none j pos) (tC .non):=fun _ _ _ H _ I h=>Constant_none ⟨.non,H,I,rfl,h⟩
theorem zoy {x j pos}:PE X (.Constant (.str x) j pos) (tC (.str x)):=fun _ _ _ H _ I h=>Calls.Constant_str ⟨.str x,H,I.tok _,⟨_,rfl⟩,h⟩
def Gl (X:Cx) (x:Str):Prop:=X.env.kindOf x=some .globalImplicit
theorem zaz {E:Value→Shared→Prop} {pins:List (Addr×Obj)} {s:Shared} {σ:St} {H:Hp} {x:Str} {u:Value} {pos:Pos} {Q:Value→Shared→Prop} (I:Inv X pins σ H s) (hg:Gl X x) (hm:X.mg x=some u) (h:Q u s)
  (hd:(x==("__debug__" : Str))=false:=by decide):wpAny (model X.prog X.w) X.A (eval (.Name x pos) X.env) Q E s :=
 Calls.Name_function_global I.ok.kind hg (Calls.loadGlobal_global (by rw [I.ok.glob];exact I.mod.glob.keeps I.bk) hm h) hd
theorem z76 {E:Value→Shared→Prop} {pins:List (Addr×Obj)} {s:Shared} {σ:St} {H:Hp} {x:Str} {u:Value} {pos:Pos} {Q:Value→Shared→Prop} (I:Inv X pins σ H s) (hg:Gl X x) (hm:X.mg x=none) (hv:bootBuiltins x=some u) (h:Q u s)
  (hn:x ≠ "__name__" := by decide) (hd:(x==("__debug__" : Str))=false:=by decide):wpAny (model X.prog X.w) X.A (eval (.Name x pos) X.env) Q E s:=by
 obtain ⟨mb,h1,h2⟩:=I.mod.blt
 exact Calls.Name_function_global I.ok.kind hg (Calls.loadGlobal_builtin (by rw [I.ok.glob];exact I.mod.glob.keeps I.bk) hm (by rw [I.ok.blt];exact h1.keeps I.bk) ((h2 x hn).trans hv) h) hd
theorem zqr {x:Str} {v:V} {u:Value} {pos:Pos} (hg:Gl X x) (hm:X.mg x=some u) (r:RelV v u) (hd:(x==("__debug__" : Str))=false:=by decide):PE X (.Name x pos) (tC v) :=
 fun _ _ _ H _ I h=>zaz I hg hm ⟨v,H,I,r,h⟩ hd
theorem z3y {x:Str} {v:V} {u:Value} {pos:Pos} (hg:Gl X x) (hm:X.mg x=none) (hv:bootBuiltins x=some u) (r:RelV v u) (hn:x ≠ "__name__" := by decide) (hd:(x==("__debug__" : Str))=false:=by decide):PE X (.Name x pos) (tC v) :=
 fun _ _ _ H _ I h=>z76 I hg hm hv ⟨v,H,I,r,h⟩ hn hd
variable {a b:Expr} {ta tb:TE} {pos:Pos}
def tB (t:TE):TT:=fun σ H Q=>t σ H fun x H1=>∃ c,x=.bl c∧Q c H1
theorem ztk {e:Expr} {t:TE} (h:PE X e t) (he:∀ whole,isTrue e X.env whole=(do let v ← whole;standAt e.pos;holding [v] (truthy v)):=by intro _;rfl):PT X e (tB t):=by
 intro pins s σ H Q I hw
 refine isTrue_plain (thn (h pins s σ H _ I hw) fun v s1 hm=>?_) (he _)
 refine bq fun bG=>?_
 obtain ⟨x,H1,I1,r1,q1⟩:=hm
 obtain ⟨d,rfl,q⟩:=q1
 cases r1
 exact bG (wpAny_truthy_bool ⟨H1,I1,q⟩)
variable {tA tB':TT} {z1w:List Expr}
def zxm (t u:TT):TT:=fun σ H Q=>t σ H fun c H1=>if c=true then u σ H1 Q else Q false H1
def tOr (t u:TT):TT:=fun σ H Q=>t σ H fun c H1=>if c=true then Q true H1 else u σ H1 Q
def zyb (t:TT):TT:=fun σ H Q=>t σ H fun c H1=>Q (!c) H1
theorem zqf (ha:PT X a tA):PW X (.BoolOp .And [a] pos) tA:=by
 intro wh pins s σ H Q I h
 refine isTrue_and (thn (ha pins s σ H Q I h) fun c s1 e=>?_)
 cases c with
 | true=>exact isTrue_and_nil e
 | false=>exact e
theorem zti (ha:PT X a tA):PW X (.BoolOp .Or [a] pos) tA:=by
 intro wh pins s σ H Q I h
 refine isTrue_or (thn (ha pins s σ H Q I h) fun c s1 e=>?_)
 cases c with
 | false=>exact isTrue_or_nil e
 | true=>exact e
theorem ztj (ha:PT X a tA) (hb:PW X (.BoolOp .And (b::z1w) pos) tB'):PW X (.BoolOp .And (a::b::z1w) pos) (zxm tA tB'):=by
 intro wh pins s σ H Q I h
 refine isTrue_and (thn (ha pins s σ H _ I h) fun c s1 hm=>?_)
 obtain ⟨H1,I1,q1⟩:=hm
 cases c with
 | true=>exact hb wh pins s1 σ H1 Q I1 q1
 | false=>exact ⟨H1,I1,q1⟩
theorem zwl (ha:PT X a tA) (hb:PW X (.BoolOp .Or (b::z1w) pos) tB'):PW X (.BoolOp .Or (a::b::z1w) pos) (tOr tA tB'):=by
 intro wh pins s σ H Q I h
 refine isTrue_or (thn (ha pins s σ H _ I h) fun c s1 hm=>?_)
 obtain ⟨H1,I1,q1⟩:=hm
 cases c with
 | true=>exact ⟨H1,I1,q1⟩
 | false=>exact hb wh pins s1 σ H1 Q I1 q1
theorem zot (ha:PT X a tA):PT X (.UnaryOp .Not a pos) (zyb tA):=by
 intro pins s σ H Q I h
 exact isTrue_not (ha pins s σ H (fun c H1=>Q (!c) H1) I h)
def zwg (ta tb:TE):TE:=fun σ H Q=>ta σ H fun x H1=>∃ c,x=.bl c∧if c=true then tb σ H1 Q else Q (.bl false) H1
def zya (ta tb:TE):TE:=fun σ H Q=>ta σ H fun x H1=>∃ c,x=.bl c∧if c=true then Q (.bl true) H1 else tb σ H1 Q
def zw9 (ta:TE):TE:=fun σ H Q=>ta σ H fun x H1=>∃ c,x=.bl c∧Q (.bl (!c)) H1
theorem ztv {op} {t:TE} (h:PE X a t):PE X (.BoolOp op [a] pos) t:=fun pins s σ H Q I hw=>BoolOp_one (h pins s σ H Q I hw)
theorem zu0 (ha:PE X a ta) (hb:PE X (.BoolOp .And (b::z1w) pos) tb):PE X (.BoolOp .And (a::b::z1w) pos) (zwg ta tb):=by
 intro pins s σ H Q I h
 refine BoolOp_and (thn (ha pins s σ H _ I h) fun v s1 hm=>?_)
 refine bq fun bG=>?_
 obtain ⟨x,H1,I1,r1,q1⟩:=hm
 obtain ⟨c,rfl,q1⟩:=q1
 cases r1
 refine bG (wpAny_truthy_bool ?_)
 cases c with
 | true=>exact hb pins s1 σ H1 Q I1 q1
 | false=>exact ⟨.bl false,H1,I1,rfl,q1⟩
theorem zwn (ha:PE X a ta) (hb:PE X (.BoolOp .Or (b::z1w) pos) tb):PE X (.BoolOp .Or (a::b::z1w) pos) (zya ta tb):=by
 intro pins s σ H Q I h
 refine BoolOp_or (thn (ha pins s σ H _ I h) fun v s1 hm=>?_)
 refine bq fun bG=>?_
 obtain ⟨x,H1,I1,r1,q1⟩:=hm
 obtain ⟨c,rfl,q1⟩:=q1
 cases r1
 refine bG (wpAny_truthy_bool ?_)
 cases c with
 | false=>exact hb pins s1 σ H1 Q I1 q1
 | true=>exact ⟨.bl true,H1,I1,rfl,q1⟩
theorem ztw (ha:PE X a ta):PE X (.UnaryOp .Not a pos) (zw9 ta):=by
 intro pins s σ H Q I h
 refine UnaryOp_ (thn (ha pins s σ H _ I h) fun v s1 hm=>?_)
 refine bq fun bG=>?_
 obtain ⟨x,H1,I1,r1,q1⟩:=hm
 obtain ⟨c,rfl,q1⟩:=q1
 cases r1
 exact bG (not_of (wpAny_truthy_bool ⟨.bl (!c),H1,I1,rfl,q1⟩))
def tIf (t:TT) (ta tb:TE):TE:=fun σ H Q=>t σ H fun c H1=>if c=true then ta σ H1 Q else tb σ H1 Q
theorem zmz {c:Expr} (hc:PT X c tA) (ha:PE X a ta) (hb:PE X b tb):PE X (.IfExp c a b pos) (tIf tA ta tb):=by
 intro pins s σ H Q I h
 refine wpAny_IfExp (thn (hc pins s σ H _ I h) fun d s1 hm=>?_)
 obtain ⟨H1,I1,q1⟩:=hm
 cases d with
 | true=>exact ha pins s1 σ H1 Q I1 q1
 | false=>exact hb pins s1 σ H1 Q I1 q1
end
noncomputable def SqL (K:PySem.W.Frag) (H:Hp) (a:Addr) (xs:List V):Prop :=
 Rd H a (.lst xs) ∨
  ∃ (o:Obj) (its:Array Value) (n:Nat),K.lookup a=some o∧o.cls=.type "list" ∧ o.dict=none∧o.data=.seq its n∧its.size≤sizeLine∧Vals xs its.toList
noncomputable def SqT (K:PySem.W.Frag) (H:Hp) (a:Addr) (xs:List V):Prop :=
 Rd H a (.tup xs) ∨
  ∃ (o:Obj) (its:Array Value) (n:Nat),K.lookup a=some o∧o.cls=.type "tuple" ∧ o.data=.seq its n∧its.size≤sizeLine∧Vals xs its.toList
noncomputable def zyz:Value→Option V
 | .none=>some .non
 | .bool b=>some (.bl b)
 | .int i _=>some (.int i)
 | .str x _=>some (.str x)
 | .bytes b _=>some (.byt b)
 | .float b _=>some (.flt b)
 | .ref a=>some (.ref a)
 | .type n=>some (.ty n)
 | _=>none
theorem RelV.abs {x:V} {u:Value} (r:RelV x u):zyz u=some x:=by
 cases x with
 | non=>cases r;rfl
 | bl _=>cases r;rfl
 | int _=>obtain ⟨t,rfl⟩:=r;rfl
 | str _=>obtain ⟨t,rfl⟩:=r;rfl
 | byt _=>obtain ⟨t,rfl⟩:=r;rfl
 | flt _=>obtain ⟨t,rfl⟩:=r;rfl
 | ref _=>cases r;rfl
 | ty _=>cases r;rfl
theorem RelV.inj {x y:V} {u:Value} (r:RelV x u) (q:RelV y u):x=y:=Option.some.inj (r.abs.symm.trans q.abs)
theorem Vals.inj:∀ {xs ys:List V} {us:List Value},Vals xs us→Vals ys us→xs=ys
 | _,_,_,.nil,.nil=>rfl
 | _,_,_,.cons r t,.cons r' t'=>by rw [r.inj r',Vals.inj t t']
section
variable {X:Cx} {pins:List (Addr×Obj)} {σ:St} {H:Hp} {s:Shared} {a:Addr} {xs ys:List V}
theorem SqL.of {K:PySem.W.Frag} (h:H a=some (.lst xs)):SqL K H a xs:=.inl (.inl h)
theorem SqT.of {K:PySem.W.Frag} (h:H a=some (.tup xs)):SqT K H a xs:=.inl (.inl h)
theorem Inv.list (I:Inv X pins σ H s) (h:SqL X.K H a xs):∃ its:List Value,Vals xs its∧PlainL s.heap a its.toArray∧xs.length≤sizeLine:=by
 rcases h with h | ⟨o,its,n,hk,hc,hd,hs,hz,r⟩
 ·obtain ⟨z,its,n,r,e⟩:=h.ok I.hok
  exact ⟨its,r,⟨_,n,e,rfl,rfl,rfl⟩,z⟩
 ·refine ⟨its.toList,r,⟨o,n,I.kIn a o hk,hc,hd,by simpa using hs⟩,?_⟩
  have e:=r.length
  simp only [Array.length_toList] at e
  omega
theorem Inv.tuple (I:Inv X pins σ H s) (h:SqT X.K H a xs):∃ its:List Value,Vals xs its∧IsTup s.heap a its.toArray∧xs.length≤sizeLine:=by
 rcases h with h | ⟨o,its,n,hk,hc,hs,hz,r⟩
 ·obtain ⟨z,its,r,p⟩:=h.ok I.hok
  exact ⟨its,r,p,z⟩
 ·refine ⟨its.toList,r,⟨o,I.kIn a o hk,hc,n,by simpa using hs⟩,?_⟩
  have e:=r.length
  simp only [Array.length_toList] at e
  omega
theorem Inv.list_inj (I:Inv X pins σ H s) (h:SqL X.K H a xs) (h':SqL X.K H a ys):xs=ys:=by
 obtain ⟨its,r,⟨o,n,e,_,_,d⟩,_⟩:=I.list h
 obtain ⟨its',r',⟨o',n',e',_,_,d'⟩,_⟩:=I.list h'
 rw [e] at e';cases e'
 rw [d] at d'
 injection d' with d1 _
 have:its=its':=by simpa using congrArg Array.toList d1
 subst this
 exact r.inj r'
theorem Inv.tuple_inj (I:Inv X pins σ H s) (h:SqT X.K H a xs) (h':SqT X.K H a ys):xs=ys:=by
 obtain ⟨its,r,⟨o,e,_,n,d⟩,_⟩:=I.tuple h
 obtain ⟨its',r',⟨o',e',_,n',d'⟩,_⟩:=I.tuple h'
 rw [e] at e';cases e'
 rw [d] at d'
 injection d' with d1 _
 have:its=its':=by simpa using congrArg Array.toList d1
 subst this
 exact r.inj r'
end
noncomputable abbrev Cx.wish (X:Cx) (E:Value→Shared→Prop):Cx:={ X with xe:=E }
noncomputable abbrev Cx.nox (X:Cx):Cx:=X.wish fun _ _=>False
theorem Cx.Ok.wish {X:Cx} (ok:X.Ok) (E:Value→Shared→Prop):(X.wish E).Ok :=
 ⟨ok.mod,ok.kind,ok.glob,ok.blt,ok.above,ok.inj,ok.has,ok.cab,ok.hd,ok.frames,ok.stk,ok.exf,ok.bs,ok.bsz,ok.noex,ok.exfs,ok.funs,ok.frf⟩
theorem Cx.Ok.unwish {X:Cx} {E:Value→Shared→Prop} (ok:(X.wish E).Ok):X.Ok :=
 ⟨ok.mod,ok.kind,ok.glob,ok.blt,ok.above,ok.inj,ok.has,ok.cab,ok.hd,ok.frames,ok.stk,ok.exf,ok.bs,ok.bsz,ok.noex,ok.exfs,ok.funs,ok.frf⟩
section
variable {X:Cx} {pins:List (Addr×Obj)} {σ:St} {H:Hp} {s:Shared} {E:Value→Shared→Prop}
theorem Inv.wish (I:Inv X pins σ H s) (E:Value→Shared→Prop):Inv (X.wish E) pins σ H s:=⟨I.ok.wish E,I.os,I.bare,I.base,I.loc,I.cell,I.free,I.freeC,I.pin,I.hok,I.len⟩
theorem Inv.unwish (I:Inv (X.wish E) pins σ H s):Inv X pins σ H s:=⟨I.ok.unwish,I.os,I.bare,I.base,I.loc,I.cell,I.free,I.freeC,I.pin,I.hok,I.len⟩
theorem SP.unwish {D:Ends} {f:Flow} {s':Shared} (h:SP (X.wish E) pins D f s'):SP X pins D f s':=by
 cases f with
 | next=>obtain ⟨σ',H',I,q⟩:=h;exact ⟨σ',H',I.unwish,q⟩
 | brk=>obtain ⟨σ',H',I,q⟩:=h;exact ⟨σ',H',I.unwish,q⟩
 | cont=>obtain ⟨σ',H',I,q⟩:=h;exact ⟨σ',H',I.unwish,q⟩
 | ret u=>obtain ⟨v,σ',H',I,r,q⟩:=h;exact ⟨v,σ',H',I.unwish,r,q⟩
theorem PE.nox {e:Expr} {t:TE} (h:PE X.nox e t):PE X e t:=fun pins s σ H Q I hw =>
 wpAny_mono (h pins s σ H Q (I.wish _) hw) (fun _ _ ⟨v,H',I',r,q⟩=>⟨v,H',I'.unwish,r,q⟩) fun _ _ z=>False.elim z
theorem PT.nox {e:Expr} {t:TT} (h:PT X.nox e t):PT X e t:=fun pins s σ H Q I hw =>
 wpAny_mono (h pins s σ H Q (I.wish _) hw) (fun _ _ ⟨H',I',q⟩=>⟨H',I'.unwish,q⟩) fun _ _ z=>False.elim z
theorem PSs.nox {st:List Stmt} {t:TS} (h:PSs X.nox st t):PSs X st t:=fun pins s σ H D I hw =>
 wpAny_mono (h pins s σ H D (I.wish _) hw) (fun _ _ q=>q.unwish) fun _ _ z=>False.elim z
end
section
variable {X:Cx} {st:Stmt} {z1w:List Stmt} {t u:TS} {e:Expr} {te:TE} {pos:Pos}
def zwa:TS:=fun D σ H=>D.nx σ H
def zy8 (t u:TS):TS:=fun D σ H=>t { D with nx:=u D } σ H
theorem zqg:PSs X [] zwa:=fun _ _ σ H _ I h=>wpAny_execs_nil ⟨σ,H,I,h⟩
theorem zf6 (h1:PS X st t) (h2:PSs X z1w u):PSs X (st::z1w) (zy8 t u):=by
 intro pins s σ H D I h
 refine wpAny_execs_cons (thn (h1 pins s σ H { D with nx:=u D } I h) fun f s1 q=>?_)
 cases f with
 | next =>
  obtain ⟨σ',H',I',q⟩:=q
  exact h2 pins s1 σ' H' D I' q
 | ret v=>exact q
 | brk=>exact q
 | cont=>exact q
theorem zjc (h1:PS X st t):PSs X [st] t:=by
 intro pins s σ H D I h
 refine wpAny_execs_cons (thn (h1 pins s σ H D I h) fun f s1 q=>?_)
 cases f with
 | next=>exact wpAny_execs_nil q
 | ret v=>exact q
 | brk=>exact q
 | cont=>exact q
theorem Inv.quiet {pins:List (Addr×Obj)} {σ:St} {H:Hp} {s:Shared} (I:Inv X pins σ H s):interactive X.env=false:=by simp [interactive,I.ok.kind]
def zwc (te:TE):TS:=fun D σ H=>te σ H fun _ H1=>D.nx σ H1
theorem zjd (he:PE X e te) (hs:swapsWith e none pos.line X.env=pure false:=by rfl):PS X (.Expr e pos) (zwc te):=by
 intro pins s σ H D I h
 exact wpAny_Expr_any (thn (he pins s σ H _ I h) fun v s1 ⟨x,H1,I1,r1,q1⟩=>⟨σ,H1,I1,q1⟩) I.quiet hs
def zy9 (te:TE):TS:=fun D σ H=>te σ H D.rt
theorem zou (he:PE X e te):PS X (.Return (some e) pos) (zy9 te):=by
 intro pins s σ H D I h
 exact wpAny_Return_some (thn (he pins s σ H _ I h) fun v s1 ⟨x,H1,I1,r1,q1⟩=>⟨x,σ,H1,I1,r1,q1⟩)
def zyd (c:TT) (t u:TS):TS:=fun D σ H=>c σ H fun b H1=>if b=true then t D σ H1 else u D σ H1
theorem ztm {c:Expr} {a b:List Stmt} {tc:TT} (hc:PT X c tc) (ha:PSs X a t) (hb:PSs X b u):PS X (.If c a b pos) (zyd tc t u):=by
 intro pins s σ H D I h
 refine wpAny_If (thn (hc pins s σ H _ I h) fun d s1 hm=>?_)
 obtain ⟨H1,I1,q1⟩:=hm
 cases d with
 | true=>exact ha pins s1 σ H1 D I1 q1
 | false=>exact hb pins s1 σ H1 D I1 q1
end
noncomputable abbrev TG:=V→St→Hp→(St→Hp→Prop)→Prop
noncomputable abbrev TGs:=List V→St→Hp→(St→Hp→Prop)→Prop
noncomputable def PG (X:Cx) (target:Expr) (t:TG):Prop :=
 ∀ (pins:List (Addr×Obj)) (s:Shared) (σ:St) (H:Hp) (v:V) (u:Value) (Q:St→Hp→Prop),Inv X pins σ H s→RelV v u→t v σ H Q →
  wpAny (model X.prog X.w) X.A (assign target X.env u) (fun _ s'=>∃ σ' H',Inv X pins σ' H' s'∧Q σ' H') X.xe s
noncomputable def PGs (X:Cx) (ts:List Expr) (t:TGs):Prop :=
 ∀ (pins:List (Addr×Obj)) (s:Shared) (σ:St) (H:Hp) (vs:List V) (us:List Value) (Q:St→Hp→Prop),Inv X pins σ H s→Vals vs us→t vs σ H Q →
  wpAny (model X.prog X.w) X.A (assignInOrder ((assignEach ts X.env).map (·.2)) us) (fun _ s'=>∃ σ' H',Inv X pins σ' H' s'∧Q σ' H') X.xe s
noncomputable abbrev zxh:=V→V→V→Hp→(Hp→Prop)→Prop
noncomputable def zy1 (X:Cx) (t:zxh):Prop :=
 ∀ (pins:List (Addr×Obj)) (s:Shared) (σ:St) (H:Hp) (o i v:V) (ov iv u:Value) (Q:Hp→Prop),Inv X pins σ H s→RelV o ov→RelV i iv→RelV v u→t o i v H Q →
  wpAny (model X.prog X.w) X.A (setItem ov iv u) (fun _ s'=>∃ H',Inv X pins σ H' s'∧Q H') X.xe s
section
variable {X:Cx} {pos:Pos}
def zre (i:Nat):TG:=fun v σ H Q=>Q (σ.set i (some v)) H
theorem zqp {i:Nat} {x:Str} (hN:X.N.Nodup) (hi:X.N[i]?=some x) (hx:Loc X.env.scope x) (hf:X.fn x=true∨X.env.scope.names.lookup x=some .local:=by first | exact .inl rfl | exact .inr rfl | assumption):PG X (.Name x pos) (zre i):=by
 intro pins s σ H v u Q I r h
 exact wpAny_assign_Name (zeu I hN hi hx r (fun s' I'=>⟨_,H,I',h⟩) hf)
noncomputable def zym:TGs:=fun vs σ H Q=>vs=[]∧Q σ H
noncomputable def zx5 (t:TG) (u:TGs):TGs:=fun vs σ H Q=>∃ v r,vs=v::r∧t v σ H fun σ' H'=>u r σ' H' Q
theorem zqo:PGs X [] zym:=by
 intro pins s σ H vs us Q I r h
 refine bq fun bG=>?_
 obtain ⟨e,h⟩:=h
 subst e
 cases r
 exact bG (assignInOrder_nil ⟨σ,H,I,h⟩)
theorem zmx {e:Expr} {es:List Expr} {t:TG} {u:TGs} (h1:PG X e t) (h2:PGs X es u)
  (hs:(assignEach (e::es) X.env).map (·.2)=assign e X.env::(assignEach es X.env).map (·.2):=by rfl):PGs X (e::es) (zx5 t u):=by
 intro pins s σ H vs us Q I r h
 obtain ⟨v,vr,e1,h⟩:=h
 subst e1
 cases r with
 | cons r rr =>
  rw [hs]
  refine assignInOrder_cons (thn (h1 pins s σ H _ _ _ I r h) fun _ s1 hm=>?_)
  refine bq fun bG=>?_
  obtain ⟨σ1,H1,I1,q1⟩:=hm
  exact bG (h2 pins s1 σ1 H1 _ _ Q I1 rr q1)
def zxx (K:PySem.W.Frag) (n:Nat) (t:TGs):TG:=fun v σ H Q=>∃ a xs,v=.ref a∧SqT K H a xs∧xs.length=n∧t xs σ H Q
theorem ztr {es:List Expr} {k:Nat} {t:TGs} {n:Nat} (hc:X.calm=true) (h:PGs X es t)
  (hn:(assignEach es X.env).length=n:=by rfl) (hst:(assignEach es X.env).findIdx? (·.1)=none:=by rfl):PG X (.Tuple es k pos) (zxx X.K n t):=by
 intro pins s σ H v u Q I r hw
 refine bq fun bG=>?_
 obtain ⟨a,xs,e1,hq,hl,hw⟩:=hw
 subst e1
 cases r
 obtain ⟨its,rv,ht,hz⟩:=I.tuple hq
 refine bG (assign_Tuple_tuple (I.ok.hd hc) ht (by simp [hn,← hl,rv.length]) hst fun h' hx=>?_)
 have I1:Inv X pins σ H { s with heap:=h' }:=I.kept (t':=s.toks) fun b o e=>hx b o (Nat.ne_of_lt (Heap.lt_size e)) e
 exact h pins _ σ H xs _ Q I1 (by simpa using rv) hw
def zyl (to ti:TE) (t:zxh):TG:=fun v σ H Q=>to σ H fun o H1=>ti σ H1 fun i H2=>t o i v H2 fun H3=>Q σ H3
theorem zts {o i:Expr} {to ti:TE} {t:zxh} (ho:PE X o to) (hi:PE X i ti) (hs:zy1 X t)
  (ha:∀ v,assign (.Subscript o i pos) X.env v=(do
   let ov ← holding [v] (eval o X.env)
   let iv ← holding [v,ov] (eval i X.env)
   standAt pos
   holding [v,ov,iv] (setItem ov iv v)
   release [v,ov,iv] []):=by intro _;rfl):PG X (.Subscript o i pos) (zyl to ti t):=by
 intro pins s σ H v u Q I r h
 rw [ha]
 refine wpAny_bind (wpAny_holding (thn (ho pins s σ H _ I h) fun ov s1 hm=>?_))
 refine bq fun bG=>?_
 obtain ⟨x,H1,I1,r1,q1⟩:=hm
 refine bG (wpAny_bind (wpAny_holding (thn (hi pins s1 σ H1 _ I1 q1) fun iv s2 hm=>?_)))
 refine bq fun bG=>?_
 obtain ⟨y,H2,I2,r2,q2⟩:=hm
 refine bG (wpAny_bind (wpAny_standAt (wpAny_bind (wpAny_holding (thn (hs pins s2 σ H2 x y v ov iv u _ I2 r1 r2 r q2) fun _ s3 hm=>?_)))))
 refine bq fun bG=>?_
 obtain ⟨H3,I3,q3⟩:=hm
 exact bG (wpAny_release ⟨σ,H3,I3,q3⟩)
def zwf (te:TE) (g:TG):TS:=fun D σ H=>te σ H fun x H1=>g x σ H1 D.nx
theorem ztn {tg e:Expr} {te:TE} {g:TG} (he:PE X e te) (hg:PG X tg g) (hs:swapsWithSole [tg] e pos.line X.env=pure false:=by rfl) (hw:swappedStores [tg] e X.env=pure none:=by rfl)
  (h1:(assignEach [tg] X.env).map (·.2)=[assign tg X.env]:=by rfl):PS X (.Assign [tg] e pos) (zwf te g):=by
 intro pins s σ H D I h
 refine wpAny_Assign_stores (thn (he pins s σ H _ I h) fun v s1 hm=>?_) hs hw
 obtain ⟨x,H1,I1,r1,q1⟩:=hm
 rw [h1]
 exact thn (hg pins s1 σ H1 x v _ I1 r1 q1) fun _ s2 q=>q
theorem ztl {i:Nat} {x:Str} {e:Expr} {te:TE} {pos':Pos} (hN:X.N.Nodup) (hi:X.N[i]?=some x) (hx:Loc X.env.scope x) (he:PE X e te) (hs:swapsWith e (some (.Name x pos')) pos.line X.env=pure false:=by rfl) (hf:X.fn x=true∨X.env.scope.names.lookup x=some .local:=by first | exact .inl rfl | exact .inr rfl | assumption) :
  PS X (.Assign [.Name x pos'] e pos) (zwf te (zre i)):=by
 intro pins s σ H D I h
 refine wpAny_Assign_Name (thn (he pins s σ H _ I h) fun v s1 hm=>?_) hs
 refine bq fun bG=>?_
 obtain ⟨y,H1,I1,r1,q1⟩:=hm
 exact bG (zeu I1 hN hi hx r1 (fun s2 I2=>⟨_,H1,I2,q1⟩) hf)
end
section
variable {X:Cx} {pos:Pos}
end
structure It where
 go:Nat→Hp→Prop
 yld:Nat→Hp→V→Hp→Prop
 stop:Nat→Hp→Prop
noncomputable def z72 (X:Cx) (pins:List (Addr×Obj)) (H:Hp) (b:Addr):Prop :=
 H b=none∧b≠X.env.locals∧b∉X.fs∧(b∈X.ex∨X.s₀.heap.objs.size≤b)∧(∀ x c,X.env.cells.lookup x=some c→c≠b)∧∀ p∈X.pn++pins,p.1≠b
theorem Inv.fpOk {X:Cx} {pins:List (Addr×Obj)} {σ:St} {H H':Hp} {s:Shared} {b:Addr} (I:Inv X pins σ H s) (hb:s.heap.objs.size≤b) (hn:H' b=none):z72 X pins H' b:=by
 refine ⟨hn,Nat.ne_of_gt (Nat.lt_of_lt_of_le I.lt hb),I.nofs hb,.inr (Nat.le_trans I.sz hb),fun x c e z=>?_,fun p hp z=>?_⟩
 ·obtain ⟨v,q⟩:=I.cell x c e
  exact absurd (Nat.lt_of_lt_of_le q.lt (by rw [z];exact hb)) (Nat.lt_irrefl _)
 ·exact absurd (Nat.lt_of_lt_of_le (Heap.lt_size (I.pin p hp).1) (by rw [z];exact hb)) (Nat.lt_irrefl _)
structure Turn (P:Program) (w:World) (K:PySem.W.Frag) (tg:Expr) (J:It) (fp:List Addr) (it:Addr) (tn:Nat→Heap→Prop):Prop where
 mem:it∈fp
 obj:∀ i h,tn i h→∀ b∈fp,∃ o,h.get? b=some o∧∀ v,o.data≠.cell v
 keep:∀ i h h',tn i h→(∀ b∈fp,∀ o,h.get? b=some o→h'.get? b=some o)→tn i h'
 item:∀ (X:Cx),X.prog=P→X.w=w→X.K=K→X.calm=true→∀ (i:Nat) (pins:List (Addr×Obj)) (s:Shared) (σ:St) (H:Hp) (E:Value→Shared→Prop),Inv X pins σ H s→(∀ b∈fp,z72 X pins H b)→tn i s.heap→J.go i H →
  wpAny (model P w) X.A (pyNext (.ref it)) (fun r s1=>∃ u,r=some u ∧
   wpAny (model P w) X.A (letOwnedTupleGo tg (.ref it) u) (fun _ s2=>∃ x H',Inv X pins σ H' s2∧RelV x u∧J.yld i H x H'∧tn (i+1) s2.heap∧∀ b∈fp,H' b=none) E s1) E s
 done:∀ (X:Cx),X.prog=P→X.w=w→X.K=K→X.calm=true→∀ (i:Nat) (pins:List (Addr×Obj)) (s:Shared) (σ:St) (H:Hp) (E:Value→Shared→Prop),Inv X pins σ H s→(∀ b∈fp,z72 X pins H b)→tn i s.heap→J.stop i H →
  wpAny (model P w) X.A (pyNext (.ref it)) (fun r s1=>r=none∧Inv X pins σ H s1) E s
 self:∀ (A:Around) (i:Nat) (s:Shared) (Q:Value→Shared→Prop) (E:Value→Shared→Prop),tn i s.heap→Q (.ref it) s→wpAny (model P w) A (pyIter (.ref it)) Q E s
noncomputable abbrev TI:=St→Hp→(It→Hp→Prop)→Prop
noncomputable def PIE (X:Cx) (pins:List (Addr×Obj)) (σ:St) (tg:Expr) (R:It→Hp→Prop) (itv:Value) (s2:Shared):Prop :=
 ∃ (it:Addr) (fp:List Addr) (tn:Nat→Heap→Prop) (J:It) (H':Hp),itv=.ref it∧Inv X pins σ H' s2∧Turn X.prog X.w X.K tg J fp it tn∧tn 0 s2.heap∧(∀ b∈fp,z72 X pins H' b)∧R J H'
noncomputable def PI (X:Cx) (tg iter:Expr) (wi:TI):Prop :=
 ∀ (pins:List (Addr×Obj)) (s:Shared) (σ:St) (H:Hp) (R:It→Hp→Prop),Inv X pins σ H s→wi σ H R →
  wpAny (model X.prog X.w) X.A (eval iter X.env) (fun v s1=>wpAny (model X.prog X.w) X.A (pyIter v) (PIE X pins σ tg R) X.xe s1) X.xe s
theorem zv9 {M:Model} {A:Around} {E:Value→Shared→Prop} {s:Shared} {tg:Expr} {it:Addr} {u:Value} {o:Obj} {n:String} {vs:Array Value} {Q:Unit→Shared→Prop} (ho:s.heap.get? it=some o) (hc:o.cls=.type n) (hd:o.data=.fields vs)
  (hn:["enumerate", "zip", "dict_itemiterator", "dict_reverseitemiterator", "odict_iterator", "itertools.zip_longest", "itertools.pairwise"].contains n=false) (hQ:Q () s):wpAny M A (letOwnedTupleGo tg (.ref it) u) Q E s:=by
 unfold letOwnedTupleGo
 cases tg <;> first
  | exact wpAny_pure hQ
  | (cases u <;> first
    | exact wpAny_pure hQ
    | (refine wpAny_bind (wpAny_load ho ?_);rw [hc,hd];show wpAny M A (if (["enumerate", "zip", "dict_itemiterator", "dict_reverseitemiterator", "odict_iterator", "itertools.zip_longest", "itertools.pairwise"].contains n&&vs[0]?==some (rawInt _))=true then _ else _) Q E s;rw [if_neg (by intro h;rw [hn,Bool.false_and] at h;cases h)];exact wpAny_pure hQ))
noncomputable def Itl (K:PySem.W.Frag) (a:Addr):It :=
 ⟨fun i H=>∃ xs x,SqL K H a xs∧xs[i]?=some x,fun i H x H'=>H'=H∧∀ xs,SqL K H a xs→xs[i]?=some x,fun i H=>∃ xs,SqL K H a xs∧xs.length≤i⟩
noncomputable def Itr (lo:Int) (n:Nat):It:=⟨fun i _=>i<n,fun i H x H'=>H'=H∧x=.int (lo+i),fun i _=>n≤i⟩
theorem zi5 {P:Program} {w:World} {K:PySem.W.Frag} {tg:Expr} (a it:Addr):Turn P w K tg (Itl K a) [it] it (fun i h=>h.IsListIter it a i) where
 mem:=by simp
 obj:=fun i h st b hb=>by
  have e:b=it:=by simpa using hb
  subst e
  obtain ⟨o,e,c,d⟩:=st
  exact ⟨o,e,fun v z=>by rw [d] at z;cases z⟩
 keep:=fun i h h' st k=>st.at fun o e=>k it (by simp) o e
 item:=by
  intro X hP hw hK hc i pins s σ H E I hf st hg
  subst hP hw hK
  refine bq fun bG=>?_
  obtain ⟨xs,x,hq,hx⟩:=hg
  obtain ⟨its,rv,p,hz⟩:=I.list hq
  obtain ⟨u,hu,ru⟩:=rv.get hx
  obtain ⟨f0,f1,f2,f3,f4,f5⟩:=hf it (by simp)
  refine bG (wpAny_pyNext_list_item st p.isList (x:=u) (by simpa using hu) fun h' st' sb=>?_)
  have I1:Inv X pins σ H { s with heap:=h' }:=I.turned (t':=s.toks) (fun b o hb e=>(sb.2 b hb).trans e) f0 f1 f3 f4 f5
  obtain ⟨o,e,c,d⟩:=id st'
  exact ⟨u,rfl,zv9 (s:={ s with heap:=h' }) e c d (by decide) ⟨x,H,I1,ru,⟨rfl,fun ys hy=>by rw [I.list_inj hy hq];exact hx⟩,st',fun b hb=>(hf b hb).1⟩⟩
 done:=by
  intro X hP hw hK hc i pins s σ H E I hf st hg
  subst hP hw hK
  obtain ⟨xs,hq,hx⟩:=hg
  obtain ⟨its,rv,p,hz⟩:=I.list hq
  obtain ⟨f0,f1,f2,f3,f4,f5⟩:=hf it (by simp)
  have hl:=rv.length
  exact wpAny_pyNext_list_end (I.ok.hd hc) st p.isList (by simp;omega) fun h' eb=>⟨rfl,I.turned (t':=s.toks) (fun b o hb e=>eb b o hb e) f0 f1 f3 f4 f5⟩
 self:=fun _ _ _ _ _ st h=>wpAny_pyIter_listiter st h
theorem za0 {P:Program} {w:World} {K:PySem.W.Frag} {tg:Expr} (it:Addr) (lo:Int) (n:Nat):Turn P w K tg (Itr lo n) [it] it (fun i h=>IsRangeIter h it (lo+(i:Nat)*1) ((n:Int) - (i:Nat)) 1) where
 mem:=by simp
 obj:=fun i h st b hb=>by
  have e:b=it:=by simpa using hb
  subst e
  exact ⟨_,st,fun v z=>by
   have z':Data.fields _=Data.cell v:=z
   cases z'⟩
 keep:=fun i h h' st k=>k it (by simp) _ st
 item:=by
  intro X hP hw hK hc i pins s σ H E I hf st hg
  subst hP hw hK
  refine bq fun bG=>?_
  obtain ⟨f0,f1,f2,f3,f4,f5⟩:=hf it (by simp)
  have W:=Walks.range (prog:=X.prog) (w:=X.w) (I.ok.hd hc) it lo 1 n
  refine bG (W.item i s _ _ hg st fun v h' tk hv st' kk=>?_)
  refine bq fun bG=>?_
  obtain ⟨t,rfl⟩:=hv
  have I1:Inv X pins σ H { s with heap:=h',toks:=tk }:=I.turned (fun b o hb e=>kk b o (by simpa using hb) e) f0 f1 f3 f4 f5
  refine bG (⟨_,rfl,zv9 (s:={ s with heap:=h',toks:=tk }) (n := "range_iterator") st' rfl rfl (by decide) ⟨.int (lo+i),H,I1,⟨t,?_⟩,⟨rfl,rfl⟩,st',fun b hb=>(hf b hb).1⟩⟩)
  rw [Int.mul_one]
 done:=by
  intro X hP hw hK hc i pins s σ H E I hf st hg
  subst hP hw hK
  obtain ⟨f0,f1,f2,f3,f4,f5⟩:=hf it (by simp)
  exact wpAny_pyNext_range_end (I.ok.hd hc) st (by have:n≤i:=hg;omega) fun h' eb=>⟨rfl,I.turned (t':=s.toks) (fun b o hb e=>eb b o hb e) f0 f1 f3 f4 f5⟩
 self:=fun _ _ _ _ _ st h=>wpAny_pyIter_rangeiter st h
section
variable {X:Cx} {tg:Expr}
def zv6 (K:PySem.W.Frag) (tl:TE):TI:=fun σ H R=>tl σ H fun x H1=>∃ a,x=.ref a∧(∃ xs,SqL K H1 a xs)∧R (Itl K a) H1
theorem zjh {l:Expr} {tl:TE} (hl:PE X l tl):PI X tg l (zv6 X.K tl):=by
 intro pins s σ H R I h
 refine thn (hl pins s σ H _ I h) fun v s1 hm=>?_
 refine bq fun bG=>?_
 obtain ⟨x,H1,I1,r1,q1⟩:=hm
 refine bG (bq fun bG=>?_)
 obtain ⟨a,e,⟨xs,hq⟩,q⟩:=q1
 subst e
 cases r1
 obtain ⟨its,rv,p,hz⟩:=I1.list hq
 refine bG (wpAny_pyIter_list p.isList ?_)
 refine ⟨s1.heap.objs.size,[s1.heap.objs.size],_,_,H1,rfl,I1.kept (t':=s1.toks) fun b o e=>Heap.get?_push_of_some _ e,zi5 a _,⟨_,Heap.get?_push_size _ rfl,rfl,rfl⟩,fun b hb=>?_,q⟩
 have e:b=s1.heap.objs.size:=by simpa using hb
 subst e
 exact I1.fpOk (Nat.le_refl _) (I1.hok.fresh (Nat.le_refl _))
theorem zez {pins:List (Addr×Obj)} {σ:St} {H:Hp} {s:Shared} {R:It→Hp→Prop} {E:Value→Shared→Prop} {lo hi:Int} {t u v:Tok} {tk:Nat} (I:Inv X pins σ H s) (h1:-(2 ^ 62)≤lo) (h2:lo<2 ^ 62) (h3:-(2 ^ 62)≤hi) (h4:hi<2 ^ 62)
  (q:R (Itr lo (hi - lo).toNat) H):wpAny (model X.prog X.w) X.A (pyIter (.ref s.heap.objs.size)) (PIE X pins σ tg R) E { s with heap:=s.heap.push { cls:=.type "range",data:=.fields #[.int lo t,.int hi u,.int 1 v] },toks:=tk }:=by
 refine wpAny_pyIter_range (IsRange.new ..) (small_one h1 h2 h3 h4) ?_
 have I1:Inv X pins σ H { s with heap:=s.heap.push { cls:=.type "range",data:=.fields #[.int lo t,.int hi u,.int 1 v] },toks:=tk }:=I.kept fun b o e=>Heap.get?_push_of_some _ e
 refine ⟨(s.heap.push { cls:=.type "range",data:=.fields #[.int lo t,.int hi u,.int 1 v] }).objs.size,[(s.heap.push { cls:=.type "range",data:=.fields #[.int lo t,.int hi u,.int 1 v] }).objs.size],_,_,H,rfl,
  I1.kept (t':=tk) fun b o e=>Heap.get?_push_of_some _ e,za0 _ lo (hi - lo).toNat,?_,fun b hb=>?_,q⟩
 ·have e1:lo+((0:Nat):Int)*1=lo:=by simp
  have e2:(((hi - lo).toNat:Nat):Int) - ((0:Nat):Int)=Builtin.Range.rangeSize lo hi 1:=by rw [rangeSize_one];split <;> omega
  show IsRangeIter _ _ (lo+((0:Nat):Int)*1) ((((hi - lo).toNat:Nat):Int) - ((0:Nat):Int)) 1
  rw [e1,e2]
  exact Heap.get?_push_size _ rfl
 ·have e:b=(s.heap.push { cls:=.type "range",data:=.fields #[.int lo t,.int hi u,.int 1 v] }).objs.size:=by simpa using hb
  subst e
  exact I1.fpOk (Nat.le_refl _) (I1.hok.fresh (Nat.le_refl _))
def zv5 (ta:TA):TI:=fun σ H R=>ta σ H fun vs H1=>∃ j:Int,vs=[.int j]∧-(2 ^ 62)≤j∧j<2 ^ 62∧R (Itr 0 j.toNat) H1
theorem zjg {a:Expr} {ta:TA} {p pos:Pos} (hg:Gl X "range") (hm:X.mg "range" = none) (ha:PA X [a] ta) (hs:starEach [a] X.env=[(false,eval a X.env)]:=by rfl):PI X tg (.Call (.Name "range" p) [a] [] pos) (zv5 ta):=by
 intro pins s σ H R I h
 refine Call_ (z76 I hg hm boot_range (PyProof.Rows.callWith_type1 (thn (ha pos pins s σ H _ I h) fun us s1 hm=>?_) hs rfl))
 obtain ⟨vs,H1,I1,r1,q1⟩:=hm
 obtain ⟨j,e,q1,q2,q⟩:=q1
 subst e
 cases r1 with
 | cons r rr =>
  cases rr
  refine bq fun bG=>?_
  obtain ⟨t,rfl⟩:=r
  exact bG (call_range_1 (zez I1 (by omega) (by omega) q1 q2 (by simpa using q)))
def zye (wi:TI) (g:TG) (tb:TS):TS:=fun D σ H=>wi σ H fun J H1=>∃ W:Nat→Nat→St→Hp→Prop,(∃ m,W 0 m σ H1)∧∀ i m σ H,W i m σ H →
 (J.stop i H∧D.nx σ H)∨(J.go i H∧∃ N:St→Hp→Prop,(∀ σ' H',N σ' H'→∃ m',m'<m∧W (i+1) m' σ' H')∧∀ x H',J.yld i H x H'→g x σ H' fun σ2 H2=>tb { D with nx:=N,ct:=N,bk:=D.nx } σ2 H2)
noncomputable def z74 (fp:List Addr) (h:Heap):List (Addr×Obj):=fp.filterMap fun b=>(h.get? b).map fun o=>(b,o)
theorem z1d {fp:List Addr} {h:Heap} {b:Addr} {o:Obj} (hb:b∈fp) (e:h.get? b=some o):(b,o)∈z74 fp h:=List.mem_filterMap.mpr ⟨b,hb,by rw [e];rfl⟩
theorem zjj {fp:List Addr} {h:Heap} {p:Addr×Obj} (hp:p∈z74 fp h):p.1∈fp∧h.get? p.1=some p.2:=by
 obtain ⟨b,hb,e⟩:=List.mem_filterMap.mp hp
 cases q:h.get? b with
 | none=>rw [q] at e;cases e
 | some o =>
  rw [q] at e
  have e':(b,o)=p:=Option.some.inj e
  subst e'
  exact ⟨hb,q⟩
theorem Inv.pinned {pins:List (Addr×Obj)} {σ:St} {H:Hp} {s:Shared} {fp:List Addr} (I:Inv X pins σ H s) (hf:∀ b∈fp,z72 X pins H b) (ho:∀ b∈fp,∃ o,s.heap.get? b=some o∧∀ v,o.data≠.cell v):Inv X (pins++z74 fp s.heap) σ H s :=
 I.pins_of fun p hp=>(List.mem_append.mp hp).elim (fun z=>I.pin p (List.mem_append_right _ z)) fun z=>by
  obtain ⟨hb,e⟩:=zjj z
  obtain ⟨f0,f1,f2,_⟩:=hf p.1 hb
  obtain ⟨o,e',d⟩:=ho p.1 hb
  rw [e] at e';cases e'
  exact ⟨e,f0,f1,f2,d⟩
theorem Inv.unpinned {pins pl:List (Addr×Obj)} {σ:St} {H:Hp} {s:Shared} (I:Inv X (pins++pl) σ H s):Inv X pins σ H s:=I.pins_of fun p hp=>I.pin p (List.mem_append_right _ (List.mem_append_left _ hp))
theorem zov {iter:Expr} {body:List Stmt} {wi:TI} {g:TG} {tb:TS} {pos:Pos} (hp:PassesOwn (model X.prog X.w) X.A X.env X.xe) (hc:X.calm=true) (hi:PI X tg iter wi) (hg:PG X tg g) (hb:PSs X body tb)
  (hs:∀ x,foldedSetIterable iter X.env x=pure x:=by intro _;rfl):PS X (.For tg iter body [] pos) (zye wi g tb):=by
 intro pins s σ H D I h
 refine wpAny_For (thn (hi pins s σ H _ I h) fun v s1 h1=>thn h1 fun itv s2 h2=>?_) hs
 obtain ⟨it,fp,tn,J,H2,e,I2,T,st2,f2,W,⟨m0,w0⟩,turn⟩:=h2
 subst e
 have stat:∀ {H':Hp},(∀ b∈fp,H' b=none)→∀ b∈fp,z72 X pins H' b:=fun hn b hb=>⟨hn b hb,(f2 b hb).2⟩
 refine codeAny_forLoop_any (fun n s'=>∃ i σ' H',Inv X pins σ' H' s'∧tn i s'.heap∧(∀ b∈fp,H' b=none)∧W i n σ' H') ?_ m0 ⟨0,σ,H2,I2,st2,fun b hb=>(f2 b hb).1,w0⟩
 rintro n s3 ⟨i,σ3,H3,I3,st3,fr3,w3⟩
 rcases turn i n σ3 H3 w3 with ⟨stop,qn⟩ | ⟨go,N,hN,step⟩
 ·refine wpAny_passesOwn hp (thn (T.done X rfl rfl rfl hc i pins s3 σ3 H3 X.xe I3 (stat fr3) st3 stop) fun r s4 ⟨hr,I4⟩=>?_)
  subst hr
  exact wpAny_execs_nil ⟨σ3,H3,I4,qn⟩
 ·refine wpAny_passesOwn hp (thn (T.item X rfl rfl rfl hc i pins s3 σ3 H3 X.xe I3 (stat fr3) st3 go) fun r s4 ⟨u,hr,h4⟩=>?_)
  subst hr
  refine wpAny_passesOwn hp (thn h4 fun _ s5 hm=>?_)
  refine bq fun bG=>?_
  obtain ⟨x,H5,I5,r5,y5,st5,fr5⟩:=hm
  have I5':=I5.pinned (stat fr5) (T.obj _ _ st5)
  refine bG (wpAny_passesOwn hp (thn (hg _ s5 σ3 H5 x u _ I5' r5 (step x H5 y5)) fun _ s6 hm=>?_))
  refine bq fun bG=>?_
  obtain ⟨σ6,H6,I6,q6⟩:=hm
  refine bG (wpAny_passesOwn hp (thn (hb _ s6 σ6 H6 _ I6 q6) fun f s7 q7=>?_))
  have again:∀ {σ7:St} {H7:Hp},Inv X (pins++z74 fp s5.heap) σ7 H7 s7→N σ7 H7→∃ m,m<n∧∃ i σ' H',Inv X pins σ' H' s7∧tn i s7.heap∧(∀ b∈fp,H' b=none)∧W i m σ' H':=fun {σ7 H7} I7 n7=>by
   refine bq fun bG=>?_
   obtain ⟨m',hm,w7⟩:=hN σ7 H7 n7
   refine bG (⟨m',hm,i+1,σ7,H7,I7.unpinned,T.keep _ _ _ st5 fun b hb o e=>(I7.pin (b,o) (List.mem_append_right _ (List.mem_append_right _ (z1d hb e)))).1,fun b hb=>?_,w7⟩)
   refine bq fun bG=>?_
   obtain ⟨o,e,d⟩:=T.obj _ _ st5 b hb
   exact bG ((I7.pin (b,o) (List.mem_append_right _ (List.mem_append_right _ (z1d hb e)))).2.1)
  cases f with
  | next=>obtain ⟨σ7,H7,I7,n7⟩:=q7;exact again I7 n7
  | cont=>obtain ⟨σ7,H7,I7,n7⟩:=q7;exact again I7 n7
  | brk=>obtain ⟨σ7,H7,I7,q7⟩:=q7;exact ⟨σ7,H7,I7.unpinned,q7⟩
  | ret v=>obtain ⟨x7,σ7,H7,I7,r7,q7⟩:=q7;exact ⟨x7,σ7,H7,I7.unpinned,r7,q7⟩
end
noncomputable abbrev R2:=V→V→Hp→VK→Prop
noncomputable def OpR (X:Cx) (f:Value→Value→Sem Value) (r:R2):Prop :=
 ∀ (pins:List (Addr×Obj)) (s:Shared) (σ:St) (H:Hp) (x y:V) (v u:Value) (Q:VK),Inv X pins σ H s→RelV x v→RelV y u→r x y H Q →
  wpAny (model X.prog X.w) X.A (f v u) (EP X pins σ Q) X.xe s
noncomputable def UnR (X:Cx) (f:Value→Sem Value) (r:V→Hp→VK→Prop):Prop :=
 ∀ (pins:List (Addr×Obj)) (s:Shared) (σ:St) (H:Hp) (x:V) (v:Value) (Q:VK),Inv X pins σ H s→RelV x v→r x H Q →
  wpAny (model X.prog X.w) X.A (f v) (EP X pins σ Q) X.xe s
noncomputable def z60 (X:Cx) (f:Value) (r:List V→Hp→VK→Prop):Prop :=
 ∀ (pins:List (Addr×Obj)) (s:Shared) (σ:St) (H:Hp) (xs:List V) (us:List Value) (Q:VK),Inv X pins σ H s→Vals xs us→r xs H Q →
  wpAny (model X.prog X.w) X.A (call f us) (EP X pins σ Q) X.xe s
noncomputable def zz0 (X:Cx) (r:V→Hp→(Bool→Hp→Prop)→Prop):Prop :=
 ∀ (pins:List (Addr×Obj)) (s:Shared) (σ:St) (H:Hp) (x:V) (v:Value) (Q:Bool→Hp→Prop),Inv X pins σ H s→RelV x v→r x H Q →
  wpAny (model X.prog X.w) X.A (truthy v) (TP X pins σ Q) X.xe s
def tOp (r:R2) (ta tb:TE):TE:=fun σ H Q=>ta σ H fun x H1=>tb σ H1 fun y H2=>r x y H2 Q
def tUn (r:V→Hp→VK→Prop) (ta:TE):TE:=fun σ H Q=>ta σ H fun x H1=>r x H1 Q
noncomputable def rI (C:Int→Int→Prop) (g:Int→Int→V):R2:=fun x y H Q=>∃ i j,x=.int i∧y=.int j∧C i j∧Q (g i j) H
noncomputable def rI0 (g:Int→Int→V):R2:=fun x y H Q=>∃ i j,x=.int i∧y=.int j∧Q (g i j) H
def rU (g:Int→V):V→Hp→VK→Prop:=fun x H Q=>∃ i,x=.int i∧Q (g i) H
section
variable {X:Cx} {a b c:Expr} {ta tb tc:TE} {pos:Pos}
theorem zxf (ha:PE X a ta) (hb:PE X b tb) {pins:List (Addr×Obj)} {s:Shared} {σ:St} {H:Hp} {R:V→V→Hp→Prop} (I:Inv X pins σ H s)
  (h:ta σ H fun x H1=>tb σ H1 fun y H2=>R x y H2) {Q:Value→Shared→Prop} {f:Value→Value→Sem Value}
  (hf:∀ v u s2 x y H2,Inv X pins σ H2 s2→RelV x v→RelV y u→R x y H2→wpAny (model X.prog X.w) X.A (f v u) Q X.xe s2) :
  wpAny (model X.prog X.w) X.A (eval a X.env) (fun v s₁=>wpAny (model X.prog X.w) X.A (eval b X.env) (fun u s₂=>wpAny (model X.prog X.w) X.A (f v u) Q X.xe s₂) X.xe s₁) X.xe s:=by
 refine thn (ha pins s σ H _ I h) fun v s1 hm=>?_
 refine bq fun bG=>?_
 obtain ⟨x,H1,I1,r1,q1⟩:=hm
 refine bG (thn (hb pins s1 σ H1 _ I1 q1) fun u s2 hm=>?_)
 refine bq fun bG=>?_
 obtain ⟨y,H2,I2,r2,q2⟩:=hm
 exact bG (hf v u s2 x y H2 I2 r1 r2 q2)
theorem zwo {op:Operator} {r:R2} (ho:OpR X (binaryOp op) r) (ha:PE X a ta) (hb:PE X b tb):PE X (.BinOp a op b pos) (tOp r ta tb):=by
 intro pins s σ H Q I h
 exact wpAny_BinOp (zxf ha hb I h fun v u s2 x y H2 I2 rx ry q=>ho pins s2 σ H2 x y v u Q I2 rx ry q)
theorem ztt {op:UnaryOp} {r:V→Hp→VK→Prop} (ho:UnR X (unaryOp op) r) (ha:PE X a ta):PE X (.UnaryOp op a pos) (tUn r ta):=by
 intro pins s σ H Q I h
 exact UnaryOp_ (thn (ha pins s σ H _ I h) fun v s1 ⟨x,H1,I1,r1,q1⟩=>ho pins s1 σ H1 x v Q I1 r1 q1)
theorem opI {f:Value→Value→Sem Value} {C:Int→Int→Prop} {g:Int→Int→Int}
  (rule:∀ (i j:Int) (t u:Tok) (s:Shared) (Q:Value→Shared→Prop) (E:Value→Shared→Prop),C i j→Q (.int (g i j) s.toks) { s with toks:=s.toks+1 }→wpAny (model X.prog X.w) X.A (f (.int i t) (.int j u)) Q E s) :
  OpR X f (rI C fun i j=>.int (g i j)):=by
 intro pins s σ H x y v u Q I rx ry h
 refine bq fun bG=>?_
 obtain ⟨i,j,rfl,rfl,hc,q⟩:=h
 obtain ⟨t,rfl⟩:=rx
 obtain ⟨t',rfl⟩:=ry
 exact bG (rule i j t t' s _ _ hc ⟨.int (g i j),H,I.tok _,⟨_,rfl⟩,q⟩)
theorem zxv {f:Value→Value→Sem Value} {g:Int→Int→Int}
  (rule:∀ (i j:Int) (t u:Tok) (s:Shared) (Q:Value→Shared→Prop) (E:Value→Shared→Prop),Q (.int (g i j) s.toks) { s with toks:=s.toks+1 }→wpAny (model X.prog X.w) X.A (f (.int i t) (.int j u)) Q E s) :
  OpR X f (rI0 fun i j=>.int (g i j)):=by
 intro pins s σ H x y v u Q I rx ry h
 refine bq fun bG=>?_
 obtain ⟨i,j,rfl,rfl,q⟩:=h
 obtain ⟨t,rfl⟩:=rx
 obtain ⟨t',rfl⟩:=ry
 exact bG (rule i j t t' s _ _ ⟨.int (g i j),H,I.tok _,⟨_,rfl⟩,q⟩)
theorem zwt {f:Value→Value→Sem Value} {g:Int→Int→Bool}
  (rule:∀ (i j:Int) (t u:Tok) (s:Shared) (Q:Value→Shared→Prop) (E:Value→Shared→Prop),Q (.bool (g i j)) s→wpAny (model X.prog X.w) X.A (f (.int i t) (.int j u)) Q E s) :
  OpR X f (rI0 fun i j=>.bl (g i j)):=by
 intro pins s σ H x y v u Q I rx ry h
 refine bq fun bG=>?_
 obtain ⟨i,j,rfl,rfl,q⟩:=h
 obtain ⟨t,rfl⟩:=rx
 obtain ⟨t',rfl⟩:=ry
 exact bG (rule i j t t' s _ _ ⟨.bl (g i j),H,I,rfl,q⟩)
def zrz (i j:Int):Prop:=0≤j∧j≤1000000∧i.natAbs<2 ^ 64
def CMul (i j:Int):Prop:=(-(2 ^ 64)<i∧i<2 ^ 64)∨(-(2 ^ 64)<j∧j<2 ^ 64)
theorem CMul.ok {i j:Int} (h:CMul i j):IntMulOk i j:=by
 rcases h with ⟨h1,h2⟩ | ⟨h1,h2⟩
 ·exact .of_left (intBits_le_64 h1 h2)
 ·exact .of_right (intBits_le_64 h1 h2)
theorem op_add:OpR X (binaryOp .Add) (rI0 fun i j=>.int (i+j)):=zxv fun _ _ _ _ _ _ _ q=>add_int q
theorem zu4:OpR X (binaryOp .Sub) (rI0 fun i j=>.int (i - j)):=zxv fun _ _ _ _ _ _ _ q=>sub_int q
theorem op_mul:OpR X (binaryOp .Mult) (rI CMul fun i j=>.int (i*j)):=opI fun _ _ _ _ _ _ _ hc q=>mul_int q hc.ok
theorem zu7:OpR X (binaryOp .Mod) (rI (fun _ j=>0<j) fun i j=>.int (i % j)):=opI fun i j _ _ _ _ _ hc q=>by
 have h1:(0:Int)<j:=hc
 exact mod_int' (by omega) (by rw [Int.fmod_eq_emod_of_nonneg i (by omega)];exact q)
theorem zu6:OpR X (binaryOp .Pow) (rI zrz fun i j=>.int (i ^ j.toNat)):=opI fun _ _ _ _ _ _ _ hc q=>pow_int_small hc.1 hc.2.1 hc.2.2 q
theorem unI {f:Value→Sem Value} {g:Int→Int}
  (rule:∀ (i:Int) (t:Tok) (s:Shared) (Q:Value→Shared→Prop) (E:Value→Shared→Prop),Q (.int (g i) s.toks) { s with toks:=s.toks+1 }→wpAny (model X.prog X.w) X.A (f (.int i t)) Q E s) :
  UnR X f (rU fun i=>.int (g i)):=by
 intro pins s σ H x v Q I rx h
 refine bq fun bG=>?_
 obtain ⟨i,rfl,q⟩:=h
 obtain ⟨t,rfl⟩:=rx
 exact bG (rule i t s _ _ ⟨.int (g i),H,I.tok _,⟨_,rfl⟩,q⟩)
theorem zoi:UnR X (unaryOp .USub) (rU fun i=>.int (-i)):=unI fun _ _ _ _ _ q=>neg_int q
end
section
variable {X:Cx} {a b c:Expr} {ta tb tc:TE} {pos:Pos}
theorem zvb {pins:List (Addr×Obj)} {σ:St} {H:Hp} {s:Shared} {Q:VK} {k k':Bool} (I:Inv X pins σ H s) (q:Q (.bl k) H) (e:k=k'):EP X pins σ Q (.bool k') s:=by
 subst e
 exact ⟨.bl k,H,I,rfl,q⟩
theorem zqy:OpR X (compareOp .Lt) (rI0 fun i j=>.bl (decide (i<j))):=zwt fun _ _ _ _ _ _ _ q=>lt_int q
theorem zu8:OpR X (compareOp .LtE) (rI0 fun i j=>.bl (decide (i≤j))):=zwt fun _ _ _ _ _ _ _ q=>le_int q
theorem zub:OpR X (compareOp .Gt) (rI0 fun i j=>.bl (decide (j<i))):=zwt fun _ _ _ _ _ _ _ q=>gt_int q
theorem zu9:OpR X (compareOp .Is) (fun x y H Q=>y=.non∧Q (.bl (decide (x=.non))) H):=by
 intro pins s σ H x y v u Q I rx ry h
 refine bq fun bG=>?_
 obtain ⟨rfl,q⟩:=h
 cases ry
 refine bG (is_none_gen (zvb I q ?_))
 cases x <;> first
  | (cases rx;rfl)
  | (obtain ⟨t,rfl⟩:=rx;rfl)
theorem OpR.or {f:Value→Value→Sem Value} {r r':R2} (h:OpR X f r) (h':OpR X f r'):OpR X f (fun x y H Q=>r x y H Q∨r' x y H Q):=by
 intro pins s σ H x y v u Q I rx ry q
 rcases q with q | q
 ·exact h pins s σ H x y v u Q I rx ry q
 ·exact h' pins s σ H x y v u Q I rx ry q
theorem z75 (b:Expr) {op:CmpOp} (h:op≠.In:=by decide) (h2:op≠.NotIn:=by decide):behindInMarks op b=false:=by
 have e1:(op==CmpOp.In)=false:=by cases op <;> first | rfl | exact absurd rfl h
 have e2:(op==CmpOp.NotIn)=false:=by cases op <;> first | rfl | exact absurd rfl h2
 cases b <;> simp [behindInMarks,e1,e2]
theorem zqu {op:CmpOp} {r:R2} (ho:OpR X (compareOp op) r) (ha:PE X a ta) (hb:PE X b tb) (hm:behindInMarks op b=false):PE X (.Compare a [op] [b] pos) (tOp r ta tb):=by
 intro pins s σ H Q I h
 exact wpAny_Compare1 (zxf ha hb I h fun v u s2 x y H2 I2 rx ry q=>ho pins s2 σ H2 x y v u Q I2 rx ry q) hm
def zmb (t:TE):TT:=fun σ H Q=>t σ H fun x H'=>∃ k,x=.bl k∧Q k H'
theorem zjb {op:CmpOp} {r:R2} (ho:OpR X (compareOp op) r) (ha:PE X a ta) (hb:PE X b tb) (hm:behindInMarks op b=false):PT X (.Compare a [op] [b] pos) (zmb (tOp r ta tb)):=by
 intro pins s σ H Q I h
 refine wpAny_isTrue_Compare1 (thn (ha pins s σ H _ I h) fun v s1 ⟨x,H1,I1,r1,q1⟩=>thn (hb pins s1 σ H1 _ I1 q1) fun u s2 ⟨y,H2,I2,r2,q2⟩ =>
  thn (ho pins s2 σ H2 x y v u _ I2 r1 r2 q2) fun c s3 ⟨z,H3,I3,r3,k,e,q3⟩=>?_) hm
 subst e
 cases r3
 exact wpAny_truthy_bool ⟨H3,I3,q3⟩
def zom (r r':R2) (ta tb tc:TE):TE:=fun σ H Q=>ta σ H fun x H1=>tb σ H1 fun y H2=>r x y H2 fun z H3=>∃ k,z=.bl k ∧
 (if k=true then tc σ H3 fun w' H4=>r' y w' H4 Q else Q (.bl false) H3)
theorem zmu {op op':CmpOp} {r r':R2} (ho:OpR X (compareOp op) r) (ho':OpR X (compareOp op') r') (ha:PE X a ta) (hb:PE X b tb) (hc:PE X c tc)
  (hm:lastMarks [op,op'] [b,c]=false:=by with_unfolding_all rfl):PT X (.Compare a [op,op'] [b,c] pos) (zmb (zom r r' ta tb tc)):=by
 intro pins s σ H Q I h
 refine isTrue_chain (thn (ha pins s σ H _ I h) fun v s1 ⟨x,H1,I1,r1,q1⟩=>test_link (thn (hb pins s1 σ H1 _ I1 q1) fun u s2 ⟨y,H2,I2,r2,q2⟩ =>
  thn (ho pins s2 σ H2 x y v u _ I2 r1 r2 q2) fun d s3 ⟨z,H3,I3,r3,k,e,q3⟩=>?_)) hm
 subst e
 cases r3
 refine wpAny_truthy_bool ?_
 cases k with
 | false =>
  obtain ⟨k',e',q'⟩:=q3
  cases e'
  exact ite_ff ⟨H3,I3,q'⟩
 | true =>
  refine ite_tt (test_last (thn (hc pins s3 σ H3 _ I3 q3) fun w' s4 ⟨z',H4,I4,r4,q4⟩=>thn (ho' pins s4 σ H4 y z' u w' _ I4 r2 r4 q4) fun d' s5 hm=>?_))
  refine bq fun bG=>?_
  obtain ⟨z2,H5,I5,r5,k2,e2,q5⟩:=hm
  subst e2
  cases r5
  exact bG (wpAny_truthy_bool ⟨H5,I5,q5⟩)
noncomputable def zxg (K:PySem.W.Frag) (x:V) (H:Hp) (k:Bool):Prop :=
 match x with
 | .non=>k=false
 | .bl b=>k=b
 | .int i=>k=(i != 0)
 | .str y=>y.length≤sizeLine∧k=((y.length:Int) != 0)
 | .byt y=>y.size≤sizeLine∧k=((y.size:Int) != 0)
 | .ref p=>(∃ xs,SqL K H p xs∧k=!xs.isEmpty)∨(∃ xs,SqT K H p xs∧k=!xs.isEmpty)∨∃ kvs,H p=some (.dK kvs)∧k=!kvs.isEmpty
 | _=>False
theorem zgr {κ:Type} {kvs:List (κ×V)} {vs:List (κ×Value)} (r:KV kvs vs):(!vs.isEmpty)=!kvs.isEmpty:=by
 cases r <;> rfl
theorem za8 {xs:List V} {its:List Value} (r:Vals xs its):(!its.toArray.isEmpty)=!xs.isEmpty:=by
 cases r <;> simp
theorem za7:(sizeLine:Nat)<2 ^ 63:=by rw [sizeLine_eq];decide
theorem zso:zz0 X (fun x H Q=>∃ k,zxg X.K x H k∧Q k H):=by
 intro pins s σ H x v Q I rx h
 obtain ⟨k,e,q⟩:=h
 have hl:=za7
 have hs:sizeLine=16777216:=sizeLine_eq
 cases x with
 | non =>
  cases rx
  have e':k=false:=e
  subst e'
  exact truthy_none ⟨H,I,q⟩
 | bl b =>
  cases rx
  have e':k=b:=e
  subst e'
  exact wpAny_truthy_bool ⟨H,I,q⟩
 | int i =>
  obtain ⟨t,rfl⟩:=rx
  have e':k=(i != 0):=e
  subst e'
  exact PySem.P.truthy_int ⟨H,I,q⟩
 | str y =>
  obtain ⟨t,rfl⟩:=rx
  obtain ⟨hy,e'⟩:y.length≤sizeLine∧k=((y.length:Int) != 0):=e
  subst e'
  exact PySem.P.truthy_str (by omega) ⟨H,I.tok _,q⟩
 | byt y =>
  obtain ⟨t,rfl⟩:=rx
  obtain ⟨hy,e'⟩:y.size≤sizeLine∧k=((y.size:Int) != 0):=e
  subst e'
  exact PySem.W.truthy_bytes (by omega) ⟨H,I.tok _,q⟩
 | ref p =>
  cases rx
  have e':(∃ xs,SqL X.K H p xs∧k=!xs.isEmpty)∨(∃ xs,SqT X.K H p xs∧k=!xs.isEmpty)∨∃ kvs,H p=some (.dK kvs)∧k=!kvs.isEmpty:=e
  rcases e' with ⟨xs,hx,e'⟩ | ⟨xs,hx,e'⟩ | ⟨kvs,hx,e'⟩
  ·subst e'
   obtain ⟨its,r,pl,hz⟩:=I.list hx
   have hlen:=r.length
   exact wpAny_truthy_list pl.isList (by simp only [List.size_toArray];omega) ⟨H,I.tok _,by rw [za8 r];exact q⟩
  ·subst e'
   obtain ⟨its,r,pl,hz⟩:=I.tuple hx
   have hlen:=r.length
   exact truthy_tuple pl (by simp only [List.size_toArray];omega) ⟨H,I.tok _,by rw [za8 r];exact q⟩
  ·subst e'
   obtain ⟨hz,hS,vs,r,m⟩:kvs.length≤sizeLine∧(p==sysModules)=false∧∃ vs,KV kvs vs∧s.heap.DictOf (z16 X.prog X.w) p vs:=I.hok p _ hx
   have hlen:kvs.length=vs.length:=Paired.length r
   exact wpAny_truthy_dict hS m (by omega) ⟨H,I.tok _,by rw [zgr r];exact q⟩
 | _=>exact (show False from e).elim
theorem zmt (ha:PE X a ta) (he:∀ whole,isTrue a X.env whole=(do let v ← whole;standAt a.pos;holding [v] (truthy v))) :
  PT X a (fun σ H Q=>ta σ H fun x H'=>∃ k,zxg X.K x H' k∧Q k H'):=by
 intro pins s σ H Q I h
 exact isTrue_plain (thn (ha pins s σ H _ I h) fun v s1 ⟨x,H1,I1,r1,q1⟩=>zso pins s1 σ H1 x v Q I1 r1 q1) (he _)
theorem z96 {x:V} {us:List Value} (r:Vals [x] us):∃ u,us=[u]∧RelV x u:=by
 cases r with
 | cons r1 r2=>cases r2;exact ⟨_,rfl,r1⟩
theorem zhv {x y:V} {us:List Value} (r:Vals [x,y] us):∃ u w',us=[u,w']∧RelV x u∧RelV y w':=by
 cases r with
 | cons r1 r2 =>
  cases r2 with
  | cons r3 r4=>cases r4;exact ⟨_,_,rfl,r1,r3⟩
theorem zl3 (hc:X.calm=true):z60 X (.builtin "max") (fun xs H Q=>∃ i j,xs=[.int i,.int j]∧Q (.int (if j > i then j else i)) H):=by
 intro pins s σ H xs us Q I r h
 refine bq fun bG=>?_
 obtain ⟨i,j,rfl,q⟩:=h
 obtain ⟨u,w',rfl,⟨t,rfl⟩,⟨t',rfl⟩⟩:=zhv r
 refine bG (max_two_ints (I.ok.hd hc) fun h' tk k=>⟨_,H,I.kept k,?_,q⟩)
 by_cases hj:j > i
 ·rw [if_pos hj,if_pos hj];exact ⟨_,rfl⟩
 ·rw [if_neg hj,if_neg hj];exact ⟨_,rfl⟩
theorem zl2 (hc:X.calm=true):z60 X (.builtin "min") (fun xs H Q=>∃ i j,xs=[.int i,.int j]∧Q (.int (if j<i then j else i)) H):=by
 intro pins s σ H xs us Q I r h
 refine bq fun bG=>?_
 obtain ⟨i,j,rfl,q⟩:=h
 obtain ⟨u,w',rfl,⟨t,rfl⟩,⟨t',rfl⟩⟩:=zhv r
 refine bG (min_two_ints (I.ok.hd hc) fun h' tk k=>⟨_,H,I.kept k,?_,q⟩)
 by_cases hj:j<i
 ·rw [if_pos hj,if_pos hj];exact ⟨_,rfl⟩
 ·rw [if_neg hj,if_neg hj];exact ⟨_,rfl⟩
theorem zl6:z60 X (.type "int") (fun xs H Q=>(∃ i,xs=[.int i]∧Q (.int i) H)∨∃ k,xs=[.bl k]∧Q (.int (if k then 1 else 0)) H):=by
 intro pins s σ H xs us Q I r h
 rcases h with ⟨i,rfl,q⟩ | ⟨k,rfl,q⟩
 ·obtain ⟨u,rfl,t,rfl⟩:=z96 r
  exact call_int_int ⟨.int i,H,I,⟨_,rfl⟩,q⟩
 ·obtain ⟨u,rfl,r1⟩:=z96 r
  cases r1
  exact call_int_bool ⟨.int (if k then 1 else 0),H,I.tok _,⟨_,rfl⟩,q⟩
end
section
variable {prog:Program} {w:World} {A:Around} {E:Value→Shared→Prop} {s:Shared} {K:PySem.W.Frag} {x dx C f:Addr} {mA:Str→Option Value} {name:Str} {v:Value}
end
theorem RelO.some_of {v:V} {o:Option Value} (r:RelO (some v) o):∃ u,o=some u∧RelV v u:=by
 cases o with
 | none=>exact (show False from r).elim
 | some u=>exact ⟨u,rfl,r⟩
section
variable {P:Program} {w:World} {H H':Hp} {h h':Heap} {a C dx:Addr} {fs fs':List (Str×V)}
end
section
variable {X:Cx} {pins:List (Addr×Obj)} {σ:St} {H:Hp} {s:Shared} {a C dx:Addr} {fs:List (Str×V)} {f:Str} {v:V} {A:Around} {E:Value→Shared→Prop}
end
section
variable {X:Cx} {o e value:Expr} {f:Str} {pos pos' tpos:Pos} {ta tv:TE}
end
section
variable {X:Cx} {pins:List (Addr×Obj)} {σ:St} {H:Hp} {s:Shared} {A:Around} {E:Value→Shared→Prop} {Q:Value→Shared→Prop} {c:Value} {b:Bool}
end
structure Room (k:Nat) (A:Around):Prop where
 hd:A.handled=none
 dp:A.depth+3*k+5<recursionLimit
 un:A.units+16*k+200<cLine
theorem Room.mono {j k:Nat} {A:Around} (r:Room k A) (h:j≤k):Room j A:=⟨r.hd,by have:=r.dp;omega,by have:=r.un;omega⟩
theorem Room.deeper {k:Nat} {A:Around} (r:Room (k+1) A) (env:Env):Room k (A.deeper env) :=
 ⟨r.hd,by have:=r.dp;show A.depth+1+3*k+5<_;omega,by have:=r.un;show A.units+3+16*k+200<_;omega⟩
theorem Room.depth {k:Nat} {A:Around} (r:Room k A):A.depth<recursionLimit:=by have:=r.dp;omega
theorem Room.units {k:Nat} {A:Around} (r:Room k A):A.units+64<cLine:=by have:=r.un;omega
def zi8:TA:=fun _ H Q=>Q [] H
def z64 (ta:TE) (tr:TA):TA:=fun σ H Q=>ta σ H fun x H1=>tr σ H1 fun xs H2=>Q (x::xs) H2
section
variable {X:Cx} {e:Expr} {es:List Expr} {te:TE} {t:TA} {pos:Pos}
theorem z1g:PA X [] zi8:=fun _ _ _ _ H Q I h=>Calls.spliced_nil ⟨[],H,I,.nil,h⟩
theorem z0q (ha:PE X e te) (hr:PA X es t) (hs:starEach (e::es) X.env=(false,eval e X.env)::starEach es X.env:=by rfl):PA X (e::es) (z64 te t):=by
 intro pos pins s σ H Q I h
 rw [hs]
 show wpAny _ _ (spliced ((false,eval e X.env)::backTo pos (starEach es X.env))) _ _ s
 refine Calls.spliced_cons (thn (ha pins s σ H _ I h) fun u s1 hm=>?_)
 refine bq fun bG=>?_
 obtain ⟨x,H1,I1,r1,q1⟩:=hm
 exact bG (thn (hr pos pins s1 σ H1 _ I1 q1) fun us s2 ⟨xs,H2,I2,r2,q2⟩=>⟨x::xs,H2,I2,.cons r1 r2,q2⟩)
def zy7 (t:TA):TE:=fun σ H Q=>t σ H fun xs H1=>xs.length≤sizeLine∧∀ p,H1 p=none→Q (.ref p) (upd H1 p (.tup xs))
def zyc (t:TA):TE:=fun σ H Q=>t σ H fun xs H1=>xs.length≤sizeLine∧∀ p,H1 p=none→Q (.ref p) (upd H1 p (.lst xs))
theorem zox {x1} (h:PA X es t):PE X (.Tuple es x1 pos) (zy7 t):=by
 intro pins s σ H Q I hq
 refine wpAny_Tuple_spliced (thn (h pos pins s σ H _ I hq) fun us s1 ⟨xs,H1,I1,r,z,q⟩=>⟨by rw [← r.length];exact z,?_⟩)
 have hf:H1 s1.heap.objs.size=none:=I1.hok.fresh (Nat.le_refl _)
 refine ⟨.ref s1.heap.objs.size,upd H1 s1.heap.objs.size (.tup xs),I1.laid (t':=s1.toks) (fun b u e=>Heap.get?_push_of_some _ e) (Nat.le_refl _) ?_,rfl,q _ hf⟩
 exact ⟨z,us,r,⟨_,Heap.get?_push_size _ rfl,rfl,_,rfl⟩⟩
theorem zoz (h:PA X es t):PE X (.List es pos) (zyc t):=by
 intro pins s σ H Q I hq
 refine wpAny_List_spliced (thn (h pos pins s σ H _ I hq) fun us s1 ⟨xs,H1,I1,r,z,q⟩=>⟨by rw [← r.length];exact z,?_⟩)
 have hf:H1 s1.heap.objs.size=none:=I1.hok.fresh (Nat.le_refl _)
 refine ⟨.ref s1.heap.objs.size,upd H1 s1.heap.objs.size (.lst xs),I1.laid (t':=s1.toks) (fun b u e=>Heap.get?_push_of_some _ e) (Nat.le_refl _) ?_,rfl,q _ hf⟩
 exact ⟨z,us,0,r,Heap.get?_push_size _ rfl⟩
end
noncomputable abbrev Sp:=List V→Hp→VK→XK→Prop
noncomputable abbrev CXT:=List Env→Hp→Shared→XK→Value→Shared→Prop
structure Env0 (P:Program) (w:World) (K:PySem.W.Frag) (mg:Str→Option Value) (base:Heap) (A:Around) (outer:List Env) (s:Shared) (H:Hp):Prop where
 frames:A.frames=some outer
 mod:Mod K mg base
 bs:∀ b o,base.get? b=some o→s.heap.get? b=some o∧H b=none
 bsz:base.objs.size≤s.heap.objs.size
 funs:s.heap.FunFrames base outer
 frf:∀ b∈frs outer,H b=none
 hok:HOk P w H s.heap
 bare:AllBare s.gens
noncomputable def CE (outer:List Env) (P:Program) (w:World) (H:Hp) (s:Shared) (Q:VK) (u:Value) (s':Shared):Prop :=
 ∃ v H',s'.os=s.os∧AllBare s'.gens∧Un (frs outer) [] H H' s.heap s'.heap∧HOk P w H' s'.heap∧RelV v u∧Q v H'
noncomputable def CR (CX:CXT) (outer:List Env) (P:Program) (w:World) (H:Hp) (s:Shared) (Q:VK) (E:XK) (r:Result) (s':Shared):Prop :=
 match r with
 | .ok (.ret u)=>CE outer P w H s Q u s'
 | .ok _=>False
 | .error e=>CX outer H s E e s'
structure FnOk (P:Program) (w:World) (K:PySem.W.Frag) (mg:Str→Option Value) (base:Heap) (CX:CXT) (k:Nat) (f:Addr) (fd:FuncData) (ps:List Str) (sp:Sp):Prop where
 len:∀ vs H Q E,sp vs H Q E→vs.length=ps.length
 run:∀ (A:Around) (outer:List Env) (s:Shared) (H:Hp) (args:Args) (us:List Value) (vs:List V) (Q:VK) (E:XK),Room k A→Env0 P w K mg base A outer s H→BindsTo s fd args (ps.zip us)→Vals vs us→sp vs H Q E →
  codeAny (model P w) A (.call (.ref f) args) (CR CX outer P w H s Q E) s
theorem FnOk.imp {P:Program} {w:World} {K:PySem.W.Frag} {mg:Str→Option Value} {base:Heap} {CX:CXT} {k:Nat} {f:Addr} {fd:FuncData} {ps:List Str} {sp sp':Sp} (F:FnOk P w K mg base CX k f fd ps sp)
  (h:∀ vs H Q E,sp' vs H Q E→sp vs H Q E):FnOk P w K mg base CX k f fd ps sp' :=
 ⟨fun vs H Q E q=>F.len vs H Q E (h _ _ _ _ q),fun A outer s H args us vs Q E hr he hb hv hs=>F.run A outer s H args us vs Q E hr he hb hv (h _ _ _ _ hs)⟩
section
variable {X:Cx} {pins:List (Addr×Obj)} {σ:St} {H:Hp} {s s':Shared}
theorem Inv.env0 (I:Inv X pins σ H s):Env0 X.prog X.w X.K X.mg X.base X.A X.stack s H :=
 ⟨I.ok.frames,I.ok.mod,I.bs,Nat.le_trans I.ok.bsz I.sz,I.stack,I.stkFree,I.hok,I.bare⟩
theorem Inv.after {Q:VK} {u:Value} (I:Inv X pins σ H s) (h:CE X.stack X.prog X.w H s Q u s'):EP X pins σ Q u s':=by
 obtain ⟨v,H',os,bare,un,hok,r,q⟩:=h
 obtain ⟨hh,g,d,t,os'⟩:=s'
 obtain rfl:os'=s.os:=os
 exact ⟨v,H',I.call (h':=hh) (g':=g) (d':=d) (t':=t) (ch:=[]) un hok bare (fun b z=>absurd z (by simp)),r,q⟩
end
def zst (sp:Sp) (dvs:List V) (E:XK) (t:TA):TE:=fun σ H Q=>t σ H fun vs H1=>sp (vs++dvs) H1 Q E
noncomputable def Binds (K:PySem.W.Frag) (fd:FuncData) (ps:List Str) (ds:List Value):Prop :=
 ∀ (s:Shared) (us:List Value),K.In s.heap→(us++ds).length=ps.length→BindsTo s fd ⟨us,[]⟩ (ps.zip (us++ds))
theorem Binds.all {K:PySem.W.Frag} {fd:FuncData} {ps:List Str} (h:∀ us:List Value,us.length=ps.length→bindArgs fd ⟨us,[]⟩=pure (ps.zip us)):Binds K fd ps []:=fun s us _ hl=>by
 rw [List.append_nil] at hl ⊢
 exact .of_eq (h us hl)
def zfz (CX:CXT) (X:Cx) (E:XK):Prop:=∀ (pins:List (Addr×Obj)) (σ:St) (H:Hp) (s:Shared) (e:Value) (s':Shared),Inv X pins σ H s→CX X.stack H s E e s'→X.xe e s'
section
variable {X:Cx} {CX:CXT} {k:Nat} {f C:Addr} {fd:FuncData} {ps:List Str} {sp:Sp} {dvs:List V} {ds:List Value} {E:XK} {x m:Str} {p pos apos:Pos} {e o:Expr} {es:List Expr} {ta:TE} {t:TA}
theorem zsz {pins:List (Addr×Obj)} {σ:St} {H:Hp} {s:Shared} {Q:VK} {us:List Value} {vs:List V} (F:FnOk X.prog X.w X.K X.mg X.base CX k f fd ps sp) (hr:Room k X.A) (hb:Binds X.K fd ps ds) (hd:Vals dvs ds) (hx:zfz CX X E)
  (I:Inv X pins σ H s) (r:Vals vs us) (h:sp (vs++dvs) H Q E):wpAny (model X.prog X.w) X.A (call (.ref f) us) (EP X pins σ Q) X.xe s:=by
 have r2:Vals (vs++dvs) (us++ds):=r.append hd
 have hl:(us++ds).length=ps.length:=by rw [← r2.length];exact F.len _ _ _ _ h
 refine wpAny_call (codeAny_mono (F.run X.A X.stack s H ⟨us,[]⟩ (us++ds) (vs++dvs) Q E hr I.env0 (hb s us I.kIn hl) r2 h) fun r s' hq=>?_)
 cases r with
 | error e=>exact hx pins σ H s e s' I hq
 | ok fl =>
  cases fl with
  | ret u=>exact I.after hq
  | next=>exact False.elim hq
  | brk=>exact False.elim hq
  | cont=>exact False.elim hq
theorem zqv (F:FnOk X.prog X.w X.K X.mg X.base CX k f fd ps sp) (hr:Room k X.A) (hg:Gl X x) (hm:X.mg x=some (.ref f)) (hk:PySem.W.keepIn X.K (.ref f)=true) (hb:Binds X.K fd ps ds) (hd:Vals dvs ds) (hx:zfz CX X E)
  (ha:PA X (e::es) t) (hdb:(x==("__debug__" : Str))=false:=by decide) (he:starEach (e::es) X.env=(false,eval e X.env)::starEach es X.env:=by rfl) (hpl:(backTo pos (starEach es X.env)).any (·.1)=false:=by rfl) :
  PE X (.Call (.Name x p) (e::es) [] pos) (zst sp dvs E t):=by
 intro pins s σ H Q I h
 refine wpAny_Call_Name_kw (zaz I hg hm ?_ hdb)
 refine PySem.W.callWith_K (h₀:=X.base) I.ok.mod.kin hk (thn (ha pos pins s σ H _ I h) fun us s1 ⟨vs,H1,I1,r,q⟩=>⟨I1.kIn,?_⟩) he hpl
 exact zsz F hr hb hd hx I1 r q
end
section
variable {X:Cx} {CX:CXT} {k:Nat} {f C:Addr} {fd:FuncData} {ps ks:List Str} {sp:Sp} {E:XK} {x m:Str} {p pos apos kpos:Pos} {e o:Expr} {es:List Expr} {kws:List Keyword} {te ta:TE} {t tk:TA} {nm:Option Str}
variable {g:List Value→List Value→List Value} {gV:List V→List V→List V}
end
structure FnScope (N P:List Str) (sc:Scope):Prop where
 kind:sc.kind=.function
 co:sc.isCoroutine=false
 gen:sc.isGenerator=false
 nd:N.Nodup
 pre:N.take P.length=P
 par:∀ x∈P,sc.names.lookup x=some .local∨sc.names.lookup x=some .cell
 nofree:∀ y∈sc.names,y.2≠.free
theorem zcx {kindOf:Str→Option NameKind} {x:Str}:∀ {binds:List (Str×Value)} {m:Str→Option Value},(∀ v,(x,v)∉binds)→bindL kindOf binds m x=m x
 | [],_,_=>rfl
 | (n,v)::r,m,h=>by
  unfold bindL
  rw [zcx fun w hw=>h w (List.mem_cons_of_mem _ hw)]
  split
  ·have:x≠n:=by rintro rfl;exact h v List.mem_cons_self
   simp [this]
  ·rfl
theorem zcz {kindOf:Str→Option NameKind} {x:Str}:∀ {binds:List (Str×Value)} {m:Str→Option Value},(∀ v,(x,v)∉binds)→bindC kindOf binds m x=m x
 | [],_,_=>rfl
 | (n,v)::r,m,h=>by
  unfold bindC
  rw [zcz fun w hw=>h w (List.mem_cons_of_mem _ hw)]
  split
  ·rfl
  ·have:x≠n:=by rintro rfl;exact h v List.mem_cons_self
   simp [this]
theorem zcy {kindOf:Str→Option NameKind} {x:Str} {v:Value}:∀ {P:List Str} {vs:List Value} {i:Nat} {m:Str→Option Value},P.Nodup→P[i]?=some x→vs[i]?=some v→kindOf x=some .local →
  bindL kindOf (P.zip vs) m x=some v
 | [],_,_,_,_,h,_,_=>by simp at h
 | _::_,[],_,_,_,_,h,_=>by simp at h
 | p::P,w::vs,0,m,nd,h1,h2,hk=>by
  simp at h1 h2;subst h1;subst h2
  show bindL kindOf ((p,w)::P.zip vs) m p=_
  unfold bindL
  rw [zcx fun v hv=>(List.nodup_cons.mp nd).1 (List.of_mem_zip hv).1,if_pos hk]
  simp
 | p::P,w::vs,i+1,m,nd,h1,h2,hk=>by
  show bindL kindOf ((p,w)::P.zip vs) m x=_
  unfold bindL
  exact zcy (i:=i) (List.nodup_cons.mp nd).2 (by simpa using h1) (by simpa using h2) hk
theorem zd0 {kindOf:Str→Option NameKind} {x:Str} {v:Value}:∀ {P:List Str} {vs:List Value} {i:Nat} {m:Str→Option Value},P.Nodup→P[i]?=some x→vs[i]?=some v→kindOf x≠some .local →
  bindC kindOf (P.zip vs) m x=some v
 | [],_,_,_,_,h,_,_=>by simp at h
 | _::_,[],_,_,_,_,h,_=>by simp at h
 | p::P,w::vs,0,m,nd,h1,h2,hk=>by
  simp at h1 h2;subst h1;subst h2
  show bindC kindOf ((p,w)::P.zip vs) m p=_
  unfold bindC
  rw [zcz fun v hv=>(List.nodup_cons.mp nd).1 (List.of_mem_zip hv).1,if_neg hk]
  simp
 | p::P,w::vs,i+1,m,nd,h1,h2,hk=>by
  show bindC kindOf ((p,w)::P.zip vs) m x=_
  unfold bindC
  exact zd0 (i:=i) (List.nodup_cons.mp nd).2 (by simpa using h1) (by simpa using h2) hk
noncomputable def zak (N:List Str) (vs:List V):St:=vs.map some++List.replicate (N.length - vs.length) none
noncomputable def z4a (CX:CXT) (P:Program) (w:World) (K:PySem.W.Frag) (mg:Str→Option Value) (base:Heap) (N:List Str) (qual:Str) (scope:Scope) (f:Addr) (cd:Value) (A:Around) (outer:List Env) (s:Shared) (H:Hp) (E:XK):Cx where
 prog:=P
 w:=w
 K:=K
 mg:=mg
 base:=base
 A:=A.deeper (envOfC qual scope s.heap.objs.size f cd)
 N:=N
 s₀:=s
 H₀:=H
 env:=envOfC qual scope s.heap.objs.size f cd
 outer:=outer
 stack:=envOfC qual scope s.heap.objs.size f cd::outer
 ex:=[]
 calm:=true
 fn:=fun _=>true
 pn:=[]
 xe:=fun e s'=>wpAny (model P w) (A.deeper (envOfC qual scope s.heap.objs.size f cd)) (leaving (envOfC qual scope s.heap.objs.size f cd) e) (fun _ s''=>CX outer H s E e s'') (fun e' s''=>CX outer H s E e' s'') s'
theorem zft {sc:Scope} {n:Nat} {x:Str} (h:sc.names.lookup x=some .cell):∃ c,(cellsFrom n sc.names []).lookup x=some c:=by
 have q:=PySem.W.cellsFrom_some sc.names n [] (.inl h)
 exact Option.isSome_iff_exists.mp q
theorem zk5 {CX:CXT} {P:Program} {w:World} {K:PySem.W.Frag} {mg:Str→Option Value} {base:Heap} {N ps:List Str} {qual:Str} {scope:Scope} {f:Addr} {cd:Value} {A:Around} {outer:List Env} {s s1:Shared} {H:Hp} {E:XK} {us:List Value} {vs:List V}
  (S:FnScope N ps scope) (hd:A.handled=none) (e0:Env0 P w K mg base A outer s H) (hl:vs.length=ps.length) (r:Vals vs us)
  (x:InCallC s s.heap.objs.size (bindL (envOfC qual scope s.heap.objs.size f cd).kindOf (ps.zip us) fun _=>none) (cellsFrom (s.heap.objs.size+1) scope.names []) (bindC (envOfC qual scope s.heap.objs.size f cd).kindOf (ps.zip us) fun _=>none) s1) :
  Inv (z4a CX P w K mg base N qual scope f cd A outer s H E) [] (zak N vs) H s1:=by
 have hpl:ps.length≤N.length:=by have:=congrArg List.length S.pre;rw [List.length_take] at this;omega
 obtain ⟨h1,tk,rfl,hk⟩:=x.done
 have noA:∀ b:Addr,b∉(z4a CX P w K mg base N qual scope f cd A outer s H E).ex:=fun b z=>absurd (show b∈([]:List Addr) from z) (by simp)
 refine ⟨⟨e0.mod,S.kind,rfl,rfl,Nat.le_refl _,fun y z c h1 h2=>?_,fun y hy=>?_,fun y c _ h=>?_,fun _=>hd,Around.frames_deeper e0.frames,.inr ⟨rfl,rfl⟩,fun b z=>absurd z (noA b),e0.bs,e0.bsz,fun b _ _=>noA b,fun b z=>absurd z (noA b),e0.funs,e0.frf⟩,
  rfl,e0.bare,Un.kept hk,⟨_,x.toInCall.ns,fun i y v h1 h2 h3=>?_⟩,fun y c h=>⟨_,x.cell y c h⟩,e0.hok.fresh (Nat.le_refl _),fun y c h=>?_,fun p hp=>absurd (show p∈([]:List (Addr×Obj)) from hp) (by simp),e0.hok.kept hk,?_⟩
 ·exact name_of_addr x.apart (PySem.mem_of_lookup h1) (PySem.mem_of_lookup h2)
 ·have hy:scope.names.lookup y=some .cell∨scope.names.lookup y=some .free:=hy
  rcases hy with hy | hy
  ·exact zft hy
  ·exact absurd rfl (S.nofree _ (PySem.mem_of_lookup hy))
 ·exact Nat.le_of_lt (x.above y c (PySem.mem_of_lookup h))
 ·have hi:i<vs.length:=by
   unfold zak at h2
   by_cases hi:i<vs.length
   ·exact hi
   ·rw [List.getElem?_append_right (by simpa using hi)] at h2
    rw [List.getElem?_replicate] at h2
    split at h2 <;> cases h2
  have ha:vs[i]?=some v:=by
   unfold zak at h2
   rw [List.getElem?_append_left (by simpa using hi),List.getElem?_map] at h2
   cases e:vs[i]? with
   | none=>rw [e] at h2;cases h2
   | some a=>rw [e] at h2;cases h2;rfl
  obtain ⟨u,hu,rv⟩:=r.get ha
  have hp:ps[i]?=some y:=by
   rw [← S.pre,List.getElem?_take_of_lt (by omega)];exact h1
  have ndP:ps.Nodup:=by rw [← S.pre];exact S.nd.sublist (List.take_sublist _ _)
  refine ⟨u,rv,?_⟩
  rcases S.par y (List.mem_of_getElem? hp) with k | k
  ·exact .inl ⟨k,zcy ndP hp hu k⟩
  ·obtain ⟨c,e⟩:=zft (n:=s.heap.objs.size+1) k
   refine .inr ⟨.inl k,c,e,?_⟩
   have q:=x.cell y c e
   rw [zd0 ndP hp hu (by show scope.names.lookup y≠_;rw [k];decide)] at q
   exact q
 ·exact e0.hok.fresh (Nat.le_of_lt (x.above y c (PySem.mem_of_lookup h)))
 ·unfold zak
  show _=N.length
  rw [List.length_append,List.length_map,List.length_replicate]
  omega
theorem zva {CX:CXT} {P:Program} {w:World} {K:PySem.W.Frag} {mg:Str→Option Value} {base:Heap} {k:Nat} {f:Addr} {name qual:Str} {params:Arguments} {body:List Stmt} {scope:Scope} {dV kV doc pm cdv ct oc:Value} {an od:Option Addr}
  {osl:Array (Option Value)} {N ps:List Str} {sp:Sp} (lk:K.lookup f=some ⟨oc,od,.func (PySem.W.fnOf name qual params body scope dV kV doc pm an cdv ct),osl⟩) (hcd:PySem.W.codeIn K cdv qual=true) (S:FnScope N ps scope)
  (len:∀ vs H Q E,sp vs H Q E→vs.length=ps.length)
  (hbody:∀ (A:Around) (outer:List Env) (s:Shared) (H:Hp) (vs:List V) (Q:VK) (E:XK),Room k (A.deeper (envOfC qual scope s.heap.objs.size f cdv))→sp vs H Q E →
   ∃ t,PSs (z4a CX P w K mg base N qual scope f cdv A outer s H E) body t∧t { nx:=fun _ H'=>Q .non H',rt:=Q } (zak N vs) H) :
  FnOk P w K mg base CX (k+1) f (PySem.W.fnOf name qual params body scope dV kV doc pm an cdv ct) ps sp:=by
 refine ⟨len,fun A outer s H args us vs Q E hr e0 hb r hsp=>?_⟩
 have hl:=len _ _ _ _ hsp
 have KX:K.In s.heap:=e0.mod.kin.keeps fun b o e=>(e0.bs b o e).1
 have lim:s.heap.NoLimit:=e0.mod.nolimit.keeps fun b o e=>(e0.bs b o e).1
 have hkind:∀ y∈ps.zip us,scope.names.lookup y.1=some .local∨(scope.names.lookup y.1=some .cell∧((cellsFrom (s.heap.objs.size+1) scope.names []).lookup y.1).isSome=true):=fun ⟨n,v⟩ hy=>by
  rcases S.par n (List.of_mem_zip hy).1 with q | q
  ·exact .inl q
  ·exact .inr ⟨q,PySem.W.cellsFrom_some _ _ _ (.inl q)⟩
 refine codeAny_call_function hr.depth (KX _ _ lk) rfl S.co S.gen rfl (PySem.W.codeRec_of KX hcd) (hb _ _ _ _ ?_)
 refine wpAny_newFunctionEnv_cells S.kind hkind fun env he s1 x=>?_
 subst he
 refine ⟨lim.keeps x.toInCall.keep,codeAny_func ?_⟩
 refine bq fun bG=>?_
 obtain ⟨t,ht,hq⟩:=hbody A outer s H vs Q E (hr.deeper _) hsp
 have I:Inv (z4a CX P w K mg base N qual scope f cdv A outer s H E) [] (zak N vs) H s1:=zk5 S hr.hd e0 hl r x
 refine bG (wpAny_mono (ht [] s1 (zak N vs) H _ I hq) (fun fl s' hs=>?_) fun e s' hs=>hs)
 have fin:∀ {σ':St} {H':Hp} {v:V} {u:Value},Inv (z4a CX P w K mg base N qual scope f cdv A outer s H E) [] σ' H' s'→RelV v u→Q v H'→CE outer P w H s Q u s' :=
  fun {σ' H' v u} J rv q=>⟨v,H',J.os,J.bare,J.base,J.hok,rv,q⟩
 cases fl with
 | ret u =>
  obtain ⟨v,σ',H',J,rv,q⟩:=hs
  exact fin J rv q
 | next =>
  obtain ⟨σ',H',J,q⟩:=hs
  exact fin (v:=V.non) (u:=Value.none) J rfl q
 | brk =>
  obtain ⟨_,_,_,q⟩:=hs
  exact False.elim q
 | cont =>
  refine bq fun bG=>?_
  obtain ⟨_,_,_,q⟩:=hs
  exact bG (False.elim q)
section
variable {X:Cx} {x:Str} {p pos:Pos} {e:Expr} {es:List Expr} {t:TA} {id T:String} {r:List V→Hp→VK→Prop}
def tCB (r:List V→Hp→VK→Prop) (t:TA):TE:=fun σ H Q=>t σ H fun vs H1=>r vs H1 Q
theorem z39 (hc:z60 X (.builtin id) r) (hg:Gl X x) (hm:X.mg x=none) (hv:bootBuiltins x=some (.builtin id)) (ha:PA X (e::es) t) (hn:x ≠ "__name__" := by decide) (hdb:(x==("__debug__" : Str))=false:=by decide)
  (he:starEach (e::es) X.env=(false,eval e X.env)::starEach es X.env:=by rfl) (hpl:(backTo pos (starEach es X.env)).any (·.1)=false:=by rfl):PE X (.Call (.Name x p) (e::es) [] pos) (tCB r t):=by
 intro pins s σ H Q I h
 refine wpAny_Call_Name_kw (z76 I hg hm hv ?_ hn hdb)
 exact PyProof.Rows.callWith_builtin1 (thn (ha pos pins s σ H _ I h) fun us s1 ⟨vs,H1,I1,r1,q1⟩=>hc pins s1 σ H1 vs us Q I1 r1 q1) he hpl
theorem z67 (hc:z60 X (.type T) r) (hg:Gl X x) (hm:X.mg x=none) (hv:bootBuiltins x=some (.type T)) (ha:PA X (e::es) t) (hn:x ≠ "__name__" := by decide) (hdb:(x==("__debug__" : Str))=false:=by decide)
  (he:starEach (e::es) X.env=(false,eval e X.env)::starEach es X.env:=by rfl) (hpl:(backTo pos (starEach es X.env)).any (·.1)=false:=by rfl):PE X (.Call (.Name x p) (e::es) [] pos) (tCB r t):=by
 intro pins s σ H Q I h
 refine wpAny_Call_Name_kw (z76 I hg hm hv ?_ hn hdb)
 exact PyProof.Rows.callWith_type1 (thn (ha pos pins s σ H _ I h) fun us s1 ⟨vs,H1,I1,r1,q1⟩=>hc pins s1 σ H1 vs us Q I1 r1 q1) he hpl
end
end L2
namespace HT
open PySem PyProof.Rows
section
open PySem.SeqAt
open PySem.AutoSeq1 (wpAny_loadPart')
open PySem.MeetsSeq PySem.MeetsSeq2 PySem.MeetsSeq3
end
section
variable {prog:Program} {w:World} {A:Around} {E:Value→Shared→Prop} {s:Shared}
theorem cat_tup {t b:Addr} {vs ws:List Value} {Q:Value→Shared→Prop} (ht:IsTup s.heap t vs.toArray) (hb:IsTup s.heap b ws.toArray) (hv:vs≠[])
  (h1:ws=[]→Q (.ref t) s) (h2:ws≠[]→Q (.ref s.heap.objs.size) { s with heap:=s.heap.push { cls:=.type "tuple",data:=.seq (vs++ws).toArray } })
  (hsz:vs.length+ws.length≤sizeLine):wpAny (model prog w) A (binaryOp .Add (.ref t) (.ref b)) Q E s:=by
 obtain ⟨⟨cls,dd,data,sl⟩,ho,hc,n,hd⟩:=id ht
 obtain ⟨⟨cls2,dd2,data2,sl2⟩,ho2,hc2,n2,hd2⟩:=id hb
 simp only at hc hd hc2 hd2
 subst hc hd hc2 hd2
 have e:vs.toArray++ws.toArray=(vs++ws).toArray:=by simp
 by_cases hw:ws=[]
 ·exact concat_meets ⟨_,ho,rfl⟩ ⟨_,ho2,rfl⟩ noFill_tuple_add seq_tuple_add PySem.F.slot_tuple_add PySem.F.entry_tuple_add (PySem.F.args_tuple_add_2 _ _)
   (tuple_addW1 t b vs.toArray ws.toArray n n2 dd dd2 sl sl2 (by simpa using hv) (by simp [hw])) ⟨ho,ho2,h1 hw⟩
 ·refine concat_meets ⟨_,ho,rfl⟩ ⟨_,ho2,rfl⟩ noFill_tuple_add seq_tuple_add PySem.F.slot_tuple_add PySem.F.entry_tuple_add (PySem.F.args_tuple_add_2 _ _)
   (tuple_addW2 t b vs.toArray ws.toArray n n2 dd dd2 sl sl2 (by simpa using hv) (by simpa using hw) (by rw [List.size_toArray,List.size_toArray];exact hsz)) ⟨ho,ho2,?_⟩
  rw [e]
  exact h2 hw
noncomputable def sIx (n d:Nat):Option Int→Nat
 | none=>d
 | some v=>if v<0 then (v+(n:Int)).toNat else min v.toNat n
theorem zsx (n d:Nat) (hd:d≤n) (o:Option Int):sIx n d o≤n:=by
 cases o with
 | none=>exact hd
 | some v =>
  show (if v<0 then (v+(n:Int)).toNat else min v.toNat n)≤n
  by_cases hv:v<0
  ·rw [if_pos hv];omega
  ·rw [if_neg hv];exact Nat.min_le_right _ _
theorem zkz (v:Int) (n d:Nat):(if v<0 then max (v+(n:Int)) 0 else min v (n:Int))=((sIx n d (some v):Nat):Int):=by
 show (if v<0 then max (v+(n:Int)) 0 else min v (n:Int))=(((if v<0 then (v+(n:Int)).toNat else min v.toNat n):Nat):Int)
 by_cases hv:v<0
 ·simp only [if_pos hv];omega
 ·simp only [if_neg hv];omega
theorem zh5 (lo hi:Option Int) (n:Nat):Builtin.Slice.sliceAdjust lo hi 1 (n:Int)=(((sIx n 0 lo:Nat):Int),((sIx n n hi:Nat):Int)):=by
 have h1:¬ ((1:Int)<0):=by omega
 unfold Builtin.Slice.sliceAdjust
 simp only [h1,if_false]
 refine Prod.ext ?_ ?_
 ·cases lo with
  | none=>rfl
  | some v=>exact zkz v n 0
 ·cases hi with
  | none=>rfl
  | some v=>exact zkz v n n
theorem zgg (i j:Nat):Builtin.Slice.slicePlaces (i:Int) (j:Int) 1=j - i:=by
 unfold Builtin.Slice.slicePlaces
 have h1:(1:Int) > 0:=by omega
 simp only [h1,if_true,Int.ediv_one]
 split <;> omega
theorem za1 {v:Value} {o:Option Int} {Q:Option Int→Shared→Prop} (p:IsPart v o) (h:Q o s):wpAny (model prog w) A (Builtin.Slice.slicePartIndex v) Q E s:=by
 cases p with
 | none=>exact slicePart_none h
 | int i t=>exact slicePart_int h
theorem z79 {sl:Addr} {vl vu:Value} {lo hi:Option Int} {n:Nat} {Q:Int×Int×Nat→Shared→Prop} (hs:s.heap.IsSliceOf sl vl vu .none) (pl:IsPart vl lo) (pu:IsPart vu hi)
  (h:Q (((sIx n 0 lo:Nat):Int),1,sIx n n hi - sIx n 0 lo) s):wpAny (model prog w) A (Builtin.Slice.sliceApplied (.ref sl) (pure (n:Int))) Q E s:=by
 obtain ⟨os,hos,hcs,hds⟩:=id hs
 unfold Builtin.Slice.sliceApplied Builtin.Slice.sliceFields
 refine wpAny_bind (wpAny_bind (wpAny_field hos hds (x:=vl) rfl (wpAny_bind (wpAny_field hos hds (x:=vu) rfl (wpAny_bind (wpAny_field hos hds (x:=.none) rfl (wpAny_pure ?_)))))))
 refine wpAny_bind (slicePart_none ?_)
 show wpAny _ _ (if ((1:Int)==0)=true then _ else _) _ _ s
 rw [if_neg (by decide)]
 refine wpAny_bind (za1 pl (wpAny_bind (za1 pu (wpAny_bind (wpAny_pure ?_)))))
 show wpAny _ _ (match Builtin.Slice.sliceAdjust lo hi 1 (n:Int) with | (lo,hi)=>pure (lo,(1:Int),Builtin.Slice.slicePlaces lo hi 1)) _ _ s
 rw [zh5 lo hi n]
 show wpAny _ _ (pure (((sIx n 0 lo:Nat):Int),(1:Int),Builtin.Slice.slicePlaces ((sIx n 0 lo:Nat):Int) ((sIx n n hi:Nat):Int) 1)) _ _ s
 rw [zgg]
 exact wpAny_pure h
theorem zmv (xs:Array Value) (i k:Nat):((List.range k).filterMap fun (m:Nat)=>xs[((i:Int)+(m:Int)*1).toNat]?).toArray=((xs.toList.drop i).take k).toArray:=by
 have e:(fun (m:Nat)=>xs[((i:Int)+(m:Int)*1).toNat]?)=fun m=>xs[i+m]?:=by
  funext m
  have:((i:Int)+(m:Int)*1).toNat=i+m:=by omega
  rw [this]
 rw [e]
 have:=pick_run xs i k
 rw [List.filterMap_map] at this
 have e2:((fun x=>xs[x]?) ∘ fun x=>i+x)=fun m=>xs[i+m]?:=rfl
 rw [e2] at this
 rw [this]
theorem getItem_tuple_cut {t sl:Addr} {items:Array Value} {vl vu:Value} {lo hi:Option Int} {Q:Value→Shared→Prop} (ht:IsTup s.heap t items) (hs:s.heap.IsSliceOf sl vl vu .none) (pl:IsPart vl lo) (pu:IsPart vu hi)
  (hw:¬ (sIx items.size 0 lo=0∧sIx items.size items.size hi=items.size))
  (h:Q (.ref s.heap.objs.size) { s with heap:=s.heap.push { cls:=.type "tuple",data:=.seq ((items.toList.drop (sIx items.size 0 lo)).take (sIx items.size items.size hi - sIx items.size 0 lo)).toArray } })
  (hsz:items.size≤sizeLine):wpAny (model prog w) A (getItem (.ref t) (.ref sl)) Q E s:=by
 have htake:sizeOk (.seq ((items.toList.drop (sIx items.size 0 lo)).take (sIx items.size items.size hi - sIx items.size 0 lo)).toArray):=by
  show ((items.toList.drop (sIx items.size 0 lo)).take (sIx items.size items.size hi - sIx items.size 0 lo)).toArray.size≤sizeLine
  rw [List.size_toArray,List.length_take,List.length_drop,Array.length_toList]
  omega
 have hj:sIx items.size items.size hi≤items.size:=zsx _ _ (Nat.le_refl _) hi
 obtain ⟨os,hos,hcs,hds⟩:=id hs
 have hTs:s.TypeIs (.ref sl) "slice" := ⟨os,hos,hcs⟩
 unfold getItem
 try with_reducible refine wpAny_holding ?_
 first | refine wpAny_bind (wpAny_pure ?_) | skip
 refine wpAny_bind (wpAny_sequenceKey ht.typeIs (by decide) ?_)
 refine wpAny_bind (wpAny_callSpecial?_slot (name:=Str.ofString "__getitem__") ht.typeIs PyProof.Rows.slot_tuple_getitem
  (wpAny_call_entry PyProof.Rows.slot_tuple_getitem ht.typeIs entry_tuple_getitem ?_ (args_tuple_getitem _ _)))
 show wpAny _ _ (Builtin.Tuple.tupleItemsOf (.ref t) >>= _) _ _ s
 refine wpAny_bind (tupleItemsOf_ ht ?_)
 refine wpAny_bind (wpAny_typeOf hTs ?_)
 rw [if_pos (by decide)]
 refine wpAny_bind (z79 hs pl pu ?_)
 have hno:¬ ((((sIx items.size 0 lo:Nat):Int)==0&&(1:Int)==1&&(sIx items.size items.size hi - sIx items.size 0 lo)==items.size)=true):=by
  intro q
  rw [Bool.and_eq_true,Bool.and_eq_true] at q
  have q1:((sIx items.size 0 lo:Nat):Int)=0:=eq_of_beq q.1.1
  have q2:sIx items.size items.size hi - sIx items.size 0 lo=items.size:=eq_of_beq q.2
  exact hw ⟨by omega,by omega⟩
 show wpAny _ _ (if (((sIx items.size 0 lo:Nat):Int)==0&&(1:Int)==1&&(sIx items.size items.size hi - sIx items.size 0 lo)==items.size)=true then _ else _) _ _ s
 rw [if_neg hno,zmv]
 first
  | exact wpAny_bind (m:=Builtin.Tuple.tupleExact _) (wpAny_newObj_type (wpAny_pure ⟨_,rfl,wpAny_pure h⟩) htake)
  | exact wpAny_bind (m:=Builtin.Tuple.tupleExact _) (wpAny_newObj_type (wpAny_bind (wpAny_pure (wpAny_pure ⟨_,rfl,wpAny_pure h⟩))) htake)
  | exact wpAny_bind (wpAny_bind (m:=Builtin.Tuple.tupleExact _) (wpAny_newObj_type (wpAny_pure (wpAny_pure ⟨_,rfl,wpAny_pure h⟩)) htake))
  | exact wpAny_bind (wpAny_bind (m:=Builtin.Tuple.tupleExact _) (wpAny_newObj_type (wpAny_pure ⟨_,rfl,wpAny_pure h⟩) htake))
end
end HT
namespace L2
open PySem PySem.Spec PyProof.Rows
noncomputable abbrev TO:=St→Hp→(Option Int→Hp→Prop)→Prop
noncomputable def PO (X:Cx) (e:Option Expr) (t:TO):Prop :=
 ∀ (pins:List (Addr×Obj)) (s:Shared) (σ:St) (H:Hp) (Q:Option Int→Hp→Prop),Inv X pins σ H s→t σ H Q →
  wpAny (model X.prog X.w) X.A (evalPart e X.env) (fun u s'=>∃ o H',Inv X pins σ H' s'∧IsPart u o∧Q o H') X.xe s
noncomputable def zq2:TO:=fun _ H Q=>Q none H
noncomputable def zw8 (t:TE):TO:=fun σ H Q=>t σ H fun x H1=>∃ i,x=.int i∧Q (some i) H1
theorem z6s {ns:List Int}:∀ {us:List Value},Vals (ns.map V.int) us→IntsAre us ns:=by
 induction ns with
 | nil=>intro us r;rw [List.map_nil] at r;cases r;exact .nil
 | cons n ns ih =>
  intro us r
  rw [List.map_cons] at r
  cases r with
  | cons r1 r2 =>
   refine bq fun bG=>?_
   obtain ⟨t,e⟩:=r1
   subst e
   exact bG (.cons n t (ih r2))
section
variable {X:Cx} {e:Expr} {te:TE} {lo hi:Option Expr} {tl th:TO} {pos p2:Pos}
theorem zqi:PO X none zq2:=by
 intro pins s σ H Q I h
 rw [evalPart_none]
 exact wpAny_pure ⟨none,H,I,.none,h⟩
theorem zqh (h:PE X e te):PO X (some e) (zw8 te):=by
 intro pins s σ H Q I hw
 rw [evalPart_some]
 refine thn (h pins s σ H _ I hw) fun u s1 hm=>?_
 refine bq fun bG=>?_
 obtain ⟨x,H1,I1,r1,q1⟩:=hm
 refine bG (bq fun bG=>?_)
 obtain ⟨i,rfl,q⟩:=q1
 obtain ⟨t,rfl⟩:=r1
 exact bG (⟨some i,H1,I1,.int i t,q⟩)
noncomputable def SlR (X:Cx) (r:V→Option Int→Option Int→Hp→VK→Prop):Prop :=
 ∀ (pins:List (Addr×Obj)) (s:Shared) (σ:St) (H:Hp) (x:V) (v vl vu:Value) (lo hi:Option Int) (sl:Addr) (Q:VK),Inv X pins σ H s→RelV x v→s.heap.IsSliceOf sl vl vu .none→IsPart vl lo→IsPart vu hi→r x lo hi H Q →
  ∃ T id,typeLookup (.type T) "__getitem__" = pure (some (.builtin id))∧s.TypeIs v T∧wpAny (model X.prog X.w) X.A (getItem v (.ref sl)) (EP X pins σ Q) X.xe s
theorem SlR.or {r r':V→Option Int→Option Int→Hp→VK→Prop} (h:SlR X r) (h':SlR X r'):SlR X (fun x lo hi H Q=>r x lo hi H Q∨r' x lo hi H Q):=by
 intro pins s σ H x v vl vu lo hi sl Q I rx hs pl pu q
 rcases q with q | q
 ·exact h pins s σ H x v vl vu lo hi sl Q I rx hs pl pu q
 ·exact h' pins s σ H x v vl vu lo hi sl Q I rx hs pl pu q
def tSl (r:V→Option Int→Option Int→Hp→VK→Prop) (te:TE) (tl th:TO):TE:=fun σ H Q=>te σ H fun x H1=>tl σ H1 fun l H2=>th σ H2 fun u H3=>r x l u H3 Q
theorem zmy {r:V→Option Int→Option Int→Hp→VK→Prop} (hr:SlR X r) (he:PE X e te) (hl:PO X lo tl) (hu:PO X hi th):PE X (.Subscript e (.Slice lo hi none p2) pos) (tSl r te tl th):=by
 intro pins s σ H Q I h
 refine Subscript_ (thn (he pins s σ H _ I h) fun v s1 hm=>?_)
 refine bq fun bG=>?_
 obtain ⟨x,H1,I1,r1,q1⟩:=hm
 refine bG (wpAny_Slice (thn (hl pins s1 σ H1 _ I1 q1) fun vl s2 ⟨l,H2,I2,pl,q2⟩=>thn (hu pins s2 σ H2 _ I2 q2) fun vu s3 hm=>?_))
 obtain ⟨u,H3,I3,pu,q3⟩:=hm
 rw [evalPart_none]
 refine wpAny_pure ?_
 have I4:Inv X pins σ H3 { s3 with heap:=s3.heap.push { cls:=.type "slice",data:=.fields #[vl,vu,.none] } }:=I3.kept (t':=s3.toks) fun b ob q=>Heap.get?_push_of_some _ q
 obtain ⟨T,id,hT,ht,hg⟩:=hr pins { s3 with heap:=s3.heap.push { cls:=.type "slice",data:=.fields #[vl,vu,.none] } } σ H3 x v vl vu l u s3.heap.objs.size Q I4 r1 (Heap.IsSliceOf.new ..) pl pu q3
 show wpAny (model X.prog X.w) X.A (subscriptTail e (.Slice lo hi none p2) v (.ref s3.heap.objs.size)) (EP X pins σ Q) X.xe { s3 with heap:=s3.heap.push { cls:=.type "slice",data:=.fields #[vl,vu,.none] } }
 exact tail_any (ops:=[.ref s3.heap.objs.size,v]) ht hT hg (by with_unfolding_all rfl)
noncomputable def zlv (xs:List V) (lo hi:Option Int):List V:=(xs.drop (HT.sIx xs.length 0 lo)).take (HT.sIx xs.length xs.length hi - HT.sIx xs.length 0 lo)
theorem z8p (xs:List V) (lo hi:Option Int):(zlv xs lo hi).length≤xs.length:=by
 unfold zlv
 rw [List.length_take,List.length_drop]
 omega
def zyf (K:PySem.W.Frag):V→Option Int→Option Int→Hp→VK→Prop:=fun x lo hi H Q=>∃ a xs,x=.ref a∧SqT K H a xs ∧
 ¬ (HT.sIx xs.length 0 lo=0∧HT.sIx xs.length xs.length hi=xs.length)∧∀ p,H p=none→Q (.ref p) (upd H p (.tup (zlv xs lo hi)))
theorem zsv:SlR X (zyf X.K):=by
 intro pins s σ H x v vl vu lo hi sl Q I rx hs pl pu h
 refine bq fun bG=>?_
 obtain ⟨a,xs,rfl,hx,hw,q⟩:=h
 cases rx
 obtain ⟨its,r,ht,hz⟩:=I.tuple hx
 have hlen:its.toArray.size=xs.length:=by rw [List.size_toArray];exact r.length.symm
 refine bG (⟨"tuple",_,PyProof.Rows.slot_tuple_getitem.lookup,ht.typeIs,?_⟩)
 refine HT.getItem_tuple_cut ht hs pl pu (by rw [hlen];exact hw) ?_ (by rw [hlen];exact hz)
 rw [hlen]
 refine ⟨.ref s.heap.objs.size,_,I.laid (t':=s.toks) (o:=.tup (zlv xs lo hi)) (fun b ob q=>Heap.get?_push_of_some _ q) (Nat.le_refl _) ?_,rfl,q _ (I.hok.fresh (Nat.le_refl _))⟩
 exact ⟨Nat.le_trans (z8p xs lo hi) hz,_,(r.drop (HT.sIx xs.length 0 lo)).take (HT.sIx xs.length xs.length hi - HT.sIx xs.length 0 lo),IsTup.new _ _⟩
noncomputable def ztg (K:PySem.W.Frag):R2:=fun x y H Q=>∃ a b xs ys,x=.ref a∧y=.ref b∧SqT K H a xs∧SqT K H b ys∧xs≠[]∧xs.length+ys.length≤sizeLine ∧
 (ys=[]→Q (.ref a) H)∧(ys≠[]→∀ p,H p=none→Q (.ref p) (upd H p (.tup (xs++ys))))
theorem Vals.nil_iff {xs:List V} {us:List Value} (r:Vals xs us):us=[]↔xs=[]:=by
 cases r with
 | nil=>simp
 | cons _ _=>simp
theorem zqz:OpR X (binaryOp .Add) (ztg X.K):=by
 intro pins s σ H x y v u Q I rx ry h
 obtain ⟨a,b,xs,ys,rfl,rfl,ha,hb,hx,hz,q1,q2⟩:=h
 cases rx
 cases ry
 obtain ⟨its,r1,p1,_⟩:=I.tuple ha
 obtain ⟨its2,r2,p2,_⟩:=I.tuple hb
 refine HT.cat_tup p1 p2 (fun z=>hx (r1.nil_iff.mp z)) (fun z=>⟨.ref a,H,I,rfl,q1 (r2.nil_iff.mp z)⟩) (fun z=>?_) (by rw [← r1.length,← r2.length];exact hz)
 refine ⟨.ref s.heap.objs.size,_,I.laid (t':=s.toks) (o:=.tup (xs++ys)) (fun b ob q=>Heap.get?_push_of_some _ q) (Nat.le_refl _) ?_,rfl,q2 (fun w=>z (r2.nil_iff.mpr w)) _ (I.hok.fresh (Nat.le_refl _))⟩
 exact ⟨by rw [List.length_append];exact hz,_,r1.append r2,IsTup.new _ _⟩
end
noncomputable def ixN (n:Nat) (i:Int):Option Nat:=if 0≤i then (if i<n then some i.toNat else none) else if -(n:Int)≤i then some (i+n).toNat else none
noncomputable def atI {α:Type} (xs:List α) (i:Int):Option α:=(ixN xs.length i).bind fun j=>xs[j]?
theorem zk3 {n:Nat} {i:Int} {j:Nat} (h:ixN n i=some j):seqIndex? i n=some j∧j<n∧-(n:Int)≤i∧i<n:=by
 unfold ixN at h
 by_cases h0:0≤i
 ·rw [if_pos h0] at h
  by_cases h1:i<n
  ·rw [if_pos h1] at h
   have e:i.toNat=j:=Option.some.inj h
   exact ⟨by rw [seqIndex_of h0 h1,e],by omega,by omega,h1⟩
  ·rw [if_neg h1] at h;cases h
 ·rw [if_neg h0] at h
  by_cases h1:-(n:Int)≤i
  ·rw [if_pos h1] at h
   have e:(i+n).toNat=j:=Option.some.inj h
   exact ⟨by rw [seqIndex_neg (by omega) h1,e],by omega,h1,by omega⟩
  ·rw [if_neg h1] at h;cases h
theorem zeh {α:Type} {xs:List α} {i:Int} {v:α} (h:atI xs i=some v):∃ j,seqIndex? i xs.length=some j∧xs[j]?=some v∧j<xs.length∧-(xs.length:Int)≤i∧i<xs.length:=by
 unfold atI at h
 cases e:ixN xs.length i with
 | none=>rw [e] at h;cases h
 | some j =>
  rw [e] at h
  refine bq fun bG=>?_
  obtain ⟨h1,h2,h3,h4⟩:=zk3 e
  exact bG (⟨j,h1,h,h2,h3,h4⟩)
theorem zru {α:Type} {xs:List α} {j:Nat} {v:α} (h:xs[j]?=some v):atI xs (j:Int)=some v:=by
 have hj:j<xs.length:=(List.getElem?_eq_some_iff.mp h).1
 have e:ixN xs.length (j:Int)=some j:=by
  unfold ixN
  rw [if_pos (by omega),if_pos (by omega)];simp
 unfold atI;rw [e];exact h
def zlc (b:Expr):Prop:=∀ o i,subscripted b false o i=operate [o,i] (getItem o i)
noncomputable def IxR (X:Cx) (r:R2):Prop :=
 ∀ (value slice:Expr) (pins:List (Addr×Obj)) (s:Shared) (σ:St) (H:Hp) (x y:V) (v u:Value) (Q:VK),Inv X pins σ H s→RelV x v→RelV y u→r x y H Q →
  subscripted slice false v u=operate [v,u] (getItem v u)→wpAny (model X.prog X.w) X.A (subscriptTail value slice v u) (EP X pins σ Q) X.xe s
noncomputable def MtR (X:Cx) (id:String) (r:V→List V→Hp→VK→Prop):Prop :=
 ∀ (pins:List (Addr×Obj)) (s:Shared) (σ:St) (H:Hp) (x:V) (xs:List V) (v:Value) (us:List Value) (Q:VK),Inv X pins σ H s→RelV x v→Vals xs us→r x xs H Q →
  wpAny (model X.prog X.w) X.A (call (.builtin id) (v::us)) (EP X pins σ Q) X.xe s
section
variable {X:Cx} {a b:Expr} {ta tb:TE} {pos:Pos}
theorem IxR.or {r r':R2} (h:IxR X r) (h':IxR X r'):IxR X (fun x y H Q=>r x y H Q∨r' x y H Q):=by
 intro value slice pins s σ H x y v u Q I rx ry q hs
 rcases q with q | q
 ·exact h value slice pins s σ H x y v u Q I rx ry q hs
 ·exact h' value slice pins s σ H x y v u Q I rx ry q hs
theorem zwp {r:R2} (hr:IxR X r) (ha:PE X a ta) (hb:PE X b tb) (hs:zlc b):PE X (.Subscript a b pos) (tOp r ta tb):=by
 intro pins s σ H Q I h
 exact Subscript_ (zxf ha hb I h fun v u s2 x y H2 I2 rx ry q=>hr a b pins s2 σ H2 x y v u Q I2 rx ry q (hs _ _))
noncomputable def zxq (K:PySem.W.Frag):R2:=fun x y H Q=>∃ p xs i v,x=.ref p∧y=.int i∧SqL K H p xs∧atI xs i=some v∧Q v H
noncomputable def zxo (K:PySem.W.Frag):R2:=fun x y H Q=>∃ p xs i v,x=.ref p∧y=.int i∧SqT K H p xs∧atI xs i=some v∧Q v H
noncomputable def zxp:R2:=fun x y H Q=>∃ z i c,x=.str z∧y=.int i∧z.length≤sizeLine∧atI z.cps.toList i=some c∧Q (.str ⟨#[c]⟩) H
theorem ix_list:IxR X (zxq X.K):=by
 intro value slice pins s σ H x y v u Q I rx ry h hs
 obtain ⟨p,xs,i,z,rfl,rfl,hq,he,q⟩:=h
 cases rx
 obtain ⟨t,rfl⟩:=ry
 obtain ⟨its,r,pl,hz⟩:=I.list hq
 obtain ⟨j,h1,h2,h3,h4,h5⟩:=zeh he
 obtain ⟨w,ew,rw'⟩:=r.get h2
 have hl:=r.length
 have hn:=za7
 have fin:EP X pins σ Q w s:=⟨z,H,I,rw',q⟩
 by_cases h0:0≤i
 ·have hj:i.toNat=j:=by
   rw [seqIndex_of h0 h5] at h1
   exact Option.some.inj h1
  exact item_listR pl.isList h0 (by omega) (by rw [hj];simpa using ew) fin hs
 ·have hj:(i+(its.toArray.size:Int)).toNat=j:=by
   rw [seqIndex_neg (by omega) h4] at h1
   rw [List.size_toArray,← hl]
   exact Option.some.inj h1
  exact subscriptTail_builtinR (x:=w) pl.isList.typeIs slot_list_getitem.lookup
   (wpAny_getItem_list_neg (Q:=fun r s'=>r=w∧EP X pins σ Q r s') pl.isList (by omega) (by rw [List.size_toArray] <;> omega) (by omega) (by rw [hj];simpa using ew) ⟨rfl,fin⟩) hs
theorem ix_tup:IxR X (zxo X.K):=by
 intro value slice pins s σ H x y v u Q I rx ry h hs
 obtain ⟨p,xs,i,z,rfl,rfl,hq,he,q⟩:=h
 cases rx
 obtain ⟨t,rfl⟩:=ry
 obtain ⟨its,r,pl,hz⟩:=I.tuple hq
 obtain ⟨j,h1,h2,h3,h4,h5⟩:=zeh he
 obtain ⟨w,ew,rw'⟩:=r.get h2
 have hl:=r.length
 have hn:=za7
 have fin:EP X pins σ Q w s:=⟨z,H,I,rw',q⟩
 exact subscriptTail_builtinR (x:=w) pl.typeIs slot_tuple_getitem.lookup
  (getItem_tuple (j:=j) (Q:=fun r s'=>r=w∧EP X pins σ Q r s') pl (by omega) (by omega) (by rw [List.size_toArray,← hl];exact h1) (by simpa using ew) ⟨rfl,fin⟩) hs
theorem zuy:IxR X zxp:=by
 intro value slice pins s σ H x y v u Q I rx ry h hs
 obtain ⟨z,i,c,rfl,rfl,hz,he,q⟩:=h
 obtain ⟨t,rfl⟩:=rx
 obtain ⟨t',rfl⟩:=ry
 obtain ⟨j,h1,h2,h3,h4,h5⟩:=zeh he
 have hl:z.cps.toList.length=z.length:=by simp [Str.length]
 rw [hl] at h1 h4 h5
 have hn:=za7
 exact tail_any (typeIs_str s z t) slot_str_getitem.lookup (getItem_str (c:=c) (by
  have e1:decide (i < -(2 ^ 63:Int))=false:=decide_eq_false (by omega)
  have e2:decide (i≥2 ^ 63)=false:=decide_eq_false (by omega)
  rw [e1,e2,Bool.or_false]) (by rw [h1];simpa using h2) ⟨.str ⟨#[c]⟩,H,I.tok _,⟨_,rfl⟩,q⟩) hs
noncomputable def rIx (K:PySem.W.Frag):R2:=fun x y H Q=>zxq K x y H Q∨zxo K x y H Q∨zxp x y H Q
theorem zuz:IxR X (rIx X.K):=ix_list.or (ix_tup.or zuy)
theorem zgo (its:List Value) (n j:Nat) (u:Value):Obj.mapSeq (·.setIfInBounds j u) { cls:=.type "list",data:=.seq its.toArray n }={ cls:=.type "list",data:=.seq (its.set j u).toArray n }:=by
 simp [Obj.mapSeq]
theorem Inv.lst {pins:List (Addr×Obj)} {σ:St} {H:Hp} {s:Shared} {p:Addr} {xs:List V} (I:Inv X pins σ H s) (h:H p=some (.lst xs)) :
  ∃ (its:List Value) (n:Nat),Vals xs its∧s.heap.get? p=some { cls:=.type "list",data:=.seq its.toArray n }∧xs.length≤sizeLine:=by
 refine bq fun bG=>?_
 obtain ⟨z,its,n,r,e⟩:=I.hok p _ h
 exact bG (⟨its,n,r,e,z⟩)
theorem Inv.lstUpd {pins:List (Addr×Obj)} {σ:St} {H:Hp} {s:Shared} {p:Addr} {xs ys:List V} {its its':List Value} {n n':Nat} {f:Obj→Obj} (I:Inv X pins σ H s) (h:H p=some (.lst xs))
  (ho:s.heap.get? p=some { cls:=.type "list",data:=.seq its.toArray n }) (hf:f { cls:=.type "list",data:=.seq its.toArray n }={ cls:=.type "list",data:=.seq its'.toArray n' }) (r:Vals ys its') (hz:ys.length≤sizeLine) (t:Nat) :
  Inv X pins σ (upd H p (.lst ys)) { s with heap:=s.heap.update p f,toks:=t }:=by
 have e:(s.heap.update p f).get? p=some { cls:=.type "list",data:=.seq its'.toArray n' }:=by
  rw [Heap.get?_update_self f ho (by rw [hf] <;> rfl),hf]
 refine I.write (x:=p) (e:=p) (by rw [h];trivial) (.inl rfl) (fun b u hb q=>(Heap.get?_update_other _ _ (Ne.symm hb)).trans q) ⟨_,e⟩ ?_
 exact ⟨hz,its',n',r,e⟩
def zwj:V→V→V→Hp→(Hp→Prop)→Prop:=fun o i v H Q=>∃ p xs k j,o=.ref p∧i=.int k∧H p=some (.lst xs)∧ixN xs.length k=some j∧Q (upd H p (.lst (xs.set j v)))
theorem zmh:zy1 X zwj:=by
 intro pins s σ H o i v ov iv u Q I ro ri rv h
 obtain ⟨p,xs,k,j,rfl,rfl,hp,hj,q⟩:=h
 cases ro
 obtain ⟨t,rfl⟩:=ri
 obtain ⟨its,n,r,ho,hz⟩:=I.lst hp
 obtain ⟨h1,h2,h3,h4⟩:=zk3 hj
 have hl:=r.length
 have hn:=za7
 have I':Inv X pins σ (upd H p (.lst (xs.set j v))) { s with heap:=s.heap.update p (Obj.mapSeq (·.setIfInBounds j u)) } :=
  I.lstUpd hp ho (zgo its n j u) (r.set rv j) (by rw [List.length_set];exact hz) s.toks
 by_cases h0:0≤k
 ·have hk:k.toNat=j:=by
   rw [seqIndex_of h0 h4] at h1
   exact Option.some.inj h1
  exact PySem.W.ki_setAt ho h0 (by omega) (by rw [List.size_toArray,← hl];exact h4) (by rw [hk];exact ⟨_,I',q⟩)
 ·have hk:(k+(its.toArray.size:Int)).toNat=j:=by
   rw [seqIndex_neg (by omega) h3] at h1
   rw [List.size_toArray,← hl]
   exact Option.some.inj h1
  exact PySem.W.ki_setBack ho (by omega) (by rw [List.size_toArray,← hl];exact h3) (by omega) (by rw [hk];exact ⟨_,I',q⟩)
theorem zbp (lo hi:Option Int) (n:Nat):(sliceBounds lo hi none n).1=((HT.sIx n 0 lo:Nat):Int)∧(sliceBounds lo hi none n).2.1=((HT.sIx n n hi:Nat):Int)∧(sliceBounds lo hi none n).2.2=1:=by
 refine ⟨?_,?_,rfl⟩
 ·cases lo with
  | none=>simp [sliceBounds,HT.sIx]
  | some i =>
   simp only [sliceBounds,HT.sIx,Option.getD_none,show (1:Int) > 0 by decide,if_true]
   by_cases h:i<0
   ·simp only [h,if_true] <;> omega
   ·simp only [h,if_false] <;> omega
 ·cases hi with
  | none=>simp [sliceBounds,HT.sIx]
  | some i =>
   simp only [sliceBounds,HT.sIx,Option.getD_none,show (1:Int) > 0 by decide,if_true]
   by_cases h:i<0
   ·simp only [h,if_true] <;> omega
   ·simp only [h,if_false] <;> omega
theorem zal (its:List Value) (lo hi:Option Int):slicePick its.toArray lo hi none=((its.drop (HT.sIx its.length 0 lo)).take (HT.sIx its.length its.length hi - HT.sIx its.length 0 lo)).toArray:=by
 obtain ⟨h1,h2,h3⟩:=zbp lo hi its.toArray.size
 unfold slicePick
 rw [h1,h2,h3]
 simp only [sliceRange_one,pick_run,List.size_toArray] <;> rfl
def zyg (K:PySem.W.Frag):V→Option Int→Option Int→Hp→VK→Prop:=fun x lo hi H Q=>∃ a xs,x=.ref a∧SqL K H a xs∧∀ p,H p=none→Q (.ref p) (upd H p (.lst (zlv xs lo hi)))
theorem sl_list:SlR X (zyg X.K):=by
 intro pins s σ H x v vl vu lo hi sl Q I rx hs pl pu h
 refine bq fun bG=>?_
 obtain ⟨a,xs,rfl,hx,q⟩:=h
 cases rx
 obtain ⟨its,r,ht,hz⟩:=I.list hx
 have hlen:=r.length
 refine bG (⟨"list",_,slot_list_getitem.lookup,ht.isList.typeIs,?_⟩)
 refine wpAny_getItem_list_slice ht.isList hs pl pu .none (by simp) ?_ (by rw [List.size_toArray] <;> omega)
 rw [zal,← hlen]
 refine ⟨.ref s.heap.objs.size,_,I.laid (t':=s.toks) (o:=.lst (zlv xs lo hi)) (fun b ob q=>Heap.get?_push_of_some _ q) (Nat.le_refl _) ?_,rfl,q _ (I.hok.fresh (Nat.le_refl _))⟩
 exact ⟨Nat.le_trans (z8p xs lo hi) hz,_,0,(r.drop (HT.sIx xs.length 0 lo)).take (HT.sIx xs.length xs.length hi - HT.sIx xs.length 0 lo),Heap.get?_push_size _ rfl⟩
noncomputable def z9w:V→Bool
 | .non=>true
 | .bl _=>true
 | .int _=>true
 | .str _=>true
 | _=>false
noncomputable def eqV:V→V→Bool
 | .non,.non=>true
 | .bl a,.bl b=>a==b
 | .bl a,.int b=>(if a then 1 else 0)==b
 | .int a,.bl b=>a==(if b then 1 else 0)
 | .int a,.int b=>a==b
 | .str a,.str b=>a==b
 | _,_=>false
theorem zvf {A:Around} {s:Shared} {y x:V} {u v:Value} (ry:RelV y u) (rx:RelV x v) (fy:z9w y=true) (fx:z9w x=true):SeqAt.EqAt A s u v (eqV y x):=by
 cases y with
 | non =>
  cases ry
  cases x with
  | non=>cases rx;exact SeqAt.EqAt.same _
  | bl b=>cases rx;exact SeqAt.EqAt.none_bool b
  | int b=>obtain ⟨t,rfl⟩:=rx;exact SeqAt.EqAt.none_int b t
  | str b=>obtain ⟨t,rfl⟩:=rx;exact SeqAt.EqAt.none_str b t
  | _=>exact absurd (show false=true from fx) Bool.false_ne_true
 | bl a =>
  cases ry
  cases x with
  | non=>cases rx;exact SeqAt.EqAt.bool_none a
  | bl b=>cases rx;exact SeqAt.EqAt.bool_bool a b
  | int b=>obtain ⟨t,rfl⟩:=rx;exact SeqAt.EqAt.bool_int a b t
  | str b=>obtain ⟨t,rfl⟩:=rx;exact SeqAt.EqAt.bool_str a b t
  | _=>exact absurd (show false=true from fx) Bool.false_ne_true
 | int a =>
  obtain ⟨t',rfl⟩:=ry
  cases x with
  | non=>cases rx;exact SeqAt.EqAt.int_none a t'
  | bl b=>cases rx;exact SeqAt.EqAt.int_bool a t' b
  | int b=>obtain ⟨t,rfl⟩:=rx;exact SeqAt.EqAt.int_int a t' b t
  | str b=>obtain ⟨t,rfl⟩:=rx;exact SeqAt.EqAt.int_str a t' b t
  | _=>exact absurd (show false=true from fx) Bool.false_ne_true
 | str a =>
  obtain ⟨t',rfl⟩:=ry
  cases x with
  | non=>cases rx;exact SeqAt.EqAt.str_none a t'
  | bl b=>cases rx;exact SeqAt.EqAt.str_bool a t' b
  | int b=>obtain ⟨t,rfl⟩:=rx;exact SeqAt.EqAt.str_int a t' b t
  | str b=>obtain ⟨t,rfl⟩:=rx;exact SeqAt.EqAt.str_str a t' b t
  | _=>exact absurd (show false=true from fx) Bool.false_ne_true
 | _=>exact absurd (show false=true from fy) Bool.false_ne_true
noncomputable def eqU (x:V) (u:Value):Bool:=match u with
 | .none=>eqV .non x
 | .bool b=>eqV (.bl b) x
 | .int i _=>eqV (.int i) x
 | .str z _=>eqV (.str z) x
 | _=>false
theorem zpd {x y:V} {u:Value} (r:RelV y u) (f:z9w y=true):eqU x u=eqV y x:=by
 cases y with
 | non=>cases r;rfl
 | bl b=>cases r;rfl
 | int i=>obtain ⟨t,rfl⟩:=r;rfl
 | str z=>obtain ⟨t,rfl⟩:=r;rfl
 | _=>exact absurd (show false=true from f) Bool.false_ne_true
theorem zei {x:V}:∀ {xs:List V} {us:List Value},Vals xs us→xs.all z9w=true→us.any (eqU x)=xs.any fun y=>eqV y x
 | _,_,.nil,_=>rfl
 | y::xs,u::us,.cons r t,f=>by
  rw [List.all_cons,Bool.and_eq_true] at f
  rw [List.any_cons,List.any_cons,zpd r f.1,zei t f.2]
theorem zay {A:Around} {s:Shared} {x:V} {v:Value} (rx:RelV x v) (fx:z9w x=true):∀ {xs:List V} {us:List Value},Vals xs us→xs.all z9w=true→∀ u∈us,SeqAt.EqAt A s u v (eqU x u)
 | _,_,.nil,_=>fun u hu=>by cases hu
 | y::xs,u::us,.cons r t,f=>fun u' hu=>by
  rw [List.all_cons,Bool.and_eq_true] at f
  rcases List.mem_cons.mp hu with rfl | hu
  ·rw [zpd r f.1];exact zvf r rx f.1 fx
  ·exact zay rx fx t f.2 u' hu
noncomputable def inV (x:V) (xs:List V):Bool:=xs.any fun y=>eqV y x
noncomputable def rIn (K:PySem.W.Frag) (neg:Bool):R2:=fun x y H Q=>∃ p xs,y=.ref p∧(SqL K H p xs∨SqT K H p xs)∧z9w x=true∧xs.all z9w=true∧Q (.bl (if neg then !inV x xs else inV x xs)) H
theorem zbw:OpR X (compareOp .NotIn) (rIn X.K true):=by
 intro pins s σ H x y v u Q I rx ry h
 obtain ⟨p,xs,rfl,hq,fx,fs,q⟩:=h
 cases ry
 rcases hq with hq | hq
 ·obtain ⟨its,r,pl,hz⟩:=I.list hq
  refine SeqAt.notIn_listAt (eqU x) pl.isList (fun w hw=>zay rx fx r fs w (by simpa using hw)) ⟨.bl _,H,I,rfl,?_⟩
  rw [show its.toArray.any (eqU x)=its.any (eqU x) by simp,zei r fs]
  exact q
 ·obtain ⟨its,r,pl,hz⟩:=I.tuple hq
  refine SeqAt.notIn_tupleAt (eqU x) pl (fun w hw=>zay rx fx r fs w (by simpa using hw)) ⟨.bl _,H,I,rfl,?_⟩
  rw [show its.toArray.any (eqU x)=its.any (eqU x) by simp,zei r fs]
  exact q
theorem zcv:z60 X (.builtin "len") (fun xs H Q=>∃ p ys,xs=[.ref p]∧(SqL X.K H p ys∨SqT X.K H p ys)∧Q (.int ys.length) H):=by
 intro pins s σ H xs us Q I r h
 obtain ⟨p,ys,rfl,hq,q⟩:=h
 obtain ⟨u,rfl,rx⟩:=z96 r
 cases rx
 have hn:=za7
 rcases hq with hq | hq
 ·obtain ⟨its,r',pl,hz⟩:=I.list hq
  have hlen:=r'.length
  exact Calls.call_len_list pl.isList (by simp only [List.size_toArray] <;> omega) ⟨.int ys.length,H,I.tok _,⟨s.toks+1,by rw [List.size_toArray,hlen]⟩,q⟩
 ·obtain ⟨its,r',pl,hz⟩:=I.tuple hq
  have hlen:=r'.length
  exact len_tuple pl (by simp only [List.size_toArray] <;> omega) ⟨.int ys.length,H,I.tok _,⟨s.toks+1,by rw [List.size_toArray,hlen]⟩,q⟩
theorem zcu:z60 X (.type "list") (fun xs H Q=>∃ p ys,xs=[.ref p]∧(SqL X.K H p ys∨SqT X.K H p ys)∧∀ l,H l=none→Q (.ref l) (upd H l (.lst ys))):=by
 intro pins s σ H xs us Q I r h
 obtain ⟨p,ys,rfl,hq,q⟩:=h
 obtain ⟨u,rfl,rx⟩:=z96 r
 cases rx
 have fin:∀ (its:List Value),Vals ys its→ys.length≤sizeLine→∀ (h':Heap) (c':Nat),(∀ b o',s.heap.get? b=some o'→h'.get? b=some o') →
   h'.get? s.heap.objs.size=some { cls:=.type "list",dict:=none,data:=.seq its.toArray c',slots:=#[] }→EP X pins σ Q (.ref s.heap.objs.size) { s with heap:=h' }:=fun its r' hz h' c' kp e =>
  ⟨.ref s.heap.objs.size,_,I.laid (t':=s.toks) kp (Nat.le_refl _) (show ObjOk X.prog X.w _ h' _ (.lst ys) from ⟨hz,its,c',r',e⟩),rfl,q _ (I.hok.fresh (Nat.le_refl _))⟩
 rcases hq with hq | hq
 ·obtain ⟨its,r',pl,hz⟩:=I.list hq
  have hlen:=r'.length
  obtain ⟨o,ho,hc,n,hd⟩:=pl.isList
  exact call_list_seq p (.inl rfl) ho hc hd (fun h' c' kp e=>fin its r' hz h' c' kp e) (by simp only [List.size_toArray] <;> omega)
 ·obtain ⟨its,r',pl,hz⟩:=I.tuple hq
  have hlen:=r'.length
  obtain ⟨o,ho,hc,n,hd⟩:=pl
  exact call_list_seq p (.inr rfl) ho hc hd (fun h' c' kp e=>fin its r' hz h' c' kp e) (by simp only [List.size_toArray] <;> omega)
def tyV (K:PySem.W.Frag) (T:String) (x:V) (H:Hp):Prop:=match x with
 | .str _=>T = "str"
 | .int _=>T = "int"
 | .ref p=>(T = "list" ∧ ∃ xs,SqL K H p xs)∨(T = "tuple" ∧ ∃ o,K.lookup p=some o∧o.cls=.type "tuple" ∧ o.dict=none) ∨
   (T = "dict" ∧ ((∃ kvs,H p=some (.dK kvs))∨∃ kvs,H p=some (.dT kvs)))∨(T = "set" ∧ ∃ S n,H p=some (.set S n))
 | _=>False
theorem zoj {pins:List (Addr×Obj)} {σ:St} {H:Hp} {s:Shared} {T:String} {x:V} {v:Value} (I:Inv X pins σ H s) (r:RelV x v) (ty:tyV X.K T x H) :
  s.TypeIs v T∧∀ a,v=.ref a→∃ ob,s.heap.get? a=some ob∧ob.dict=none:=by
 cases x with
 | str z =>
  obtain ⟨t,rfl⟩:=r
  cases (show T = "str" from ty)
  exact ⟨typeIs_str s z t,fun _ e=>nomatch e⟩
 | int i =>
  obtain ⟨t,rfl⟩:=r
  cases (show T = "int" from ty)
  exact ⟨typeIs_int s i t,fun _ e=>nomatch e⟩
 | ref p =>
  cases r
  rcases ty with ⟨rfl,xs,hq⟩ | ⟨rfl,o,hk,hc,hd⟩ | ⟨rfl,hk⟩ | ⟨rfl,S,n,hk⟩
  ·obtain ⟨its,_,pl,_⟩:=I.list hq
   refine ⟨pl.isList.typeIs,fun a e=>?_⟩
   cases e
   refine bq fun bG=>?_
   obtain ⟨o,n,e,c,hd,_⟩:=pl
   exact bG (⟨o,e,hd⟩)
  ·refine ⟨⟨o,I.kIn p o hk,hc⟩,fun a e=>?_⟩
   cases e
   exact ⟨o,I.kIn _ o hk,hd⟩
  ·have z:∃ o,s.heap.get? p=some o∧o.ExactDict:=by
    rcases hk with ⟨kvs,hk⟩ | ⟨kvs,hk⟩
    ·obtain ⟨_,_,_,_,o,_,_,e,ex,_⟩:=I.hok p _ hk
     exact ⟨o,e,ex⟩
    ·obtain ⟨_,_,_,_,o,_,_,e,ex,_⟩:=I.hok p _ hk
     exact ⟨o,e,ex⟩
   refine bq fun bG=>?_
   obtain ⟨o,e,ex⟩:=z
   refine bG (⟨⟨o,e,ex.1⟩,fun a e2=>?_⟩)
   cases e2
   exact ⟨o,e,ex.2.1⟩
  ·obtain ⟨o,_,_,_,e,ex,_⟩:=I.hok p _ hk
   refine ⟨⟨o,e,ex.1⟩,fun a e2=>?_⟩
   cases e2
   exact ⟨o,e,ex.2.1⟩
 | _=>exact False.elim ty
def zwe (K:PySem.W.Frag) (T:String) (r:V→List V→Hp→VK→Prop) (to:TE):TE:=fun σ H Q=>to σ H fun x H1=>tyV K T x H1∧r x [] H1 Q
def tBM (K:PySem.W.Frag) (T:String) (r:V→List V→Hp→VK→Prop) (to:TE) (t:TA):TE:=fun σ H Q=>to σ H fun x H1=>tyV K T x H1∧t σ H1 fun xs H2=>r x xs H2 Q
variable {o e:Expr} {es:List Expr} {to:TE} {t:TA} {name:Str} {apos cpos:Pos} {T id:String} {r:V→List V→Hp→VK→Prop}
theorem zp1 (pa:PlainAttrs T) (slot:Slot T name id) (hty:typeOf (.builtin id)=pure (.type "method_descriptor")) (hm:MtR X id r) (ho:PE X o to)
  (hbase:attributeBase o name X.env (eval o X.env)=eval o X.env:=by rfl) (hline:(apos.endLine==cpos.line)=true:=by rfl):PE X (.Call (.Attribute o name apos) [] [] cpos) (zwe X.K T r to):=by
 intro pins s σ H Q I h
 refine wpAny_Call_method0_late hbase hline (thn (ho pins s σ H _ I h) fun v s1 hm=>?_)
 refine bq fun bG=>?_
 obtain ⟨x,H1,I1,r1,ty,q1⟩:=hm
 obtain ⟨h1,h2⟩:=zoj I1 r1 ty
 exact bG (⟨T,id,pa,slot,hty,h1,h2,Calls.callWith_builtin rfl (PySem.evalArgs_none (hm pins s1 σ H1 x [] v [] Q I1 r1 .nil q1))⟩)
theorem zn3 (pa:PlainAttrs T) (slot:Slot T name id) (hty:typeOf (.builtin id)=pure (.type "method_descriptor")) (hm:MtR X id r) (ho:PE X o to) (ha:PA X (e::es) t)
  (hbase:attributeBase o name X.env (eval o X.env)=eval o X.env:=by rfl)
  (hfew:((backTo cpos (starEach (e::es) X.env)).all (fun x=>!x.1)&&(backToKw cpos (keywordEach [] X.env)).all (fun x=>x.1.isSome)
   && decide ((e::es).length+([]:List Keyword).length+(if ([]:List Keyword).isEmpty then 0 else 1)<30))=true:=by rfl)
  (hline:(apos.endLine==cpos.line)=true:=by rfl) (hs:starEach (e::es) X.env=(false,eval e X.env)::starEach es X.env:=by rfl) (hplain:(backTo cpos (starEach es X.env)).any (·.1)=false:=by rfl) :
  PE X (.Call (.Attribute o name apos) (e::es) [] cpos) (tBM X.K T r to t):=by
 intro pins s σ H Q I h
 refine wpAny_Call_method_late hbase hfew hline rfl (thn (ho pins s σ H _ I h) fun v s1 hm=>?_)
 refine bq fun bG=>?_
 obtain ⟨x,H1,I1,r1,ty,q1⟩:=hm
 obtain ⟨h1,h2⟩:=zoj I1 r1 ty
 refine bG (⟨T,id,pa,slot,hty,h1,h2,?_⟩)
 have hA:=ha cpos pins s1 σ H1 _ I1 q1
 rw [hs] at hA ⊢
 refine Calls.callWith_builtin (by show (false||(backTo cpos (starEach es X.env)).any (·.1))=false;rw [hplain] <;> rfl) (Calls.evalArgs_plain ?_)
 exact thn hA fun us s2 ⟨vs,H2,I2,r2,q2⟩=>hm pins s2 σ H2 x vs v us Q I2 r1 r2 q2
end
noncomputable def MtM (X:Cx) (id:String) (r:V→List V→Hp→VK→Prop):Prop :=
 ∀ (pins:List (Addr×Obj)) (s:Shared) (σ:St) (H:Hp) (x:V) (xs:List V) (v:Value) (us:List Value) (Q:VK),Inv X pins σ H s→RelV x v→Vals xs us→r x xs H Q →
  wpAny (model X.prog X.w) X.A (call (.builtin id) (v::us)) (EP X pins σ Q) X.xe s
theorem Vals.one {x:V} {us:List Value} (h:Vals [x] us):∃ u,us=[u]∧RelV x u:=by
 cases h with | cons r t=>cases t;exact ⟨_,rfl,r⟩
theorem Vals.two {x y:V} {us:List Value} (h:Vals [x,y] us):∃ u v,us=[u,v]∧RelV x u∧RelV y v:=by
 cases h with | cons r t=>obtain ⟨v,rfl,q⟩:=Vals.one t;exact ⟨_,v,rfl,r,q⟩
theorem Vals.zero:∀ {us:List Value},Vals [] us→us=[]
 | _,.nil=>rfl
theorem Vals.eraseIdx:∀ {xs:List V} {us:List Value} (i:Nat),Vals xs us→Vals (xs.eraseIdx i) (us.eraseIdx i)
 | _,_,_,.nil=>.nil
 | _,_,0,.cons _ t=>t
 | _,_,i+1,.cons r t=>.cons r (Vals.eraseIdx i t)
theorem Vals.reverse {xs:List V} {us:List Value} (h:Vals xs us):Vals xs.reverse us.reverse:=by
 induction h with
 | nil=>exact .nil
 | cons r t ih=>rw [List.reverse_cons,List.reverse_cons];exact Vals.append ih (.cons r .nil)
theorem Vals.rep {xs:List V} {us:List Value} (h:Vals xs us):∀ k:Nat,Vals (List.replicate k xs).flatten (List.replicate k us).flatten
 | 0=>.nil
 | k+1=>by
  rw [List.replicate_succ,List.replicate_succ,List.flatten_cons,List.flatten_cons]
  exact Vals.append h (Vals.rep h k)
theorem zca {α:Type}:∀ (l:List α) (i:Nat),(l.eraseIdx i).length≤l.length
 | [],_=>Nat.le_refl _
 | _::_,0=>Nat.le_succ _
 | _::r,i+1=>Nat.succ_le_succ (zca r i)
theorem zcd (its:List Value):∀ (k:Nat) (acc:List Value),
  List.foldl (fun x1 x2=>x1++x2) acc.toArray (List.replicate k its.toArray)=(acc++(List.replicate k its).flatten).toArray
 | 0,acc=>by simp
 | k+1,acc=>by
  have e:acc.toArray++its.toArray=(acc++its).toArray:=by simp
  have e2:(acc++its)++(List.replicate k its).flatten=acc++(List.replicate (k+1) its).flatten:=by
   rw [List.replicate_succ,List.flatten_cons,List.append_assoc]
  rw [← e2,← zcd its k (acc++its),← e,List.replicate_succ,List.foldl_cons]
section
variable {X:Cx} {pins:List (Addr×Obj)} {σ:St} {H:Hp} {s:Shared} {l b:Addr} {xs ys zs:List V}
theorem Inv.lset {its its':List Value} {n:Nat} {f:Array Value→Array Value} {t':Nat} (I:Inv X pins σ H s) (hH:H l=some (.lst xs))
  (e:s.heap.get? l=some { cls:=.type "list",data:=.seq its.toArray n }) (hf:f its.toArray=its'.toArray) (hv:Vals ys its') (hz:ys.length≤sizeLine) :
  Inv X pins σ (upd H l (.lst ys)) { s with heap:=s.heap.update l (Obj.mapSeq f),toks:=t' }:=by
 have q:=PySem.IsL.update e f
 rw [hf] at q
 refine I.write (x:=l) (e:=l) (by rw [hH];exact trivial) (.inl rfl) (fun b' u hb hu=>(Heap.get?_update_other s.heap (Obj.mapSeq f) (Ne.symm hb)).trans hu) ⟨_,q⟩ ?_
 exact ⟨hz,its',_,hv,q⟩
theorem Inv.lnew {its:List Value} {t':Nat} (I:Inv X pins σ H s) (hv:Vals ys its) (hz:ys.length≤sizeLine) :
  Inv X pins σ (upd H s.heap.objs.size (.lst ys)) { s with heap:=s.heap.push { cls:=.type "list",data:=.seq its.toArray },toks:=t' } :=
 I.laid (fun _ _ q=>Heap.get?_push_of_some _ q) (Nat.le_refl _) ⟨hz,its,0,hv,Heap.get?_push_size _ rfl⟩
theorem Inv.fresh (I:Inv X pins σ H s):H s.heap.objs.size=none:=I.hok.fresh (Nat.le_refl _)
theorem Inv.lstM (I:Inv X pins σ H s) (hH:H l=some (.lst xs)):xs.length≤sizeLine∧∃ (its:List Value) (n:Nat),Vals xs its∧xs.length=its.length∧s.heap.get? l=some { cls:=.type "list",data:=.seq its.toArray n }:=by
 refine bq fun bG=>?_
 obtain ⟨z,its,n,r,e⟩:=I.hok l _ hH
 exact bG (⟨z,its,n,r,r.length,e⟩)
theorem zfa {n:Nat} (h:n≤sizeLine):Builtin.List.listTooLong n=false:=by
 unfold Builtin.List.listTooLong
 exact decide_eq_false (by omega)
end
section
variable {X:Cx}
def zj4:V→List V→Hp→VK→Prop:=fun x vs H Q=>∃ l xs y,x=.ref l∧vs=[y]∧H l=some (.lst xs)∧xs.length<sizeLine∧Q .non (upd H l (.lst (xs++[y])))
theorem z87:MtM X "list.append" zj4:=by
 intro pins s σ H x vs v us Q I rx rv h
 obtain ⟨l,xs,y,rfl,rfl,hH,hz,q⟩:=h
 cases rx
 obtain ⟨u,rfl,ru⟩:=rv.one
 obtain ⟨z,its,n,r,hl,e⟩:=I.lstM hH
 refine call_meets F.slot_list_append ⟨_,e,rfl⟩ F.entry_list_append (F.args_list_append_2 _ _) (PySem.list_append l its.toArray n u (by rw [List.size_toArray];omega)) ⟨e,?_⟩
 refine ⟨.non,_,I.lset (its':=its++[u]) hH e (by simp) (r.append (.cons ru .nil)) ?_,rfl,q⟩
 rw [List.length_append,List.length_singleton]
 omega
def zj3:V→List V→Hp→VK→Prop:=fun x vs H Q=>∃ l b xs zs,x=.ref l∧vs=[.ref b]∧H l=some (.lst xs)∧H b=some (.lst zs)∧xs.length+zs.length≤sizeLine∧Q .non (upd H l (.lst (xs++zs)))
theorem zjn:MtM X "list.extend" zj3:=by
 intro pins s σ H x vs v us Q I rx rv h
 obtain ⟨l,b,xs,zs,rfl,rfl,hH,hB,hz,q⟩:=h
 cases rx
 obtain ⟨u,rfl,ru⟩:=rv.one
 cases ru
 obtain ⟨z,its,n,r,hl,e⟩:=I.lstM hH
 obtain ⟨z2,its2,n2,r2,hl2,e2⟩:=I.lstM hB
 have hsz:its.toArray.size+its2.toArray.size≤sizeLine:=by rw [List.size_toArray,List.size_toArray];omega
 have hlong:¬ (!its.toArray.isEmpty&&Builtin.List.listTooLong (its.toArray.size+its2.toArray.size))=true:=by
  rw [zfa hsz,Bool.and_false]
  exact Bool.false_ne_true
 refine call_meets F.slot_list_extend ⟨_,e,rfl⟩ F.entry_list_extend (F.args_list_extend_2 _ _)
  (AutoSeq1.list_extend_list_list_0 l its.toArray n b its2.toArray n2 hlong (by rw [List.size_toArray];omega) (by omega)) ⟨e,e2,?_⟩
 refine ⟨.non,_,I.lset (its':=its++its2) hH e (by simp) (r.append r2) ?_,rfl,q⟩
 rw [List.length_append]
 omega
def zoq:V→List V→Hp→VK→Prop:=fun x vs H Q=>∃ l xs i k y,x=.ref l∧vs=[.int i]∧H l=some (.lst xs)∧-(2 ^ 63)≤i∧i<2 ^ 63∧seqIndex? i xs.length=some k∧xs[k]?=some y∧Q y (upd H l (.lst (xs.eraseIdx k)))
theorem zn9:MtM X "list.pop" zoq:=by
 intro pins s σ H x vs v us Q I rx rv h
 obtain ⟨l,xs,i,k,y,rfl,rfl,hH,h1,h2,hk,hy,q⟩:=h
 cases rx
 obtain ⟨u,rfl,ru⟩:=rv.one
 obtain ⟨t,rfl⟩:=ru
 obtain ⟨z,its,n,r,hl,e⟩:=I.lstM hH
 obtain ⟨w,hw,rw'⟩:=r.get hy
 refine call_meets F.slot_list_pop ⟨_,e,rfl⟩ F.entry_list_pop (F.args_list_pop_2 _ _)
  (MeetsSeq.list_pop_at l its.toArray n i t k w (fitsIndex_both h1 h2) (by rw [List.size_toArray,← hl];exact hk) (by rw [← Array.getElem?_toList];exact hw) (by rw [List.size_toArray];omega)) ⟨e,?_⟩
 refine ⟨y,_,I.lset (its':=its.eraseIdx k) hH e ?_ (r.eraseIdx k) ?_,rw',q⟩
 ·show its.toArray.eraseIdxIfInBounds k=(its.eraseIdx k).toArray
  rw [List.eraseIdxIfInBounds_toArray]
 ·have:=zca xs k
  omega
noncomputable def zxr:R2:=fun x y H Q=>∃ l b xs zs,x=.ref l∧y=.ref b∧H l=some (.lst xs)∧H b=some (.lst zs)∧xs.length+zs.length≤sizeLine∧∀ p,H p=none→Q (.ref p) (upd H p (.lst (xs++zs)))
theorem op_cat:OpR X (binaryOp .Add) zxr:=by
 intro pins s σ H x y v u Q I rx ry h
 obtain ⟨l,b,xs,zs,rfl,rfl,hH,hB,hz,q⟩:=h
 cases rx
 cases ry
 obtain ⟨z,its,n,r,hl,e⟩:=I.lstM hH
 obtain ⟨z2,its2,n2,r2,hl2,e2⟩:=I.lstM hB
 refine PySem.P.add_list e e2 ?_ (by rw [List.size_toArray,List.size_toArray];omega)
 have ea:its.toArray++its2.toArray=(its++its2).toArray:=by simp
 rw [ea]
 exact ⟨.ref _,_,I.lnew (t':=s.toks) (r.append r2) (by rw [List.length_append];omega),rfl,q _ I.fresh⟩
noncomputable def zxn:R2:=fun x y H Q=>∃ l k xs,x=.ref l∧y=.int k∧H l=some (.lst xs)∧-(2 ^ 63)≤k∧k<2 ^ 63∧xs.length*k.toNat≤sizeLine ∧
 ∀ p,H p=none→Q (.ref p) (upd H p (.lst (List.replicate k.toNat xs).flatten))
theorem zr4 {α:Type} (xs:List α) (k:Nat):(List.replicate k xs).flatten.length=k*xs.length:=by
 induction k with
 | zero=>simp
 | succ k ih=>rw [List.replicate_succ,List.flatten_cons,List.length_append,ih,Nat.succ_mul,Nat.add_comm]
theorem zu5:OpR X (binaryOp .Mult) zxn:=by
 intro pins s σ H x y v u Q I rx ry h
 obtain ⟨l,k,xs,rfl,rfl,hH,h1,h2,hz,q⟩:=h
 cases rx
 obtain ⟨t,rfl⟩:=ry
 obtain ⟨z,its,n,r,hl,e⟩:=I.lstM hH
 have hlen:its.toArray.size*k.toNat≤sizeLine:=by rw [List.size_toArray,← hl];exact hz
 have hcap:¬ its.toArray.size*k.toNat > (2 ^ 63 - 1) / 8:=by
  have:(sizeLine:Nat)≤(2 ^ 63 - 1) / 8:=by decide
  omega
 have hfit:¬ (!Builtin.List.listFitsIndex k)=true:=by
  rw [fitsIndex_both h1 h2]
  exact Bool.false_ne_true
 have hlong:¬ Builtin.List.listTooLong (its.toArray.size*k.toNat)=true:=by
  rw [zfa hlen]
  exact Bool.false_ne_true
 have hnew:List.foldl (fun x1 x2=>x1++x2) #[] (List.replicate (if its.toArray.isEmpty=true then 0 else k.toNat) its.toArray)=(List.replicate k.toNat its).flatten.toArray:=by
  have f0:∀ m:Nat,List.foldl (fun x1 x2=>x1++x2) #[] (List.replicate m its.toArray)=(List.replicate m its).flatten.toArray:=fun m=>by
   have:=zcd its m []
   rw [List.nil_append] at this
   exact this
  rw [f0]
  cases its with
  | nil=>simp
  | cons a r'=>rw [if_neg (by simp)]
 refine wpAny_binaryOp_repeat_ref (T := "list") (U := "int") (by decide) ⟨_,e,rfl⟩ (fun s'=>typeIs_int s' k t) noFill_list_mul F.fills_int_mul F.slot_int_rmul repeat_list F.slot_int_index.lookup
  (call_meets F.slot_int_rmul (typeIs_int s k t) F.entry_int_rmul (F.args_int_rmul_2 _ _) (int___rmul___int_list k t l its.toArray n)
   ⟨e,rfl,⟨_,e,rfl⟩,call_meets F.slot_list_mul ⟨_,e,rfl⟩ F.entry_list_mul (F.args_list_mul_2 _ _) (AutoListH.list___mul___list_int_3 l its.toArray n k t hfit hcap hlong) ⟨e,?_⟩⟩)
 rw [hnew]
 exact ⟨.ref _,_,I.lnew (t':=s.toks) (r.rep k.toNat) (by rw [zr4,Nat.mul_comm];exact hz),rfl,q _ I.fresh⟩
end
section
variable {prog:Program} {w:World} {A:Around} {E:Value→Shared→Prop} {s:Shared}
end
section
variable {X:Cx}
end
section
variable {κ:Type} [DecidableEq κ]
noncomputable def zd5 (kvs:List (κ×V)) (k:κ):Option V:=(kvs.find? fun kv=>decide (kv.1=k)).map (·.2)
noncomputable def zf1 (kvs:List (κ×V)) (k:κ) (v:V):List (κ×V) :=
 if (kvs.any fun kv=>decide (kv.1=k))=true then kvs.map (fun kv=>if kv.1=k then (kv.1,v) else kv) else kvs++[(k,v)]
theorem z7d {p:κ×V} {r:List (κ×V)} {k:κ} (e:p.1=k):zd5 (p::r) k=some p.2:=by simp [zd5,List.find?_cons,e]
theorem z7e {p:κ×V} {r:List (κ×V)} {k:κ} (e:¬ p.1=k):zd5 (p::r) k=zd5 r k:=by simp [zd5,List.find?_cons,e]
theorem z8c (kvs:List (κ×V)) (k:κ) (v:V):(zf1 kvs k v).length≤kvs.length+1:=by
 unfold zf1
 split
 ·rw [List.length_map];omega
 ·rw [List.length_append,List.length_cons,List.length_nil];omega
theorem KV.val {kvs:List (κ×V)} {vs:List (κ×Value)} (r:KV kvs vs) (k:κ):RelO (zd5 kvs k) (valueAt vs k):=by
 unfold KV at r
 induction r with
 | nil=>exact True.intro
 | @cons p q ps qs h t ih =>
  obtain ⟨h1,h2⟩:=h
  by_cases e:p.1=k
  ·have e':q.1=k:=h1.symm.trans e
   have b:valueAt (q::qs) k=some q.2:=by simp [valueAt,List.find?_cons,e']
   rw [z7d e,b];exact h2
  ·have e':¬ q.1=k:=fun z=>e (h1.trans z)
   have b:valueAt (q::qs) k=valueAt qs k:=by simp [valueAt,List.find?_cons,e']
   rw [z7e e,b];exact ih
theorem KV.any {kvs:List (κ×V)} {vs:List (κ×Value)} (r:KV kvs vs) (k:κ):(kvs.any fun kv=>decide (kv.1=k))=vs.any fun kv=>decide (kv.1=k):=by
 unfold KV at r
 induction r with
 | nil=>rfl
 | cons h t ih=>rw [List.any_cons,List.any_cons,ih,h.1]
theorem KV.repl {kvs:List (κ×V)} {vs:List (κ×Value)} (r:KV kvs vs) (k:κ) {y:V} {u:Value} (ry:RelV y u) :
  KV (kvs.map fun kv=>if kv.1=k then (kv.1,y) else kv) (vs.map fun kv=>if kv.1=k then (kv.1,u) else kv):=by
 unfold KV at r ⊢
 induction r with
 | nil=>exact .nil
 | @cons p q ps qs h t ih =>
  rw [List.map_cons,List.map_cons]
  refine .cons ?_ ih
  obtain ⟨h1,h2⟩:=h
  by_cases e:p.1=k
  ·rw [if_pos e,if_pos (h1.symm.trans e)];exact ⟨h1,ry⟩
  ·rw [if_neg e,if_neg (fun z=>e (h1.trans z))];exact ⟨h1,h2⟩
theorem KV.put {kvs:List (κ×V)} {vs:List (κ×Value)} (r:KV kvs vs) (k:κ) {y:V} {u:Value} (ry:RelV y u):KV (zf1 kvs k y) (stored vs k u):=by
 unfold zf1 stored
 rw [r.any k]
 by_cases e:(vs.any fun kv=>decide (kv.1=k))=true
 ·rw [if_pos e,if_pos e];exact r.repl k ry
 ·rw [if_neg e,if_neg e];exact Paired.snoc r ⟨rfl,ry⟩
theorem KV.length {kvs:List (κ×V)} {vs:List (κ×Value)} (r:KV kvs vs):kvs.length=vs.length:=Paired.length r
end
theorem zni {P:Program} {w:World} {k:Key} {u:Value} (r:RelV (kV k) u):(z16 P w).is k u=true:=by
 cases k with
 | inl i=>obtain ⟨t,e⟩:=(show ∃ t,u=Value.int i t from r);subst e;exact zdw P w i t
 | inr x=>obtain ⟨t,e⟩:=(show ∃ t,u=Value.str x t from r);subst e;exact zdv P w x t
theorem zcb {P:Program} {w:World}:∀ {ks:List Key} {us:List Value},Vals (ks.map kV) us→ItemsAre (z16 P w) ks us
 | [],_,r=>by rw [List.map_nil] at r;cases r;exact .nil
 | k::ks,_,r=>by
  rw [List.map_cons] at r
  cases r with
  | cons h t=>exact .cons (zni h) (zcb t)
noncomputable abbrev KT (H:Hp):List (List Key×V)→List (List Key×Addr×Value)→Prop:=Paired fun p q=>p.1=q.1∧H q.2.1=some (.tup (p.1.map kV))∧RelV p.2 q.2.2
theorem KT.val {H:Hp} {kvs:List (List Key×V)} {xs:List (List Key×Addr×Value)} (r:KT H kvs xs) (k:List Key):RelO (zd5 kvs k) ((atKey xs k).map (·.2)):=by
 induction r with
 | nil=>exact True.intro
 | @cons p q ps qs h t ih =>
  obtain ⟨h1,_,h2⟩:=h
  by_cases e:p.1=k
  ·have e':q.1=k:=h1.symm.trans e
   have b:atKey (q::qs) k=some q.2:=by simp [atKey,List.find?_cons,e']
   rw [z7d e,b];exact h2
  ·have e':¬ q.1=k:=fun z=>e (h1.trans z)
   have b:atKey (q::qs) k=atKey qs k:=by simp [atKey,List.find?_cons,e']
   rw [z7e e,b];exact ih
section
variable {P:Program} {w:World} {H:Hp} {h:Heap} {a:Addr}
theorem zt4 {u:HO} (ok:HOk P w H h) (e:Rd H a u):ObjOk P w H h a u:=e.ok ok
theorem zrn {kvs:List (Key×V)} (ok:HOk P w H h) (e:Rd H a (.dK kvs)):kvs.length≤sizeLine∧(a==sysModules)=false∧∃ vs,KV kvs vs∧h.DictOf (z16 P w) a vs :=
 show ObjOk P w H h a (.dK kvs) from zt4 ok e
theorem zgz {kvs:List (Key×V)} (ok:HOk P w H h) (e:H a=some (.dK kvs)):kvs.length≤sizeLine∧(a==sysModules)=false∧∃ vs,KV kvs vs∧h.DictOf (z16 P w) a vs:=zrn ok (.inl e)
theorem zp8 {ks:List Key} (ok:HOk P w H h) (e:H a=some (.tup (ks.map kV))):(tupleKind (z16 P w)).is h ks a:=by
 refine bq fun bG=>?_
 obtain ⟨_,its,r,o,h1,h2,n,h3⟩:=(show ObjOk P w H h a (.tup (ks.map kV)) from ok a _ e)
 exact bG (⟨o,its.toArray,n,h1,h2,h3,by simpa using zcb r⟩)
theorem zvj {kvs:List (List Key×V)} (ok:HOk P w H h) (e:Rd H a (.dT kvs)):kvs.length≤sizeLine∧(a==sysModules)=false ∧
  ∃ xs,KT H kvs xs∧h.DictOfH (tupleKind (z16 P w)) a xs:=by
 refine bq fun bG=>?_
 obtain ⟨z,y,xs,r,o,es,ep,h1,h2,h3,h4,h5⟩:=(show ObjOk P w H h a (.dT kvs) from zt4 ok e)
 refine bG (⟨z,y,xs,r,o,es,ep,h1,h2,h3,h4,fun x hx=>?_,h5⟩)
 have all:∀ {l:List (List Key×V)} {m:List (List Key×Addr×Value)},KT H l m→∀ x∈m,(tupleKind (z16 P w)).is h x.1 x.2.1:=by
  intro l m q
  induction q with
  | nil=>intro x hx;exact nomatch hx
  | @cons p q ps qs hq t ih =>
   intro x hx
   rcases List.mem_cons.mp hx with e | hx
   ·subst e
    exact zp8 ok (by rw [← hq.1];exact hq.2.1)
   ·exact ih x hx
 exact all r x hx
end
noncomputable def DGet (H:Hp) (a:Addr) (y:V) (r:Option V):Prop :=
 (∃ kvs k,Rd H a (.dK kvs)∧y=kV k∧r=zd5 kvs k)∨∃ kvs k b,Rd H a (.dT kvs)∧y=.ref b∧H b=some (.tup (k.map kV))∧r=zd5 kvs k
theorem DGet.k {H:Hp} {a:Addr} {kvs:List (Key×V)} {k:Key} (e:H a=some (.dK kvs)):DGet H a (kV k) (zd5 kvs k):=.inl ⟨kvs,k,.inl e,rfl,rfl⟩
section
variable {X:Cx} {pins:List (Addr×Obj)} {σ:St} {H:Hp} {s:Shared} {a:Addr} {y v:V} {u r:Value} {o:Option V} {A:Around} {E:Value→Shared→Prop}
theorem Inv.big (I:Inv X pins σ H s):sysModules<s.heap.objs.size:=by
 have h:mainGlobals<s.heap.objs.size:=(I.mod.glob.keeps I.bk).lt
 exact Nat.lt_trans (by decide) h
theorem zkw {Q:Value→Shared→Prop} (hu:A.units+1<cLine) (I:Inv X pins σ H s) (g:DGet H a y (some v)) (ry:RelV y u) (h:∀ w' s',Inv X pins σ H s'→RelV v w'→Q w' s') :
  wpAny (model X.prog X.w) A (getItem (.ref a) u) Q E s:=by
 rcases g with ⟨kvs,k,e,ey,l⟩ | ⟨kvs,k,b,e,ey,eb,l⟩
 ·subst ey
  refine bq fun bG=>?_
  obtain ⟨z,hd,vs,rel,dd⟩:=zrn I.hok e
  obtain ⟨w',hw,rw'⟩:=RelO.some_of (v:=v) (o:=valueAt vs k) (by rw [l];exact rel.val k)
  exact bG (wpAny_getItem_of (zni ry) dd.mapOf hw (h w' _ (I.tok _) rw'))
 ·subst ey
  cases (show u=Value.ref b from ry)
  refine bq fun bG=>?_
  obtain ⟨z,hd,xs,rel,dd⟩:=zvj I.hok e
  obtain ⟨w',hw,rw'⟩:=RelO.some_of (v:=v) (o:=(atKey xs k).map (·.2)) (by rw [l];exact rel.val k)
  obtain ⟨p,hp,hp2⟩:=Option.map_eq_some_iff.mp hw
  refine bG (wpAny_getItem_heap (tupleKind_room_in1 hu) (zp8 I.hok eb) dd hp ?_)
  rw [hp2]
  exact h w' _ (I.tok _) rw'
theorem zkv {h':Heap} {t':Nat} {ob:HO} (I:Inv X pins σ H s) (mu:Mut (H a)) (hs:Heap.SameBut a s.heap h') (he:∃ q,h'.get? a=some q) (new:ObjOk X.prog X.w (upd H a ob) h' a ob) :
  Inv X pins σ (upd H a ob) { s with heap:=h',toks:=t' } :=
 I.write (x:=a) (e:=a) mu (.inl rfl) (fun b q hb z=>(hs.2 b hb).trans z) he new
theorem zpg {P:Program} {w:World} {H':Hp} {h':Heap} {kvs:List (Key×V)} {vs:List (Key×Value)} (z:kvs.length≤sizeLine) (hd:(a==sysModules)=false) (rel:KV kvs vs) (dd:h'.DictOf (z16 P w) a vs) :
  ObjOk P w H' h' a (.dK kvs):=⟨z,hd,vs,rel,dd⟩
end
section
variable {X:Cx} {pins:List (Addr×Obj)} {σ:St} {H:Hp} {s:Shared} {a:Addr} {kvs:List (Key×V)} {k:Key} {u:Value} {A:Around} {E:Value→Shared→Prop}
end
def zxi (i:Expr):Prop:=∀ ov iv,subscripted i false ov iv=operate [ov,iv] (getItem ov iv)
theorem zq3 {prog:Program} {w:World} {A:Around} {E:Value→Shared→Prop} {s:Shared} {env:Env} {value slice:Expr} {pos:Pos} {T id:String} {Q:Value→Shared→Prop}
  (hl:typeLookup (.type T) "__getitem__" = pure (some (.builtin id))) (hs:zxi slice)
  (h:wpAny (model prog w) A (eval value env) (fun o s₁=>wpAny (model prog w) A (eval slice env) (fun i s₂=>s₂.TypeIs o T∧wpAny (model prog w) A (getItem o i) Q E s₂) E s₁) E s) :
  wpAny (model prog w) A (eval (.Subscript value slice pos) env) Q E s:=by
 refine Subscript_ (wpAny_mono h (fun o s₁ h₁=>wpAny_mono h₁ (fun i s₂ h₂=>?_) fun _ _ x=>x) fun _ _ x=>x)
 obtain ⟨hT,h₂⟩:=h₂
 unfold subscriptTail
 refine wpAny_bind ?_
 rw [getitemInPython_of_ne hT.not_modules]
 refine wpAny_bind (wpAny_specialOf hT hl ?_)
 have fin:wpAny (model prog w) A (subscripted slice false o i) (fun r s₃=>wpAny (model prog w) A (letTemporaryGo value o r >>= fun _=>pure r) Q E s₃) E s₂:=by
  rw [hs o i]
  exact wpAny_operating (wpAny_mono h₂ (fun r s₃ h₃=>wpAny_bind (wpAny_letTemporaryGo (wpAny_pure h₃))) fun _ _ x=>x)
 first
  | exact wpAny_pure (wpAny_bind fin)
  | exact wpAny_bind (wpAny_pure (wpAny_bind fin))
  | exact wpAny_bind fin
theorem zec {X:Cx} {pins:List (Addr×Obj)} {σ:St} {H:Hp} {s:Shared} {a:Addr} {y:V} {o:Option V} (I:Inv X pins σ H s) (g:DGet H a y o):s.TypeIs (.ref a) "dict" := by
 rcases g with ⟨kvs,k,e,_,_⟩ | ⟨kvs,k,b,e,_,_,_⟩
 ·obtain ⟨_,_,vs,_,dd⟩:=zrn I.hok e
  exact dd.typeIs
 ·obtain ⟨_,_,xs,_,dd⟩:=zvj I.hok e
  exact dd.typeIs
def zwd (td ty:TE):TE:=fun σ H Q=>td σ H fun x H1=>ty σ H1 fun y H2=>∃ a v,x=.ref a∧DGet H2 a y (some v)∧Q v H2
section
variable {X:Cx} {o i e value:Expr} {pos pos' tpos:Pos} {td ty tv:TE}
theorem zqs (hu:X.A.units+1<cLine) (ho:PE X o td) (hi:PE X i ty) (hs:zxi i):PE X (.Subscript o i pos) (zwd td ty):=by
 intro pins s σ H Q I h
 refine zq3 PySem.F.slot_dict_getitem.lookup hs (thn (ho pins s σ H _ I h) fun u s1 ⟨x,H1,I1,rx,q1⟩=>thn (hi pins s1 σ H1 _ I1 q1) fun iv s2 hm=>?_)
 obtain ⟨y,H2,I2,ry,a,v,ex,g,q2⟩:=hm
 subst ex
 obtain rfl:u=Value.ref a:=rx
 exact ⟨zec I2 g,zkw hu I2 g ry fun w' s3 I3 rw'=>⟨v,H2,I3,rw',q2⟩⟩
end
theorem zny {P:Program} {w:World} {H:Hp} (h:Heap) (hb:sysModules<h.objs.size):ObjOk P w H (h.push { cls:=.type "dict",data:=.dict #[] }) h.objs.size (.dK []) :=
 ⟨Nat.zero_le _,beq_eq_false_iff_ne.mpr (Ne.symm (Nat.ne_of_lt hb)),[],.nil,Heap.DictOf.new h⟩
def zsr:TE:=fun _ H Q=>∀ p,H p=none→Q (.ref p) (upd H p (.dK []))
section
variable {X:Cx} {pos:Pos}
theorem zn0:PE X (.Dict [] [] pos) zsr:=fun pins s σ H Q I h =>
 wpAny_Dict_empty ⟨.ref s.heap.objs.size,_,I.laid (a:=s.heap.objs.size) (o:=.dK []) (t':=s.toks) (fun _ _ q=>Heap.get?_push_of_some _ q) (Nat.le_refl _) (zny s.heap I.big),rfl,h _ (I.hok.fresh (Nat.le_refl _))⟩
end
section
variable {X:Cx} {pins:List (Addr×Obj)} {σ:St} {H:Hp} {s:Shared} {a:Addr} {y d:V} {u r:Value} {o:Option V} {A:Around} {E:Value→Shared→Prop}
end
section
variable {X:Cx} {o e f:Expr} {apos cpos:Pos} {td ty tx:TE}
end
section
variable {X:Cx} {pins:List (Addr×Obj)} {σ:St} {H:Hp} {s:Shared} {a:Addr} {kvs:List (Key×V)} {A:Around} {E:Value→Shared→Prop}
end
section
variable {X:Cx} {pins:List (Addr×Obj)} {σ:St} {H:Hp} {s:Shared} {a:Addr} {y:V} {u:Value} {A:Around} {E:Value→Shared→Prop}
end
end L2
namespace Att
open PySem PySem.W PySem.Calls PyProof.Rows
theorem z8e {P:Params} {h:Heap}:∀ (ns:List Int) (vs:List Value),WellAll P h vs (ns.map WData.int)→IntsAre vs ns:=by
 intro ns
 induction ns with
 | nil =>
  intro vs w
  rw [List.map_nil] at w
  cases w
  exact .nil
 | cons n ns ih =>
  intro vs w
  rw [List.map_cons] at w
  cases w with
  | cons a b =>
   cases a
   exact .cons _ _ (ih _ b)
theorem zif {l:OpenLaw} {n:Nat} (hn:l.most=some n) {P:Params} {h:Heap} {args:List WData} {vals:List Value}
  (hpre:l.row.toRowW.claim.pre args=true) (hwl:WellAll P h vals args) :
  ∃ a vs ns,vals=[Value.ref a]∧args=[WData.list (ns.map WData.int)]∧h.get? a=some { cls:=.type "list",data:=.seq vs.toArray }∧IntsAre vs ns∧ns.length≤n:=by
 have hsh:WShape.hasAll [] args [.list .int]=true:=(pre_splitW hpre).1
 have hc:l.pre.holds [] { args:=args }=true:=(pre_splitW hpre).2
 obtain ⟨d,r,rfl,h1,h2⟩:=hasAllW_cons hsh
 obtain rfl:=hasAllW_nil h2
 obtain ⟨xs,rfl,h3⟩:=hasW_list h1
 obtain ⟨ns,rfl⟩:=items_int h3
 have hlen:ns.length≤n:=by
  unfold OpenLaw.pre at hc
  have h4:(WTm.not (.lt (.lit (.int (n:Int))) (.len (.arg 0)))).holds [] { args:=[.list (ns.map .int)] }=true:=by
   have h4:=(holds_andW hc).1
   rw [hn] at h4
   exact h4
  have h5:=condW_of h4 (w_not (w_lt w_lit (w_len_list (w_arg rfl))))
  rw [List.length_map] at h5
  refine Nat.le_of_not_lt fun q=>?_
  have q':(n:Int)<((ns.length:Nat):Int):=by omega
  first
   | (rw [decide_eq_true q'] at h5;exact absurd h5 (by decide))
   | (simp at h5;omega)
 cases hwl with
 | cons w1 w2 =>
  cases w2
  cases w1 with
  | list ho hall=>exact ⟨_,_,ns,rfl,rfl,ho,z8e ns _ hall,hlen⟩
theorem zje (l:OpenLaw) (args:List WData):l.row.toRowW.claim.post args (.bool true) args=true :=
 postW_of (r:=l.row.toRowW) (X:=(true==true))
  (show WShape.has [] (.bool true) .bool=true by first | rfl | decide | simp [WShape.has,WShape.arms,WShape.armsAll])
  (show (WTm.eq .res (.lit (.bool true))).value [] { args:=args,res:=some (.bool true),after:=args }=some (.bool (true==true)) from w_eq_bool (w_res rfl) w_lit) rfl
theorem attach_call {l:OpenLaw} {n:Nat} {q:Program} {loose:List Str} {XP:(Str→Option Value)→Heap→Prop} {YP:World→Heap→Prop} {d:DefRec}
  (hn:l.most=some n) (hdf:d.params.defaults=[])
  (call:∀ (w:World) (s₀ s₁:Shared) (mg mb:Str→Option Value) (fa:Addr) (o:Obj) (pm cd doc:Value) (a:Addr) (vs:List Value) (ns:List Int),
   Ground q loose [] XP w s₀ mg mb s₁.heap→YP w s₁.heap →
   s₁.heap.get? fa=some o→o.data=.func (docDef d.name d.params d.body d.scope pm cd doc)→s₁.heap.CodeRec cd d.name→mg d.name=some (.ref fa) →
   s₁.heap.get? a=some { cls:=.type "list",data:=.seq vs.toArray }→IntsAre vs ns→ns.length≤n→s₁.gens=#[] →
   codeAny (model l.prog w) callerA (.call (.ref fa) ⟨[.ref a],[]⟩) (fun r s'=>r=.ok (.ret (.bool true))∧OldK s₁.heap s'.heap∧s'.os=s₁.os∧AllBare s'.gens) s₁) :
  WalkO q loose XP YP l.row.toRowW d [] (fun f vs=>PySem.call f vs):=by
 intro w s₀ s₁ mg mb G Y fa o pm cd doc dV kV ho hd hcd hD hmg hg args vals as hpre hlay hrd hwl hlo
 obtain rfl:dV=.none:=Dflts.none hD hdf
 obtain rfl:kV=.none:=Dflts.noKw hD
 refine bq fun bG=>?_
 obtain ⟨a,vs,ns,rfl,rfl,hobj,hints,hlen⟩:=zif hn hpre hwl
 refine bG (enter_call (codeAny_mono (call w s₀ s₁ mg mb fa o pm cd doc a vs ns G Y ho (fd_plain hd) hcd hmg hobj hints hlen hg) fun r s' hq=>?_))
 refine bq fun bG=>?_
 obtain ⟨rfl,h2,h3,h4⟩:=hq
 exact bG (⟨.inl ⟨.bool true,.bool true,[],rfl,fun _=>rfl,.bool true,zje l _,fun _=>⟨List.Pairwise.nil,fun _ hm=>(nomatch hm)⟩⟩,h2,h3,h4⟩)
section
variable {prog:Program} {w:World} {A:Around} {E:Value→Shared→Prop} {s:Shared} {K:Frag}
end
end Att
namespace L2
open PySem PySem.Spec PyProof.Rows
theorem z7q:∀ {vs:List Value} {ns:List Int},IntsAre vs ns→Vals (ns.map V.int) vs
 | _,_,.nil=>.nil
 | _,_,.cons n t h=>.cons ⟨t,rfl⟩ (z7q h)
def zw1 (H:Hp):Prop:=∀ b,H b=none∨∃ o xs,H b=some (.frz o (.lst xs))
theorem znf {P:Program} {w:World} {K:PySem.W.Frag} {mg mb:Str→Option Value} {CX:CXT} {k:Nat} {fa a:Addr} {fd:FuncData} {x:Str} {sp:Sp} {s₁:Shared} {vs:List Value} {ns:List Int}
  (KX:K.In s₁.heap) (hns:s₁.heap.Ns mainGlobals mg) (hb:s₁.heap.Ns builtinsNs mb) (hbb:∀ x:Str,x ≠ "__name__" → mb x=bootBuiltins x) (hlim:s₁.heap.NoLimit) (hg:s₁.gens=#[])
  (ha:s₁.heap.get? a=some { cls:=.type "list",data:=.seq vs.toArray }) (hi:IntsAre vs ns) (hl:ns.length≤sizeLine) (hr:Room k callerA)
  (F:∀ base:Heap,K.In base→base.Ns mainGlobals mg→FnOk P w K mg base CX k fa fd [x] sp) (hbind:∀ (s:Shared) (u:Value),BindsTo s fd ⟨[u],[]⟩ [(x,u)])
  (hsp:∀ H:Hp,zw1 H→SqL K H a (ns.map V.int)→sp [.ref a] H (fun v _=>v=.bl true) fun _ _ _=>False)
  (hCX:∀ H e s',CX [] H s₁ (fun _ _ _=>False) e s'→False) :
  codeAny (model P w) callerA (.call (.ref fa) ⟨[.ref a],[]⟩) (fun r s'=>r=.ok (.ret (.bool true))∧OldK s₁.heap s'.heap∧s'.os=s₁.os∧AllBare s'.gens) s₁:=by
 have rv:=z7q hi
 have lenV:=hi.length
 have core:∀ H:Hp,zw1 H→SqL K H a (ns.map V.int)→HOk P w H s₁.heap→(∀ b,H b≠none→b=a)→(H a≠none→K.lookup a=none) →
   codeAny (model P w) callerA (.call (.ref fa) ⟨[.ref a],[]⟩) (fun r s'=>r=.ok (.ret (.bool true))∧OldK s₁.heap s'.heap∧s'.os=s₁.os∧AllBare s'.gens) s₁:=by
  intro H hO hS hok hA hK
  have base_of:∀ {b:Addr} {o:Obj},s₁.heap.get? b=some o→H b=none→(zno s₁.heap H).get? b=some o:=fun e n=>znn e n
  have noA:∀ {b:Addr} {o:Obj} {es:Array DictEntry} {ep:Nat},s₁.heap.get? b=some o→o.data=.dict es ep→H b=none:=fun {b o es ep} e d=>by
   cases q:H b with
   | none=>rfl
   | some u =>
    have e':b=a:=hA b (by rw [q];simp)
    subst e'
    rw [ha] at e;cases e
    have d':Data.seq vs.toArray _=Data.dict es ep:=d
    cases d'
  have nsK:∀ {b:Addr} {m:Str→Option Value},s₁.heap.Ns b m→(zno s₁.heap H).Ns b m:=fun {b m} ⟨o,es,ep,e,d,r⟩=>⟨o,es,ep,base_of e (noA e d),d,r⟩
  have hKb:K.In (zno s₁.heap H):=fun b o e=>base_of (KX b o e) (by
   cases q:H b with
   | none=>rfl
   | some u =>
    have e':b=a:=hA b (by rw [q];simp)
    subst e'
    rw [hK (by rw [q];simp)] at e;cases e)
  have hM:Mod K mg (zno s₁.heap H):=⟨hKb,nsK hns,⟨mb,nsK hb,hbb⟩,let ⟨mc,h1,h2⟩:=hlim;⟨mc,nsK h1,h2⟩⟩
  have e0:Env0 P w K mg (zno s₁.heap H) callerA [] s₁ H:=⟨rfl,hM,fun b o e=>zr2 e,Nat.le_of_eq (zk9 _ _),trivial,fun b hb=>absurd (show b∈([]:List Addr) from hb) (by simp),hok,.of_eq hg⟩
  refine codeAny_mono ((F _ hKb (nsK hns)).run callerA [] s₁ H ⟨[.ref a],[]⟩ [.ref a] [.ref a] _ _ hr e0 (hbind s₁ (.ref a)) (.cons rfl .nil) (hsp H hO hS)) fun r s' h=>?_
  cases r with
  | error e=>exact (hCX H e s' h).elim
  | ok fl =>
   cases fl with
   | next=>exact False.elim h
   | brk=>exact False.elim h
   | cont=>exact False.elim h
   | ret u =>
    obtain ⟨v,H',os,bare,un,hok',r',q⟩:=h
    have q':v=.bl true:=q
    subst q'
    obtain rfl:u=Value.bool true:=r'
    refine ⟨rfl,OldK.of_keep fun b o e=>?_,os,bare⟩
    cases q:H b with
    | none=>exact un.keep b o e q (by intro z;exact absurd (show b∈([]:List Addr) from z) (by simp)) (by simp)
    | some u =>
     rcases hO b with z | ⟨ob,xs,z⟩
     ·rw [q] at z;cases z
     ·have z2:=un.frzs b ob _ z
      obtain ⟨e1,_⟩:=hok b _ z
      obtain ⟨e2,_⟩:=hok' b _ z2
      rw [e] at e1;cases e1
      exact e2
 cases hk:K.lookup a with
 | some o =>
  have e:=KX a o hk
  rw [ha] at e
  cases e
  refine core (fun _=>none) (fun _=>.inl rfl) (.inr ⟨_,vs.toArray,_,hk,rfl,rfl,rfl,by rw [List.size_toArray,lenV];exact hl,by simpa using rv⟩) (fun b u z=>by have z':(none:Option HO)=some u:=z;cases z') (fun b z=>absurd rfl z) fun z=>absurd rfl z
 | none =>
  refine core (fun b=>if b=a then some (.frz { cls:=.type "list",data:=.seq vs.toArray } (.lst (ns.map V.int))) else none) (fun b=>?_) (.inl (.inr ⟨{ cls:=.type "list",data:=.seq vs.toArray },if_pos rfl⟩)) (fun b u z=>?_) (fun b z=>?_) fun _=>hk
  ·by_cases hb:b=a
   ·exact .inr ⟨_,_,if_pos hb⟩
   ·exact .inl (if_neg hb)
  ·by_cases hb:b=a
   ·have z':=(if_pos hb).symm.trans z
    cases z'
    subst hb
    exact ⟨ha,by rw [List.length_map];exact hl,vs,_,rv,ha⟩
   ·have z':=(if_neg hb).symm.trans z
    cases z'
  ·by_cases hb:b=a
   ·exact hb
   ·exact absurd (if_neg hb) z
theorem walk_of {l:PySem.W.OpenLaw} {n k:Nat} {q:Program} {loose:List Str} {XP:(Str→Option Value)→Heap→Prop} {YP:World→Heap→Prop} {d:DefRec} {K:Params→PySem.W.Frag} {CX:World→CXT} {sp:World→Sp} {x:Str}
  (hn:l.most=some n) (hn2:n≤sizeLine) (hdf:d.params.defaults=[]) (hr:Room k callerA)
  (hY:∀ (w:World) (h:Heap),YP w h→(K w.params).In h)
  (F:∀ (w:World) (mg:Str→Option Value) (fa:Addr) (h:Heap),(K w.params).In h→h.Ns mainGlobals mg→mg d.name=some (.ref fa) →
   ∃ fd:FuncData,(∀ (s:Shared) (u:Value),BindsTo s fd ⟨[u],[]⟩ [(x,u)]) ∧
    ∀ base:Heap,(K w.params).In base→base.Ns mainGlobals mg→FnOk l.prog w (K w.params) mg base (CX w) k fa fd [x] (sp w))
  (hsp:∀ (w:World) (H:Hp) (a:Addr) (ns:List Int),ns.length≤n→zw1 H→SqL (K w.params) H a (ns.map V.int)→sp w [.ref a] H (fun v _=>v=.bl true) fun _ _ _=>False)
  (hCX:∀ (w:World) (H:Hp) (s:Shared) (e:Value) (s':Shared),CX w [] H s (fun _ _ _=>False) e s'→False) :
  PySem.W.WalkO q loose XP YP l.row.toRowW d [] (fun f vs=>PySem.call f vs):=by
 refine Att.attach_call hn hdf fun w s₀ s₁ mg mb fa o pm cd doc a vs ns G Y ho hd hcd hmg hobj hints hlen hg=>?_
 have KX:=hY w _ Y
 refine bq fun bG=>?_
 obtain ⟨fd,hb,hF⟩:=F w mg fa _ KX G.T.g hmg
 exact bG (znf KX G.T.g G.T.b G.T.builtins G.T.nolimit hg hobj hints (Nat.le_trans hlen hn2) hr hF hb (fun H hO hS=>hsp w H a ns hlen hO hS) fun H e s'=>hCX w H s₁ e s')
noncomputable def z0k (s:Stmt):Arguments:=match s with
 | .FunctionDef _ a _ _ _ _ _ _ _ _=>a
 | _=>{ posonlyargs:=[],args:=[],vararg:=none,kwonlyargs:=[],kw_defaults:=[],kwarg:=none,defaults:=[] }
noncomputable def z0i (s:Stmt):List Stmt:=match s with
 | .FunctionDef _ _ b _ _ _ _ _ _ _=>b
 | _=>[]
noncomputable def z06 (s:Stmt):Scope:=match s with
 | .FunctionDef _ _ _ _ _ _ sc _ _ _=>sc
 | _=>{ kind:=.function,names:=[],isGenerator:=false,isCoroutine:=false }
noncomputable abbrev CX0:CXT:=fun _ _ _ _ _ _=>False
noncomputable abbrev E0:XK:=fun _ _ _=>False
theorem zwr {X:Cx}:zfz CX0 X E0:=fun _ _ _ _ _ _ _ h=>h.elim
structure Fun (K:PySem.W.Frag) (x qual:Str) (st:Stmt) (f:Addr) (fd:FuncData):Prop where
 ex:∃ (oc:Value) (od:Option Addr) (kV doc pm:Value) (an:Option Addr) (cdv ct:Value) (osl:Array (Option Value)),
  fd=PySem.W.fnOf x qual (z0k st) (z0i st) (z06 st) .none kV doc pm an cdv ct∧K.lookup f=some ⟨oc,od,.func fd,osl⟩∧PySem.W.codeIn K cdv qual=true
 kp:PySem.W.keepIn K (.ref f)=true
section
variable {P:Program} {w:World} {K:PySem.W.Frag} {mg:Str→Option Value} {base:Heap}
theorem Fun.ok {x qual:Str} {st:Stmt} {f:Addr} {fd:FuncData} {N ps:List Str} {k:Nat} {sp:Sp} (F:Fun K x qual st f fd) (S:FnScope N ps (z06 st)) (len:∀ vs H Q E,sp vs H Q E→vs.length=ps.length)
  (hbody:∀ (cdv:Value) (A:Around) (outer:List Env) (s:Shared) (H:Hp) (vs:List V) (Q:VK) (E:XK),Room k (A.deeper (envOfC qual (z06 st) s.heap.objs.size f cdv))→sp vs H Q E →
   ∃ t,PSs (z4a CX0 P w K mg base N qual (z06 st) f cdv A outer s H E).nox (z0i st) t∧t { nx:=fun _ H'=>Q .non H',rt:=Q } (zak N vs) H):FnOk P w K mg base CX0 (k+1) f fd ps sp:=by
 refine bq fun bG=>?_
 obtain ⟨oc,od,kV,doc,pm,an,cdv,ct,osl,rfl,lk,hcd⟩:=F.ex
 refine bG (zva lk hcd S len fun A outer s H vs Q E hr hsp=>?_)
 refine bq fun bG=>?_
 obtain ⟨t,h,q⟩:=hbody cdv A outer s H vs Q E hr hsp
 exact bG (⟨t,h.nox,q⟩)
theorem Fun.binds {x qual:Str} {st:Stmt} {f:Addr} {fd:FuncData} {ps:List Str} (F:Fun K x qual st f fd)
  (h:∀ (kV doc pm:Value) (an:Option Addr) (cdv ct:Value) (us:List Value),us.length=ps.length→bindArgs (PySem.W.fnOf x qual (z0k st) (z0i st) (z06 st) .none kV doc pm an cdv ct) ⟨us,[]⟩=pure (ps.zip us)):Binds K fd ps []:=by
 refine bq fun bG=>?_
 obtain ⟨oc,od,kV,doc,pm,an,cdv,ct,osl,rfl,lk,hcd⟩:=F.ex
 exact bG (.all (h kV doc pm an cdv ct))
theorem z13 {x qual:Str} {st:Stmt} {f:Addr} {oc:Value} {od an:Option Addr} {osl:Array (Option Value)} {kV doc pm cdv ct:Value} (l:K.lookup f=some ⟨oc,od,.func (PySem.W.fnOf x qual (z0k st) (z0i st) (z06 st) .none kV doc pm an cdv ct),osl⟩)
  (c:PySem.W.codeIn K cdv qual=true) (k:PySem.W.keepIn K (.ref f)=true):Fun K x qual st f (PySem.W.fnOf x qual (z0k st) (z0i st) (z06 st) .none kV doc pm an cdv ct):=⟨⟨oc,od,kV,doc,pm,an,cdv,ct,osl,rfl,l,c⟩,k⟩
end
section
variable {X:Cx}
theorem pv (i:Nat) {x:Str} {pos:Pos} (hN:X.N[i]?=some x:=by rfl) (hv:Vis X.env.scope x:=by first | exact Or.inl rfl | exact Or.inr (Or.inl rfl) | exact Or.inr (Or.inr rfl)) (hd:(x==("__debug__" : Str))=false:=by decide)
  (hcd:(x==("__classdict__" : Str))=false:=by decide):PE X (.Name x pos) (zxl i):=zow hN hv hd hcd
end
theorem zx3 {A B:Prop} (h:B):if false=true then A else B:=by
 rw [if_neg Bool.false_ne_true]
 exact h
theorem zx2 {A B:Prop} (h:A):if true=true then A else B:=by
 rw [if_pos rfl]
 exact h
theorem zpa {c A B:Prop} [Decidable c] (h1:c→A) (h2:¬ c→B):if c then A else B:=by
 by_cases h:c
 ·rw [if_pos h]
  exact h1 h
 ·rw [if_neg h]
  exact h2 h
section
variable {X:Cx}
end
section
variable {κ:Type} [DecidableEq κ]
end
end L2
namespace Tim
open PySem PyProof.Rows
section
variable {prog:Program} {w:World} {A:Around} {E:Value→Shared→Prop} {s:Shared} {n:Nat} {pe:Array (Nat×Nat×Nat)} {st:SortSt}
end
section
variable {prog:Program} {w:World} {A:Around} {E:Value→Shared→Prop} {s:Shared} {st:SortSt}
end
section
variable {prog:Program} {w:World} {A:Around} {E:Value→Shared→Prop} {s:Shared} {n:Nat} {pe:Array (Nat×Nat×Nat)} {st:SortSt}
end
section
variable {prog:Program} {w:World} {A:Around} {E:Value→Shared→Prop} {s:Shared} {n:Nat} {pe:Array (Nat×Nat×Nat)} {st:SortSt}
end
section
variable {prog:Program} {w:World} {A:Around} {E:Value→Shared→Prop} {s:Shared} {n:Nat} {pe:Array (Nat×Nat×Nat)} {st:SortSt}
end
section
variable {prog:Program} {w:World} {A:Around} {E:Value→Shared→Prop} {s:Shared} {n:Nat} {pe:Array (Nat×Nat×Nat)} {st:SortSt}
end
section
variable {prog:Program} {w:World} {A:Around} {E:Value→Shared→Prop} {s:Shared}
end
end Tim
namespace L2
open PySem PySem.Spec PyProof.Rows
noncomputable def z0c (X:Cx) (N':List Str) (scope:Scope) (cl:List (Str×Addr)) (C:Addr) (s₀:Shared) (H₀:Hp) (ex:List Addr):Cx :=
 { X with N:=N',s₀:=s₀,H₀:=H₀,env:=compEnvC scope cl C X.env,outer:=X.stack,ex:=ex,fn:=fun x=>scope.names.lookup x==some NameKind.cell,pn:=[] }
theorem z71 {env:Env}:∀ (names:List (Str×NameKind)) (acc:List (Str×Addr)),(∀ y∈names,y.2=.free→∃ c,env.cells.lookup y.1=some c) →
  (∀ y c,acc.lookup y=some c→env.cells.lookup y=some c) →
  ∃ cl,(forIn names acc fun x r=>if (x.2==NameKind.free)=true then do let c ← cellOf env x.1;pure (ForInStep.yield ((x.1,c)::r)) else pure (ForInStep.yield r):Sem (List (Str×Addr)))=pure cl ∧
   (∀ y c,cl.lookup y=some c→env.cells.lookup y=some c)∧(∀ y,(y,NameKind.free)∈names→∃ c,cl.lookup y=some c)∧∀ y c,acc.lookup y=some c→∃ c',cl.lookup y=some c'
 | [],acc,_,ha=>⟨acc,by simp,ha,fun _ h=>by simp at h,fun y c h=>⟨c,h⟩⟩
 | (n,k)::r,acc,h,ha=>by
  by_cases hk:k=.free
  ·subst hk
   obtain ⟨c,hc⟩:=h (n,.free) List.mem_cons_self rfl
   have e:cellOf env n=pure c:=by unfold cellOf;rw [hc]
   obtain ⟨cl,e1,h1,h2,h3⟩:=z71 r ((n,c)::acc) (fun y hy=>h y (List.mem_cons_of_mem _ hy)) (fun y d hd=>by
    rw [List.lookup_cons] at hd
    split at hd
    ·rename_i hb
     have:y=n:=by simpa using hb
     subst this
     cases hd
     exact hc
    ·exact ha y d hd)
   refine ⟨cl,?_,h1,fun y hy=>?_,fun y d hd=>?_⟩
   ·rw [List.forIn_cons,e]
    simpa using e1
   ·rcases List.mem_cons.mp hy with z | z
    ·cases z
     exact h3 n c (by simp [List.lookup_cons])
    ·exact h2 y z
   ·by_cases hy:y=n
    ·subst hy
     exact h3 y c (by simp [List.lookup_cons])
    ·have hb:(y==n)=false:=by simpa using hy
     exact h3 y d (by simp only [List.lookup_cons,hb];exact hd)
  ·have hb:(k==NameKind.free)=false:=by simpa using hk
   refine bq fun bG=>?_
   obtain ⟨cl,e1,h1,h2,h3⟩:=z71 r acc (fun y hy=>h y (List.mem_cons_of_mem _ hy)) ha
   refine bG (⟨cl,?_,h1,fun y hy=>?_,h3⟩)
   ·rw [List.forIn_cons]
    simpa [hb] using e1
   ·rcases List.mem_cons.mp hy with z | z
    ·cases z
     exact absurd rfl hk
    ·exact h2 y z
theorem z2g {scope:Scope} {env:Env} (h:∀ y∈scope.names,y.2=.free→∃ c,env.cells.lookup y.1=some c) :
  ∃ cl,closureFor scope env=pure cl∧(∀ y c,cl.lookup y=some c→env.cells.lookup y=some c)∧∀ y,(y,NameKind.free)∈scope.names→∃ c,cl.lookup y=some c:=by
 refine bq fun bG=>?_
 obtain ⟨cl,e,h1,h2,_⟩:=z71 (env:=env) scope.names [] h (fun _ _ z=>by simp at z)
 refine bG (⟨cl,?_,h1,h2⟩)
 unfold closureFor
 show ((forIn scope.names [] fun x r=>if (x.2==NameKind.free)=true then do let c ← cellOf env x.1;pure (ForInStep.yield ((x.1,c)::r)) else pure (ForInStep.yield r):Sem (List (Str×Addr))) >>= fun cs=>pure cs)=pure cl
 rw [e]
 rfl
section
variable {prog:Program} {w:World} {A:Around} {R:Result→Shared→Prop} {s:Shared}
theorem zcr {elt target iter:Expr} {ifs:List Expr} {scope:Scope} {pos:Pos} {it acc:Value} {env:Env} (I:Nat→Shared→Prop)
  (turn:∀ n s,I n s→wpAny (model prog w) A (pyNext it) (fun r s₁=>match r with
   | none=>R (.ok .next) s₁
   | some v=>wpAny (model prog w) A (letOwnedTupleGo target it v) (fun _ s₁'=>wpAny (model prog w) A (assign target env v) (fun _ s₂ =>
     wpAny (model prog w) A (forIn ifs true fun c r=>if r=true then do let ok ← isTrue c env (eval c env);pure (ForInStep.yield ok) else pure (ForInStep.yield r)) (fun ok s₃ =>
      if ok=true then wpAny (model prog w) A (eval elt env) (fun x s₄ =>
       wpAny (model prog w) A (call (.builtin "list.append") [acc,x]) (fun _ s₅=>∃ m,m<n∧I m s₅) (fun _ _=>False) s₄) (fun _ _=>False) s₃
      else ∃ m,m<n∧I m s₃) (fun _ _=>False) s₂) (fun _ _=>False) s₁') (fun _ _=>False) s₁) (fun _ _=>False) s)
  (n:Nat) (h:I n s):codeAny (model prog w) A (.compLoop (.ListComp elt [⟨target,iter,ifs,0⟩] scope pos) 0 it acc env) R s:=by
 refine codeAny_loop rfl I (fun n s hI=>?_) n h
 show wpAny _ A ((compTurn (.ListComp elt [⟨target,iter,ifs,0⟩] scope pos) 0 it acc env).onRaise (fun x=>do noteFrame x env;theTreesLotGoes x)) _ _ s
 refine wpAny_noted ?_
 rw [compTurn_list]
 refine wpAny_mono (E:=fun _ _=>False) ?_ (fun _ _ x=>x) fun _ _ x=>x.elim
 refine wpAny_bind (wpAny_standAt (wpAny_bind (wpAny_mono (turn n s hI) (fun r s₁ h₁=>?_) fun _ _ h'=>h')))
 cases r with
 | none=>exact wpAny_pure h₁
 | some v =>
  refine wpAny_bind (wpAny_mono h₁ (fun _ s₁' h₁'=>?_) fun _ _ h'=>h')
  refine wpAny_bind (wpAny_mono h₁' (fun _ s₂ h₂=>wpAny_bind (wpAny_mono h₂ (fun ok s₃ h₃=>?_) fun _ _ h'=>h')) fun _ _ h'=>h')
  cases ok with
  | false=>exact wpAny_pure ⟨rfl,h₃⟩
  | true =>
   exact wpAny_bind (wpAny_bind (wpAny_mono h₃ (fun x s₄ h₄=>wpAny_bind (wpAny_mono h₄ (fun _ s₅ h₅=>wpAny_pure (wpAny_pure ⟨rfl,h₅⟩)) fun _ _ h'=>h')) fun _ _ h'=>h'))
end
theorem z5i {env:Env} {x:Str}:∀ {names:List (Str×NameKind)},names.lookup x=some .free →
  (names.map fun (n,k)=>if (k==NameKind.free&&env.scope.kind==.function&&env.kindOf n==some .cell) then (n,NameKind.cell) else (n,k)).lookup x=some .free ∨
  (names.map fun (n,k)=>if (k==NameKind.free&&env.scope.kind==.function&&env.kindOf n==some .cell) then (n,NameKind.cell) else (n,k)).lookup x=some .cell
 | [],h=>by simp at h
 | (n,k)::r,h=>by
  have ih:=@z5i env x r
  show List.lookup x ((if (k==NameKind.free&&env.scope.kind==.function&&env.kindOf n==some .cell)=true then (n,NameKind.cell) else (n,k))::_)=_∨List.lookup x ((if (k==NameKind.free&&env.scope.kind==.function&&env.kindOf n==some .cell)=true then (n,NameKind.cell) else (n,k))::_)=_
  cases hx:x==n with
  | true =>
   simp only [List.lookup_cons,hx] at h
   cases h
   by_cases hc:(NameKind.free==NameKind.free&&env.scope.kind==.function&&env.kindOf n==some .cell)=true
   ·rw [if_pos hc];exact .inr (by simp [List.lookup_cons,hx])
   ·rw [if_neg hc];exact .inl (by simp [List.lookup_cons,hx])
  | false =>
   simp only [List.lookup_cons,hx] at h
   by_cases hc:(k==NameKind.free&&env.scope.kind==.function&&env.kindOf n==some .cell)=true
   ·rw [if_pos hc];simp only [List.lookup_cons,hx];exact ih h
   ·rw [if_neg hc];simp only [List.lookup_cons,hx];exact ih h
theorem z73 {env:Env} {x:Str}:∀ {names:List (Str×NameKind)},
  ((names.map fun (n,k)=>if (k==NameKind.free&&env.scope.kind==.function&&env.kindOf n==some .cell) then (n,NameKind.cell) else (n,k)).lookup x=some .cell ∨
   (names.map fun (n,k)=>if (k==NameKind.free&&env.scope.kind==.function&&env.kindOf n==some .cell) then (n,NameKind.cell) else (n,k)).lookup x=some .free)→names.lookup x=some .free∨names.lookup x=some .cell
 | [],h=>by simp at h
 | (n,k)::r,h=>by
  have ih:=@z73 env x r
  have h:List.lookup x ((if (k==NameKind.free&&env.scope.kind==.function&&env.kindOf n==some .cell)=true then (n,NameKind.cell) else (n,k))::(r.map fun (n,k)=>if (k==NameKind.free&&env.scope.kind==.function&&env.kindOf n==some .cell) then (n,NameKind.cell) else (n,k)))=some .cell ∨
   List.lookup x ((if (k==NameKind.free&&env.scope.kind==.function&&env.kindOf n==some .cell)=true then (n,NameKind.cell) else (n,k))::(r.map fun (n,k)=>if (k==NameKind.free&&env.scope.kind==.function&&env.kindOf n==some .cell) then (n,NameKind.cell) else (n,k)))=some .free:=h
  cases hx:x==n with
  | true =>
   by_cases hc:(k==NameKind.free&&env.scope.kind==.function&&env.kindOf n==some .cell)=true
   ·have:k=.free:=by
     have z:=(Bool.and_eq_true_iff.mp (Bool.and_eq_true_iff.mp hc).1).1
     simpa using z
    subst this
    exact .inl (by simp [List.lookup_cons,hx])
   ·rw [if_neg hc] at h
    simp only [List.lookup_cons,hx] at h ⊢
    exact h.symm
  | false =>
   have:∀ p:NameKind,List.lookup x ((if (k==NameKind.free&&env.scope.kind==.function&&env.kindOf n==some .cell)=true then (n,NameKind.cell) else (n,k))::(r.map fun (n,k)=>if (k==NameKind.free&&env.scope.kind==.function&&env.kindOf n==some .cell) then (n,NameKind.cell) else (n,k)))=some p↔(r.map fun (n,k)=>if (k==NameKind.free&&env.scope.kind==.function&&env.kindOf n==some .cell) then (n,NameKind.cell) else (n,k)).lookup x=some p:=fun p=>by
    by_cases hc:(k==NameKind.free&&env.scope.kind==.function&&env.kindOf n==some .cell)=true
    ·rw [if_pos hc];simp only [List.lookup_cons,hx]
    ·rw [if_neg hc];simp only [List.lookup_cons,hx]
   rw [this .cell,this .free] at h
   have:=ih h
   simp only [List.lookup_cons,hx]
   exact this
theorem z12:∀ (names:List (Str×NameKind)) (n:Nat) (acc:List (Str×Addr)),cellsFrom n names acc=cellsFrom n names []++acc
 | [],_,_=>rfl
 | (name,kind)::r,n,acc=>by
  unfold cellsFrom
  split
  ·rw [z12 r (n+1) ((name,n)::acc),z12 r (n+1) [(name,n)],List.append_assoc]
   rfl
  ·exact z12 r n acc
theorem z8v {x:Str} {c:Addr}:∀ (names:List (Str×NameKind)) (n:Nat) (acc:List (Str×Addr)),(x,c)∈cellsFrom n names acc→(x,NameKind.cell)∈names∨(x,c)∈acc
 | [],_,_,h=>.inr h
 | (name,kind)::r,n,acc,h=>by
  unfold cellsFrom at h
  split at h
  ·rename_i hk
   have hk':kind=.cell:=by simpa using hk
   rcases z8v r (n+1) _ h with z | z
   ·exact .inl (List.mem_cons_of_mem _ z)
   ·rcases List.mem_cons.mp z with z | z
    ·cases z;rw [hk'];exact .inl List.mem_cons_self
    ·exact .inr z
  ·rcases z8v r n acc h with z | z
   ·exact .inl (List.mem_cons_of_mem _ z)
   ·exact .inr z
structure CompScope (X:Cx) (N' own:List Str) (cap:List (Str×Nat)) (scope:Scope):Prop where
 kind:scope.kind=.function
 own1:∀ y∈scope.names,y.2=.cell→scope.names.lookup y.1=some .cell
 free1:∀ y∈scope.names,y.2=.free→scope.names.lookup y.1=some .free
 names:∀ y∈scope.names,y.2=.local→scope.names.lookup y.1=some .local
 free:∀ y∈scope.names,y.2=.free→X.env.kindOf y.1=some .cell∨X.env.kindOf y.1=some .free
 eq:N'=own++cap.map (·.1)
 cap:∀ p∈cap,X.N[p.2]?=some p.1∧scope.names.lookup p.1=some .free∧(X.env.kindOf p.1=some .cell∨X.env.kindOf p.1=some .free)
noncomputable def z3t (own:List Str) (cap:List (Str×Nat)) (σ:St):St:=own.map (fun _=>none)++cap.map fun p=>(σ[p.2]?).join
section
variable {X:Cx} {pins:List (Addr×Obj)} {σ:St} {H:Hp} {s:Shared} {N' own:List Str} {cap:List (Str×Nat)} {scope:Scope} {cl:List (Str×Addr)} {fp:List Addr}
structure CellsAre (X:Cx) (scope:Scope) (C:Addr) (cl cs:List (Str×Addr)):Prop where
 old:∀ y c,cs.lookup y=some c→(cl.lookup y=some c∧scope.names.lookup y≠some .cell)∨(C<c∧scope.names.lookup y=some .cell)
 free:∀ y c,cl.lookup y=some c→scope.names.lookup y≠some .cell→cs.lookup y=some c
 has:∀ y,scope.names.lookup y=some .cell→∃ c,cs.lookup y=some c
 inj:∀ x y c,C<c→cs.lookup x=some c→cs.lookup y=some c→x=y
theorem z1v {α:Type} {x:Str}:∀ {l r:List (Str×α)},(l++r).lookup x=(l.lookup x).or (r.lookup x)
 | [],r=>by simp
 | (k,v)::l,r=>by
  have ih:=@z1v α x l r
  rw [List.cons_append,List.lookup_cons,List.lookup_cons]
  cases x==k with
  | true=>rfl
  | false=>exact ih
theorem z8w {h:Heap} {C:Addr} (hC:h.objs.size=C+1) (S:CompScope X N' own cap scope) (hcl:∀ y c,cl.lookup y=some c→¬ C<c):CellsAre X scope C cl (cellsFrom (C+1) scope.names cl):=by
 have ok:=cellsFrom_ok scope.names h (C+1) [] ⟨fun _ _ hm=>(nomatch hm),List.Pairwise.nil⟩ (by rw [hC];exact Nat.le_refl _)
 rw [hC] at ok
 have own:∀ y c,(cellsFrom (C+1) scope.names []).lookup y=some c→C<c∧scope.names.lookup y=some .cell:=fun y c e=>by
  have m:=PySem.mem_of_lookup e
  refine ⟨(ok.empty y c m).2,?_⟩
  rcases z8v _ _ _ m with z | z
  ·exact S.own1 _ z rfl
  ·simp at z
 have no:∀ y,scope.names.lookup y≠some .cell→(cellsFrom (C+1) scope.names []).lookup y=none:=fun y hy=>by
  cases e:(cellsFrom (C+1) scope.names []).lookup y with
  | none=>rfl
  | some c=>exact absurd (own y c e).2 hy
 have has:∀ y,scope.names.lookup y=some .cell→∃ c,(cellsFrom (C+1) scope.names []).lookup y=some c:=fun y hy=>Option.isSome_iff_exists.mp (PySem.W.cellsFrom_some scope.names (C+1) [] (.inl hy))
 refine ⟨fun y c e=>?_,fun y c e hy=>?_,fun y hy=>?_,fun x y c hc e1 e2=>?_⟩
 ·rw [z12,z1v] at e
  cases q:(cellsFrom (C+1) scope.names []).lookup y with
  | none =>
   rw [q] at e
   refine .inl ⟨e,fun z=>?_⟩
   obtain ⟨c',e'⟩:=has y z
   rw [q] at e';cases e'
  | some c' =>
   rw [q] at e
   have:c'=c:=Option.some.inj e
   subst this
   exact .inr (own y c' q)
 ·rw [z12,z1v,no y hy]
  exact e
 ·obtain ⟨c,e⟩:=has y hy
  exact ⟨c,by rw [z12,z1v,e];rfl⟩
 ·have zwm:∀ z,(cellsFrom (C+1) scope.names cl).lookup z=some c→(z,c)∈cellsFrom (C+1) scope.names []:=fun z e=>by
   rw [z12,z1v] at e
   cases q:(cellsFrom (C+1) scope.names []).lookup z with
   | none=>rw [q] at e;exact absurd hc (hcl z c e)
   | some c' =>
    rw [q] at e
    have:c'=c:=Option.some.inj e
    subst this
    exact PySem.mem_of_lookup q
  exact PySem.name_of_addr ok.apart (zwm x e1) (zwm y e2)
theorem zro (I:Inv X pins σ H s) (S:CompScope X N' own cap scope) {cs:List (Str×Addr)} (A:CellsAre X scope s.heap.objs.size cl cs) (c1:∀ y c,cl.lookup y=some c→X.env.cells.lookup y=some c) (c2:∀ y,(y,NameKind.free)∈scope.names→∃ c,cl.lookup y=some c)
  (hf:∀ b∈fp,z72 X pins H b) (hlt:∀ b∈fp,b<s.heap.objs.size):(z0c X N' scope cs s.heap.objs.size s H fp).Ok where
 mod:=I.ok.mod
 kind:=S.kind
 glob:=I.ok.glob
 blt:=I.ok.blt
 above:=Nat.le_refl _
 inj:=fun x y c h1 h2=>by
  rcases A.old x c h1 with ⟨a1,_⟩ | ⟨a1,_⟩
  ·rcases A.old y c h2 with ⟨b1,_⟩ | ⟨b1,_⟩
   ·exact I.ok.inj x y c (c1 x c a1) (c1 y c b1)
   ·obtain ⟨v,o,ho,_⟩:=I.cell x c (c1 x c a1)
    exact absurd (Nat.lt_trans b1 (Heap.lt_size ho)) (Nat.lt_irrefl _)
  ·exact A.inj x y c a1 h1 h2
 has:=fun x h=>by
  rcases z73 h with z | z
  ·obtain ⟨c,e⟩:=c2 x (PySem.mem_of_lookup z)
   exact ⟨c,A.free x c e (by rw [z];simp)⟩
  ·exact A.has x z
 cab:=fun x c h e=>by
  have h':scope.names.lookup x=some .cell:=by
   have:(scope.names.lookup x==some NameKind.cell)=true:=h
   simpa using this
  rcases A.old x c e with ⟨_,z⟩ | ⟨z,_⟩
  ·exact absurd h' z
  ·exact Nat.le_of_lt z
 hd:=I.ok.hd
 frames:=I.ok.frames
 stk:=.inl rfl
 exf:=fun b hb=>⟨Nat.ne_of_lt (hlt b hb),fun x c h=>by
  rcases A.old x c h with ⟨z,_⟩ | ⟨z,_⟩
  ·exact (hf b hb).2.2.2.2.1 x c (c1 x c z)
  ·exact fun e=>absurd (Nat.lt_trans (e ▸ z) (hlt b hb)) (Nat.lt_irrefl _)⟩
 bs:=I.bs
 bsz:=Nat.le_trans I.ok.bsz I.sz
 noex:=fun b o e hb=>by
  rcases (hf b hb).2.2.2.1 with z | z
  ·exact I.ok.noex b o e z
  ·exact absurd (Nat.lt_of_lt_of_le (Heap.lt_size e) (Nat.le_trans I.ok.bsz z)) (Nat.lt_irrefl _)
 exfs:=fun b hb z=>by
  rcases List.mem_cons.mp (I.stkSub b z) with q | q
  ·exact (hf b hb).2.1 q
  ·exact (hf b hb).2.2.1 q
 funs:=I.stack
 frf:=I.stkFree
theorem comp_inv {h':Heap} {t':Nat} {cs:List (Str×Addr)} (I:Inv X pins σ H s) (S:CompScope X N' own cap scope) (A:CellsAre X scope s.heap.objs.size cl cs) (hA:∀ y c,cs.lookup y=some c→s.heap.objs.size<c→h'.IsCell c none)
  (c1:∀ y c,cl.lookup y=some c→X.env.cells.lookup y=some c) (c2:∀ y,(y,NameKind.free)∈scope.names→∃ c,cl.lookup y=some c)
  (hf:∀ b∈fp,z72 X pins H b) (hlt:∀ b∈fp,b<s.heap.objs.size) (hk:∀ b o,s.heap.get? b=some o→h'.get? b=some o) {m:Str→Option Value} (hn:h'.Ns s.heap.objs.size m) :
  Inv (z0c X N' scope cs s.heap.objs.size s H fp) [] (z3t own cap σ) H { s with heap:=h',toks:=t' }:=by
 refine ⟨zro I S A c1 c2 hf hlt,rfl,I.bare,Un.kept hk,⟨m,hn,fun i x v h1 h2 h3=>?_⟩,fun x c e=>?_,I.hok.fresh (Nat.le_refl _),fun x c e=>?_,fun p hp=>absurd hp (by show p∉([]++[]:List (Addr×Obj));simp),?_,?_⟩
 ·have hi:own.length≤i:=by
   by_cases hi:own.length≤i
   ·exact hi
   ·unfold z3t at h2
    rw [List.getElem?_append_left (by rw [List.length_map];omega),List.getElem?_map] at h2
    cases e:own[i]? with
    | none=>rw [e] at h2;cases h2
    | some a=>rw [e] at h2;cases h2
  have h1':(own++cap.map (·.1))[i]?=some x:=by rw [← S.eq];exact h1
  rw [List.getElem?_append_right hi,List.getElem?_map] at h1'
  unfold z3t at h2
  rw [List.getElem?_append_right (by rw [List.length_map];exact hi),List.length_map,List.getElem?_map] at h2
  cases e:cap[i - own.length]? with
  | none=>rw [e] at h2;cases h2
  | some p =>
   rw [e] at h1' h2
   have ex:p.1=x:=Option.some.inj h1'
   have ev:(σ[p.2]?).join=some v:=Option.some.inj h2
   have ev':σ[p.2]?=some (some v):=by
    cases q:σ[p.2]? with
    | none=>rw [q] at ev;cases ev
    | some z=>rw [q] at ev;exact congrArg some ev
   refine bq fun bG=>?_
   obtain ⟨k1,k2,k3⟩:=S.cap p (List.mem_of_getElem? e)
   subst ex
   obtain ⟨m0,hn0,hl⟩:=I.loc
   obtain ⟨u,ru,lk⟩:=hl p.2 p.1 v k1 ev' (by rcases k3 with z | z;exact .inr (.inl z);exact .inr (.inr z))
   refine bG (⟨u,ru,?_⟩)
   rcases lk with ⟨z,_⟩ | ⟨_,c,hc,hcell⟩
   ·rcases k3 with q | q <;> (rw [z] at q;cases q)
   ·refine .inr ⟨?_,c,?_,?_⟩
    ·rcases z5i (env:=X.env) k2 with q | q
     ·exact .inr q
     ·exact .inl q
    ·obtain ⟨c',e'⟩:=c2 p.1 (PySem.mem_of_lookup k2)
     have:=c1 _ _ e'
     rw [hc] at this
     cases this
     exact A.free _ _ e' (by rw [k2];simp)
    ·obtain ⟨o,ho,hd⟩:=hcell
     exact ⟨o,hk _ _ ho,hd⟩
 ·rcases A.old x c e with ⟨z,_⟩ | ⟨z,_⟩
  ·obtain ⟨v,o,ho,hd⟩:=I.cell x c (c1 x c z)
   exact ⟨v,o,hk _ _ ho,hd⟩
  ·exact ⟨none,hA x c e z⟩
 ·rcases A.old x c e with ⟨z,_⟩ | ⟨z,_⟩
  ·exact I.freeC x c (c1 x c z)
  ·exact I.hok.fresh (Nat.le_of_lt z)
 ·exact I.hok.kept hk
 ·show (z3t own cap σ).length=N'.length
  rw [S.eq]
  unfold z3t
  simp
end
noncomputable def PIf (X:Cx) (ifs:List Expr) (t:TT):Prop :=
 ∀ (pins:List (Addr×Obj)) (s:Shared) (σ:St) (H:Hp) (Q:Bool→Hp→Prop),Inv X pins σ H s→t σ H Q →
  wpAny (model X.prog X.w) X.A (forIn ifs true fun c r=>if r=true then do let ok ← isTrue c X.env (eval c X.env);pure (ForInStep.yield ok) else pure (ForInStep.yield r)) (TP X pins σ Q) X.xe s
def zy6:TT:=fun _ H Q=>Q true H
theorem zql {X:Cx}:PIf X [] zy6:=fun _ _ _ H _ I h=>wpAny_tests_nil ⟨H,I,h⟩
theorem zqk {X:Cx} {c:Expr} {t:TT} (h:PT X c t):PIf X [c] t:=fun pins s σ H Q I hw=>wpAny_tests_one (h pins s σ H Q I hw)
theorem z3z {M:Model} {A:Around} {E:Value→Shared→Prop} {s:Shared} {scope:Scope} {globals:Addr} {cl:List (Str×Addr)} {qual:Str} {env:Env} {Q:Env→Shared→Prop}
  (hQ:∀ h',h'.Ns s.heap.objs.size (fun _=>none)→(∀ b o,s.heap.get? b=some o→h'.get? b=some o)→(∀ n c,(n,c)∈cellsFrom (s.heap.objs.size+1) scope.names []→h'.IsCell c none) →
   Q (newEnv scope s.heap.objs.size globals (cellsFrom (s.heap.objs.size+1) scope.names cl) qual none .none (some env) builtinsNs) { s with heap:=h' }) :
  wpAny M A (newFunctionEnv scope globals cl [] qual none .none (some env)) Q E s:=by
 simp only [newFunctionEnv,Option.isSome_some,if_true]
 refine wpAny_bind (wpAny_alloc ?_)
 refine wpAny_bind (wpAny_layCells _ (fun name kind cells=>by cases hkc:kind==NameKind.cell <;> simp [hkc]) _ _ _ _ ?_)
 have ok:=cellsFrom_ok scope.names (s.heap.push { cls:=.type "dict",data:=.dict #[] }) (s.heap.objs.size+1) [] ⟨fun _ _ hm=>(nomatch hm),List.Pairwise.nil⟩ (by rw [Heap.size_push];exact Nat.le_refl _)
 rw [Heap.size_push] at ok
 rw [show ({ s with heap:=s.heap.push { cls:=.type "dict",data:=.dict #[] } }:Shared).heap.objs.size=s.heap.objs.size+1 from Heap.size_push ..]
 rw [List.forIn_nil]
 refine wpAny_bind (wpAny_pure (wpAny_pure ?_))
 exact hQ _ ((Heap.Ns.new s.heap (.type "dict")).keeps (pushCells_keeps _ _)) (fun b o e=>pushCells_keeps _ _ b o (Heap.get?_push_of_some _ e)) fun n c hm=>(ok.empty n c hm).1
noncomputable def z3v (J:It) (g:TG) (tc:TT) (te:TE) (D:Addr) (σ0:St) (H0:Hp) (Z:Hp→Prop):Prop :=
 ∃ W:Nat→Nat→St→Hp→Prop,(∃ m,W 0 m σ0 (upd H0 D (.lst [])))∧∀ i m σ H,W i m σ H →
  (J.stop i H∧Z H)∨(J.go i H∧∃ N:St→Hp→Prop,(∀ σ' H',N σ' H'→∃ m',m'<m∧W (i+1) m' σ' H')∧∀ x H',J.yld i H x H'→g x σ H' fun σ2 H2=>tc σ2 H2 fun b H3 =>
   if b=true then te σ2 H3 fun v H4=>∃ ys,H4 D=some (.lst ys)∧ys.length<sizeLine∧N σ2 (upd H4 D (.lst (ys++[v]))) else N σ2 H3)
section
variable {X:Cx} {pins:List (Addr×Obj)} {σ:St} {N' own:List Str} {cap:List (Str×Nat)} {scope:Scope} {tg iter elt:Expr} {ifs:List Expr} {pos:Pos} {g:TG} {tc:TT} {te:TE}
theorem zky {Y:Cx} {s:Shared} {σ0:St} {H2:Hp} {it D:Addr} {fp:List Addr} {tn:Nat→Heap→Prop} {J:It} {Z:Hp→Prop} {R:Result→Shared→Prop}
  (hx:∀ e s,Y.xe e s→False) (hc:Y.calm=true) (hg:PG Y tg g) (ht:PIf Y ifs tc) (he:PE Y elt te)
  (T:Turn Y.prog Y.w Y.K tg J fp it tn) (J0:Inv Y [] σ0 (upd H2 D (.lst [])) s) (st3:tn 0 s.heap) (f3:∀ b∈fp,upd H2 D (.lst []) b=none)
  (stat:∀ {H':Hp},(∀ b∈fp,H' b=none)→∀ b∈fp,z72 Y [] H' b) (h:z3v J g tc te D σ0 H2 Z)
  (hR:∀ σ4 H4 s5,Inv Y [] σ4 H4 s5→Z H4→R (.ok .next) s5) :
  codeAny (model Y.prog Y.w) Y.A (.compLoop (.ListComp elt [⟨tg,iter,ifs,0⟩] scope pos) 0 (.ref it) (.ref D) Y.env) R s:=by
 obtain ⟨W,⟨m0,w0⟩,turn⟩:=h
 have noX:∀ {α:Type} {t:Sem α} {Q:α→Shared→Prop} {s:Shared},wpAny (model Y.prog Y.w) Y.A t Q Y.xe s→wpAny (model Y.prog Y.w) Y.A t Q (fun _ _=>False) s:=fun q=>wpAny_mono q (fun _ _ z=>z) fun e s z=>hx e s z
 obtain ⟨P,hP⟩:∃ P:Nat→Shared→Prop,∀ n s',P n s'↔∃ i σ' H',Inv Y [] σ' H' s'∧tn i s'.heap∧(∀ b∈fp,H' b=none)∧W i n σ' H':=⟨_,fun _ _=>Iff.rfl⟩
 refine zcr P ?_ m0 ((hP _ _).2 ⟨0,_,_,J0,st3,f3,w0⟩)
 rintro n s4 h4
 obtain ⟨i,σ4,H4,I4,st4,fr4,w4⟩:=(hP _ _).1 h4
 rcases turn i n σ4 H4 w4 with ⟨stop,qz⟩ | ⟨go,N,hN,step⟩
 ·refine wpAny_mono (T.done Y rfl rfl rfl hc i [] s4 σ4 H4 (fun _ _=>False) I4 (stat fr4) st4 stop) (fun r s5 ⟨hr,I5⟩=>?_) fun _ _ z=>z
  subst hr
  exact hR σ4 H4 s5 I5 qz
 ·refine wpAny_mono (T.item Y rfl rfl rfl hc i [] s4 σ4 H4 (fun _ _=>False) I4 (stat fr4) st4 go) (fun r s5 ⟨u,hr,h5⟩=>?_) fun _ _ z=>z
  subst hr
  refine wpAny_mono h5 (fun _ s6 hm=>?_) fun _ _ z=>z
  obtain ⟨x,H6,I6,r6,y6,st6,fr6⟩:=hm
  have I6':=I6.pinned (stat fr6) (T.obj _ _ st6)
  have again:∀ {σ7:St} {H7:Hp} {s7:Shared},Inv Y ([]++z74 fp s6.heap) σ7 H7 s7→N σ7 H7→∃ m,m<n∧P m s7:=fun {σ7 H7 s7} I7 n7=>by
   refine bq fun bG=>?_
   obtain ⟨m',hm,w7⟩:=hN σ7 H7 n7
   refine bG (⟨m',hm,(hP _ _).2 ⟨i+1,σ7,H7,I7.unpinned,T.keep _ _ _ st6 fun b hb o e=>(I7.pin (b,o) (List.mem_append_right _ (List.mem_append_right _ (z1d hb e)))).1,fun b hb=>?_,w7⟩⟩)
   refine bq fun bG=>?_
   obtain ⟨o,e,d⟩:=T.obj _ _ st6 b hb
   exact bG ((I7.pin (b,o) (List.mem_append_right _ (List.mem_append_right _ (z1d hb e)))).2.1)
  refine noX (thn (hg _ s6 σ4 H6 x u _ I6' r6 (step x H6 y6)) fun _ s7 hm=>?_)
  refine bq fun bG=>?_
  obtain ⟨σ7,H7,I7,q7⟩:=hm
  refine bG (noX (thn (ht _ s7 σ7 H7 _ I7 q7) fun b s8 hm=>?_))
  obtain ⟨H8,I8,q8⟩:=hm
  cases b with
  | false =>
   show ∃ m,_
   exact again I8 q8
  | true =>
   show wpAny _ _ _ _ _ _
   refine noX (thn (he _ s8 σ7 H8 _ I8 q8) fun y s9 hm=>?_)
   refine bq fun bG=>?_
   obtain ⟨v,H9,I9,r9,ys,hy,hz,q9⟩:=hm
   refine bG (noX (thn (z87 (X:=Y) _ s9 σ7 H9 (.ref D) [v] (.ref D) [y] (fun _ H'=>N σ7 H') I9 rfl (.cons r9 .nil) ⟨_,ys,v,rfl,rfl,hy,hz,q9⟩) fun _ s10 hm=>?_))
   refine bq fun bG=>?_
   obtain ⟨_,H10,I10,_,q10⟩:=hm
   exact bG (again I10 q10)
theorem z8t {s2:Shared} {H2:Hp} {it:Addr} {fp:List Addr} {tn:Nat→Heap→Prop} {J:It} {cl:List (Str×Addr)} {Z:Addr→Hp→Prop} {RR:Value→Addr→Result→Shared→Prop} {E:Value→Shared→Prop}
  (hx:∀ e s,X.xe e s→False) (hc:X.calm=true) (S:CompScope X N' own cap scope)
  (hg:∀ cl C s₀ H₀ ex,PG (z0c X N' scope cl C s₀ H₀ ex) tg g) (ht:∀ cl C s₀ H₀ ex,PIf (z0c X N' scope cl C s₀ H₀ ex) ifs tc) (he:∀ cl C s₀ H₀ ex,PE (z0c X N' scope cl C s₀ H₀ ex) elt te)
  (I2:Inv X pins σ H2 s2) (T:Turn X.prog X.w X.K tg J fp it tn) (st2:tn 0 s2.heap) (f2:∀ b∈fp,z72 X pins H2 b)
  (c1:∀ y c,cl.lookup y=some c→X.env.cells.lookup y=some c) (c2:∀ y,(y,NameKind.free)∈scope.names→∃ c,cl.lookup y=some c)
  (h:∀ D,H2 D=none→z3v J g tc te D (z3t own cap σ) H2 (Z D))
  (hRR:∀ D C s' m' H',Inv X pins σ H' s'→s'.heap.Ns C m'→z72 X pins H' C→Z D H'→RR (.ref D) C (.ok .next) s') :
  wpAny (model X.prog X.w) X.A (newList []) (fun acc s₃=>wpAny (model X.prog X.w) X.A (newFunctionEnv scope X.env.globals cl [] X.env.qual none .none (some X.env)) (fun cenv s₄ =>
   codeAny (model X.prog X.w) X.A (.compStart (.ListComp elt [⟨tg,iter,ifs,0⟩] scope pos) 0 (.ref it) acc { cenv with scope:=relabel scope X.env }) (RR acc cenv.locals) s₄) E s₃) E s2:=by
 have hlt:∀ b∈fp,b<s2.heap.objs.size:=fun b hb=>by
  refine bq fun bG=>?_
  obtain ⟨o,e,_⟩:=T.obj _ _ st2 b hb
  exact bG (Heap.lt_size e)
 have hD:H2 s2.heap.objs.size=none:=I2.hok.fresh (Nat.le_refl _)
 refine wpAny_newObj_type (z3z (fun h₁ hns₁ hk₁ hce₁=>?_))
 dsimp only at hns₁ hk₁ hce₁ ⊢
 have I3:Inv X pins σ (upd H2 s2.heap.objs.size (.lst [])) { s2 with heap:=s2.heap.push { cls:=.type "list",dict:=none,data:=.seq ([]:List Value).toArray },toks:=s2.toks } :=
  I2.laid (fun b o e=>Heap.get?_push_of_some _ e) (Nat.le_refl _) ⟨Nat.zero_le _,[],0,.nil,Heap.get?_push_size _ rfl⟩
 generalize hs3:({ s2 with heap:=s2.heap.push { cls:=.type "list",dict:=none,data:=.seq ([]:List Value).toArray },toks:=s2.toks }:Shared)=s3 at I3
 have e3:s2.heap.push { cls:=.type "list",dict:=none,data:=.seq ([]:List Value).toArray }=s3.heap:=by rw [← hs3]
 have hsz:s3.heap.objs.size=s2.heap.objs.size+1:=by rw [← e3,Heap.size_push]
 rw [e3] at hns₁ hk₁ hce₁ ⊢
 have hk:=hk₁
 have hcl:∀ y c,cl.lookup y=some c→¬ s3.heap.objs.size<c:=fun y c e z=>by
  refine bq fun bG=>?_
  obtain ⟨v,o,ho,_⟩:=I3.cell y c (c1 y c e)
  exact bG (Nat.lt_irrefl _ (Nat.lt_trans z (Heap.lt_size ho)))
 have CA:CellsAre X scope s3.heap.objs.size cl (cellsFrom (s3.heap.objs.size+1) scope.names cl):=z8w (h:=s3.heap.push { cls:=.type "dict",data:=.dict #[] }) (by rw [Heap.size_push]) S hcl
 have hcell:∀ y c,(cellsFrom (s3.heap.objs.size+1) scope.names cl).lookup y=some c→s3.heap.objs.size<c→h₁.IsCell c none:=fun y c e z=>by
  rw [z12,z1v] at e
  cases q:(cellsFrom (s3.heap.objs.size+1) scope.names []).lookup y with
  | none=>rw [q] at e;exact absurd z (hcl y c e)
  | some c' =>
   rw [q] at e
   have:c'=c:=Option.some.inj e
   subst this
   exact hce₁ y c' (PySem.mem_of_lookup q)
 generalize hcs:cellsFrom (s3.heap.objs.size+1) scope.names cl=cs at CA hcell ⊢
 have f3:∀ b∈fp,z72 X pins (upd H2 s2.heap.objs.size (.lst [])) b:=fun b hb=>⟨by rw [z0h (Nat.ne_of_lt (hlt b hb))];exact (f2 b hb).1,(f2 b hb).2⟩
 have hlt3:∀ b∈fp,b<s3.heap.objs.size:=fun b hb=>by rw [hsz];exact Nat.lt_succ_of_lt (hlt b hb)
 have st3:tn 0 h₁:=T.keep _ _ _ st2 fun b hb o e=>hk b o (by rw [← e3];exact Heap.get?_push_of_some _ e)
 have J0:Inv (z0c X N' scope cs s3.heap.objs.size s3 (upd H2 s2.heap.objs.size (.lst [])) fp) [] (z3t own cap σ) (upd H2 s2.heap.objs.size (.lst [])) { s3 with heap:=h₁,toks:=s2.toks } :=
  comp_inv I3 S CA hcell c1 c2 f3 hlt3 hk hns₁
 have stat:∀ {pl:List (Addr×Obj)} {H':Hp},pl=[]→(∀ b∈fp,H' b=none)→∀ b∈fp,z72 (z0c X N' scope cs s3.heap.objs.size s3 (upd H2 s2.heap.objs.size (.lst [])) fp) pl H' b:=fun {pl H'} hp hn b hb=>by
  subst hp
  refine ⟨hn b hb,Nat.ne_of_lt (hlt3 b hb),J0.ok.exfs b hb,.inl hb,fun x c e=>J0.ok.exf b hb |>.2 x c e,fun p hp=>absurd hp (by show p∉([]++[]:List (Addr×Obj));simp)⟩
 have loop:codeAny (model X.prog X.w) X.A (.compLoop (.ListComp elt [⟨tg,iter,ifs,0⟩] scope pos) 0 (.ref it) (.ref s2.heap.objs.size) (compEnvC scope cs s3.heap.objs.size X.env)) (RR (.ref s2.heap.objs.size) s3.heap.objs.size)
   { s3 with heap:=h₁,toks:=s2.toks }:=zky (Y:=z0c X N' scope cs s3.heap.objs.size s3 (upd H2 s2.heap.objs.size (.lst [])) fp) hx hc (hg _ _ _ _ _) (ht _ _ _ _ _) (he _ _ _ _ _) T J0 st3 (fun b hb=>(f3 b hb).1) (stat rfl) (h _ hD) fun σ4 H4 s5 I5 qz=>by
  have I6:Inv X pins σ H4 s5:=I3.call' (ch:=fp) I5.os I5.base I5.hok I5.bare fun b hb=>⟨(f3 b hb).2.2.2.1,(f3 b hb).2.1,(f3 b hb).2.2.2.2.1,(f3 b hb).2.2.2.2.2⟩
  refine bq fun bG=>?_
  obtain ⟨m',hn',_⟩:=I5.loc
  exact bG (hRR _ _ s5 m' H4 I6 hn' (I3.fpOk (Nat.le_refl _) I5.free) qz)
 have lp:codeAny (model X.prog X.w) X.A (.compStart (.ListComp elt [⟨tg,iter,ifs,0⟩] scope pos) 0 (.ref it) (.ref s2.heap.objs.size) (compEnvC scope cs s3.heap.objs.size X.env)) (RR (.ref s2.heap.objs.size) s3.heap.objs.size)
   { s3 with heap:=h₁,toks:=s2.toks }:=codeAny_compStart_list loop (T.self _ 0 _ _ _ st3 loop)
 subst hs3
 exact lp
end
def zss (own:List Str) (cap:List (Str×Nat)) (wi:TI) (g:TG) (tc:TT) (te:TE):TE:=fun σ H Q=>wi σ H fun J H1=>∀ D,H1 D=none→z3v J g tc te D (z3t own cap σ) H1 (Q (.ref D))
def zmc (i:Nat) (own:List Str) (cap:List (Str×Nat)) (wi:TI) (g:TG) (tc:TT) (te:TE):TS:=fun D σ H=>wi σ H fun J H1=>∀ p,H1 p=none→z3v J g tc te p (z3t own cap σ) H1 (fun H2=>D.nx (σ.set i (some (.ref p))) H2)
section
variable {X:Cx} {N' own:List Str} {cap:List (Str×Nat)} {scope:Scope} {tg iter elt:Expr} {ifs:List Expr} {pos:Pos} {wi:TI} {g:TG} {tc:TT} {te:TE}
theorem Inv.letgo {pins:List (Addr×Obj)} {σ:St} {H:Hp} {s:Shared} {h':Heap} {C:Addr} (I:Inv X pins σ H s) (f:z72 X pins H C) (hs:Heap.SameBut C s.heap h'):Inv X pins σ H { s with heap:=h' } :=
 I.turned (t':=s.toks) (it:=C) (fun b o hb e=>(hs.2 b hb).trans e) f.1 f.2.1 f.2.2.2.1 f.2.2.2.2.1 f.2.2.2.2.2
theorem zqt (S:CompScope X N' own cap scope) (hi:PI X tg iter wi)
  (hg:∀ cl C s₀ H₀ ex,PG (z0c X N' scope cl C s₀ H₀ ex) tg g) (ht:∀ cl C s₀ H₀ ex,PIf (z0c X N' scope cl C s₀ H₀ ex) ifs tc) (he:∀ cl C s₀ H₀ ex,PE (z0c X N' scope cl C s₀ H₀ ex) elt te)
  (hx:∀ e s,X.xe e s→False:=by exact fun _ _ z=>z) (hc:X.calm=true:=by rfl) (hs:∀ x,foldedSetIterable iter X.env x=pure x:=by intro _;rfl) :
  PE X (.ListComp elt [⟨tg,iter,ifs,0⟩] scope pos) (zss own cap wi g tc te):=by
 intro pins s σ H Q I h
 rw [eval_ListComp]
 refine bq fun bG=>?_
 obtain ⟨cl,hcl,c1,c2⟩:=z2g (scope:=scope) (env:=X.env) fun y hy hk=>I.ok.has y.1 (S.free y hy hk)
 refine bG (wpAny_comprehension_free (use:=none) rfl hs hcl S.kind S.names (thn (hi pins s σ H _ I h) fun v s1 h1=>thn h1 fun itv s2 h2=>?_))
 refine bq fun bG=>?_
 obtain ⟨it,fp,tn,J,H2,e,I2,T,st2,f2,q⟩:=h2
 subst e
 refine bG (z8t (RR:=fun acc C=>compPost (model X.prog X.w) X.A X.xe none (EP X pins σ Q) acc C) (Z:=fun D=>Q (.ref D)) hx hc S hg ht he I2 T st2 f2 c1 c2 q ?_)
 intro D C s' m' H' I' hn' f' z
 exact ⟨m',hn',fun h'' hs''=>⟨.ref D,H',I'.letgo f' hs'',rfl,z⟩⟩
theorem zgf {i:Nat} {y:Str} {py spos:Pos} (hN:X.N.Nodup) (hi':X.N[i]?=some y) (hy:X.env.scope.names.lookup y=some .local) (S:CompScope X N' own cap scope) (hi:PI X tg iter wi)
  (hg:∀ cl C s₀ H₀ ex,PG (z0c X N' scope cl C s₀ H₀ ex) tg g) (ht:∀ cl C s₀ H₀ ex,PIf (z0c X N' scope cl C s₀ H₀ ex) ifs tc) (he:∀ cl C s₀ H₀ ex,PE (z0c X N' scope cl C s₀ H₀ ex) elt te)
  (hsw:swapsWith (.ListComp elt [⟨tg,iter,ifs,0⟩] scope pos) (some (.Name y py)) spos.line X.env=pure true:=by rfl)
  (hx:∀ e s,X.xe e s→False:=by exact fun _ _ z=>z) (hc:X.calm=true:=by rfl) (hs:∀ x,foldedSetIterable iter X.env x=pure x:=by intro _;rfl) :
  PS X (.Assign [.Name y py] (.ListComp elt [⟨tg,iter,ifs,0⟩] scope pos) spos) (zmc i own cap wi g tc te):=by
 intro pins s σ H D I h
 obtain ⟨cl,hcl,c1,c2⟩:=z2g (scope:=scope) (env:=X.env) fun y hy hk=>I.ok.has y.1 (S.free y hy hk)
 rw [exec_Assign_Name_used _ _ _ _ hsw]
 refine wpAny_bind (wpAny_standAt (wpAny_bind ?_))
 show wpAny _ _ (do let _ ← comprehension (.ListComp elt [⟨tg,iter,ifs,0⟩] scope pos) scope X.env _ (newList []) false (eval iter X.env) (some (assign (.Name y py) X.env))) _ _ s
 refine wpAny_bind (wpAny_mono (wpAny_comprehension_free (use:=some (assign (.Name y py) X.env)) (Q:=fun _ s'=>SP X pins D .next s') rfl hs hcl S.kind S.names
  (thn (hi pins s σ H _ I h) fun v s1 h1=>thn h1 fun itv s2 h2=>?_)) (fun _ s' hq=>wpAny_pure (wpAny_pure hq)) fun _ _ e=>e)
 refine bq fun bG=>?_
 obtain ⟨it,fp,tn,J,H2,e,I2,T,st2,f2,q⟩:=h2
 subst e
 refine bG (z8t (RR:=fun acc C=>compPost (model X.prog X.w) X.A X.xe (some (assign (.Name y py) X.env)) (fun _ s'=>SP X pins D .next s') acc C) (Z:=fun p H2=>D.nx (σ.set i (some (.ref p))) H2) hx hc S hg ht he I2 T st2 f2 c1 c2 q ?_)
 intro p C s' m' H' I' hn' f' z
 show wpAny _ _ (assign (.Name y py) X.env (.ref p)) _ _ _
 refine wpAny_assign_Name (z7v I' hN hi' (.inl hy) (v:=.ref p) rfl (fun s'' I'' hm=>?_) (.inr hy))
 obtain ⟨a,hsb,ha⟩:=hm
 have hCa:C≠a:=by
  rcases ha with z | z
  ·rw [z];exact f'.2.1
  ·exact fun e=>f'.2.2.2.2.1 y a z e.symm
 refine ⟨m',hn'.sameBut hsb hCa,fun h3 hs3=>?_⟩
 exact ⟨_,H',I''.letgo f' hs3,z⟩
end
section
variable {K:PySem.W.Frag} {g:TG} {tc:TT} {te:TE} {D:Addr} {σ0:St} {H0:Hp} {Z:Hp→Prop}
end
section
variable {X:Cx} {pins:List (Addr×Obj)} {σ:St} {H:Hp} {s:Shared} {h':Heap} {ch:List Addr}
theorem Inv.turns {t':Nat} (I:Inv X pins σ H s) (hf:∀ b∈ch,z72 X pins H b) (k:∀ b o,b∉ch→s.heap.get? b=some o→h'.get? b=some o):Inv X pins σ H { s with heap:=h',toks:=t' }:=by
 have nit:∀ b u,H b=some u→b∉ch:=fun b u e z=>by rw [(hf b z).1] at e;cases e
 refine I.step (g':=s.gens) (d':=s.drawn) (ch:=ch) (fun b hb=>?_) (fun b o _ _ hc e _=>k b o hc e) (fun b o _ _ hc e _=>⟨o.slots,k b o hc e⟩) (fun _ _ _ _ n=>n)
  (fun b o hc e=>⟨o,k b o hc e⟩) (fun _ _ e=>e) (fun _ _ _ e=>e) (fun b ps e=>⟨#[],by rw [e];simp⟩) (fun m hm=>?_) (fun b u e=>?_) I.bare
 ·obtain ⟨f0,f1,f2,f3,f4,f5⟩:=hf b hb
  exact ⟨f3,f1,f4,f5⟩
 ·obtain ⟨o,es,ep,ho,r⟩:=hm
  exact ⟨o,es,ep,k _ o (fun z=>(hf _ z).2.1 rfl) ho,r⟩
 ·refine (I.hok b u e).stay (fun c v hc q=>k c v ?_ q) (fun _ q=>q) fun _ _ q=>q
  rcases hc with z | z
  ·rw [z];exact nit b u e
  ·exact nit c _ z
theorem Inv.turnLay {t':Nat} {T:Addr} {o:HO} (I:Inv X pins σ H s) (hf:∀ b∈ch,z72 X pins H b) (k:∀ b o,b∉ch→s.heap.get? b=some o→h'.get? b=some o) (hT:s.heap.objs.size≤T)
  (new:ObjOk X.prog X.w (upd H T o) h' T o):Inv X pins σ (upd H T o) { s with heap:=h',toks:=t' }:=by
 have nit:∀ b u,H b=some u→b∉ch:=fun b u e z=>by rw [(hf b z).1] at e;cases e
 have hn:H T=none:=I.hok.fresh hT
 have ne:∀ b o,s.heap.get? b=some o→b≠T:=fun b o e=>Nat.ne_of_lt (Nat.lt_of_lt_of_le (Heap.lt_size e) hT)
 refine I.step (g':=s.gens) (d':=s.drawn) (ch:=ch) (fun b hb=>?_) (fun b o _ _ hc e _=>k b o hc e) (fun b o _ _ hc e _=>⟨o.slots,k b o hc e⟩) (fun b o _ e n=>by rw [z0h (ne b o e)];exact n)
  (fun b o hc e=>⟨o,k b o hc e⟩) (fun b xs e=>by rw [z0h (z0j e hn)];exact e) (fun b o u e=>by rw [z0h (z0j e hn)];exact e) (fun b ps e=>⟨#[],by rw [z0h (z0j e hn),e];simp⟩) (fun m hm=>?_) (fun b u e=>?_) I.bare
 ·obtain ⟨f0,f1,f2,f3,f4,f5⟩:=hf b hb
  exact ⟨f3,f1,f4,f5⟩
 ·obtain ⟨o,es,ep,ho,r⟩:=hm
  exact ⟨o,es,ep,k _ o (fun z=>(hf _ z).2.1 rfl) ho,r⟩
 ·by_cases hb:b=T
  ·subst hb;rw [z0l] at e;cases e;exact new
  ·rw [z0h hb] at e
   refine (I.hok b u e).stay (fun c v hc q=>k c v ?_ q) (fun c q=>by rw [z0h (z0j q hn)];exact q) fun c xs q=>by rw [z0h (z0j q hn)];exact q
   rcases hc with z | z
   ·rw [z];exact nit b u e
   ·exact nit c _ z
end
noncomputable def Ite (K:PySem.W.Frag) (a:Addr):It :=
 ⟨fun i H=>∃ xs x,SqL K H a xs∧xs[i]?=some x,fun i H x H'=>∃ p v,x=.ref p∧H p=none∧H'=upd H p (.tup [.int (i:Nat),v])∧∀ xs,SqL K H a xs→xs[i]?=some v,fun i H=>∃ xs,SqL K H a xs∧xs.length≤i⟩
theorem zi2:2≤sizeLine:=by rw [sizeLine_eq];decide
theorem zi6 {P:Program} {w:World} {K:PySem.W.Frag} {elts:List Expr} {k:Nat} {pos:Pos} (a e it:Addr) (hne:e≠it) :
  Turn P w K (.Tuple elts k pos) (Ite K a) [e,it] e (fun i h=>(∃ old,IsEnum h e it i old)∧h.IsListIter it a i) where
 mem:=by simp
 obj:=fun i h st b hb=>by
  obtain ⟨⟨old,he⟩,o,e2,c,d⟩:=st
  rcases List.mem_cons.mp hb with rfl | hb
  ·exact ⟨_,he,fun v z=>by cases z⟩
  ·rw [List.mem_singleton.mp hb]
   exact ⟨o,e2,fun v z=>by rw [d] at z;cases z⟩
 keep:=fun i h h' st kk=>⟨let ⟨old,he⟩:=st.1;⟨old,kk e (by simp) _ he⟩,st.2.at fun o q=>kk it (by simp) o q⟩
 item:=by
  intro X hP hw hK hc i pins s σ H E I hf st hg
  subst hP hw hK
  refine bq fun bG=>?_
  obtain ⟨xs,x,hq,hx⟩:=hg
  obtain ⟨its,rv,p,hz⟩:=I.list hq
  obtain ⟨u,hu,ru⟩:=rv.get hx
  obtain ⟨⟨old,he⟩,hit⟩:=st
  refine bG (wpAny_pyNext_enum_item he hit p.isList (x:=u) (by simpa using hu) hne fun h1 ho hit1 hT hsz hk=>?_)
  refine ⟨_,rfl,wpAny_letOwnedTupleGo_enum ho fun h2 he2 hs2=>?_⟩
  have hlt:e<s.heap.objs.size:=Heap.lt_size he
  replace hs2:Heap.SameBut e h1 h2:=hs2
  have hT2:h2.get? s.heap.objs.size=some { cls:=.type "tuple",data:=.seq #[.int i s.toks,u] }:=(hs2.2 _ (Nat.ne_of_gt hlt)).trans hT
  have hn:H s.heap.objs.size=none:=I.hok.fresh (Nat.le_refl _)
  have I2:Inv X pins σ (upd H s.heap.objs.size (.tup [.int (i:Nat),x])) { s with heap:=h2,toks:=s.toks+1 } :=
   I.turnLay (ch:=[e,it]) hf (fun b o hb q=>(hs2.2 b (fun z=>hb (by simp [z]))).trans (hk b o (fun z=>hb (by simp [z])) (fun z=>hb (by simp [z])) q)) (Nat.le_refl _)
    ⟨zi2,[.int i s.toks,u],.cons ⟨_,rfl⟩ (.cons ru .nil),⟨_,hT2,rfl,_,rfl⟩⟩
  have hit2:h2.IsListIter it a (i+1):=hit1.at fun o q=>(hs2.2 it (Ne.symm hne)).trans q
  have f1:∀ b∈[e,it],(upd H s.heap.objs.size (.tup [.int (i:Nat),x])) b=none:=fun b hb=>by
   have hlb:b<s.heap.objs.size:=by
    rcases List.mem_cons.mp hb with rfl | hb
    ·exact hlt
    ·rw [List.mem_singleton.mp hb]
     refine bq fun bG=>?_
     obtain ⟨o,q,_⟩:=hit
     exact bG (Heap.lt_size q)
   rw [z0h (Nat.ne_of_lt hlb)]
   exact (hf b hb).1
  exact ⟨.ref s.heap.objs.size,_,I2,rfl,⟨_,x,rfl,hn,rfl,fun ys hy=>by rw [I.list_inj hy hq];exact hx⟩,⟨⟨u,by simpa using he2⟩,hit2⟩,f1⟩
 done:=by
  intro X hP hw hK hc i pins s σ H E I hf st hg
  subst hP hw hK
  obtain ⟨xs,hq,hx⟩:=hg
  obtain ⟨its,rv,p,hz⟩:=I.list hq
  obtain ⟨⟨old,he⟩,hit⟩:=st
  have hl:=rv.length
  exact wpAny_pyNext_enum_end (I.ok.hd hc) he hit p.isList (by simp;omega) fun h' eb=>⟨rfl,I.turns (t':=s.toks) (ch:=[e,it]) hf fun b o hb q=>eb b o (fun z=>hb (by simp [z])) q⟩
 self:=fun _ _ _ _ _ st h=>by
  refine bq fun bG=>?_
  obtain ⟨⟨old,he⟩,_⟩:=st
  exact bG (wpAny_pyIter_enum he h)
def zv8 (K:PySem.W.Frag) (ta:TA):TI:=fun σ H R=>ta σ H fun vs H1=>∃ a,vs=[.ref a]∧(∃ xs,SqL K H1 a xs)∧R (Ite K a) H1
section
variable {X:Cx}
theorem zqn {elts:List Expr} {k:Nat} {tpos:Pos} {a:Expr} {ta:TA} {p pos:Pos} (hg:Gl X "enumerate") (hm:X.mg "enumerate" = none) (ha:PA X [a] ta) (hs:starEach [a] X.env=[(false,eval a X.env)]:=by rfl) :
  PI X (.Tuple elts k tpos) (.Call (.Name "enumerate" p) [a] [] pos) (zv8 X.K ta):=by
 intro pins s σ H R I h
 refine Call_ (z76 I hg hm boot_enumerate (PyProof.Rows.callWith_type1 (thn (ha pos pins s σ H _ I h) fun us s1 hm=>?_) hs rfl))
 refine bq fun bG=>?_
 obtain ⟨vs,H1,I1,r1,q1⟩:=hm
 refine bG (bq fun bG=>?_)
 obtain ⟨l,e,⟨xs,hq⟩,q⟩:=q1
 subst e
 obtain ⟨u,rfl,ru⟩:=z96 r1
 cases ru
 obtain ⟨its,rv,pl,hz⟩:=I1.list hq
 refine bG (call_enumerate_list pl.isList fun h' he hit hsz hk=>wpAny_pyIter_enum he ?_)
 have I2:Inv X pins σ H1 { s1 with heap:=h' }:=I1.kept (t':=s1.toks) hk
 refine ⟨_,[s1.heap.objs.size+1,s1.heap.objs.size],_,_,H1,rfl,I2,zi6 l _ _ (Nat.succ_ne_self _),⟨⟨.none,he⟩,hit⟩,fun b hb=>?_,q⟩
 have hb':s1.heap.objs.size≤b:=by
  rcases List.mem_cons.mp hb with rfl | hb
  ·exact Nat.le_succ _
  ·rw [List.mem_singleton.mp hb]
   exact Nat.le_refl _
 exact I1.fpOk hb' (I1.hok.fresh hb')
end
theorem nz {n i j:Nat} (h:i≠j):n+i≠n+j:=fun e=>h (Nat.add_left_cancel e)
section
variable {X:Cx}
end
noncomputable def z7s:List String:=["int", "bool", "str", "NoneType", "list", "tuple", "dict"]
noncomputable def clNames:List String:=["int", "bool", "str", "list", "tuple", "dict"]
noncomputable def zic (t c:String):Bool:=t==c||(t == "bool" && c == "int")
theorem zjw {K:PySem.W.Frag} {t c:String} (ht:t∈z7s) (hc:c∈clNames):PySem.W.kitOne K (.type t) (.type c)=some (zic t c):=by
 simp only [z7s,clNames,List.mem_cons,List.not_mem_nil,or_false] at ht hc
 rcases ht with rfl | rfl | rfl | rfl | rfl | rfl | rfl <;> rcases hc with rfl | rfl | rfl | rfl | rfl | rfl <;> first | rfl | decide | (with_unfolding_all rfl)
theorem zjx {K:PySem.W.Frag} {t:String} (ht:t∈z7s):∀ {cs:List String},(∀ c∈cs,c∈clNames)→PySem.W.kitAny K (.type t) (cs.map Value.type)=some (cs.any (zic t))
 | [],_=>rfl
 | c::r,h=>by
  show (match PySem.W.kitOne K (.type t) (.type c) with | some true=>some true | some false=>PySem.W.kitAny K (.type t) (r.map Value.type) | none=>none)=_
  rw [zjw ht (h c List.mem_cons_self),List.any_cons]
  cases e:zic t c with
  | true=>rfl
  | false =>
   rw [Bool.false_or]
   exact zjx ht fun d hd=>h d (List.mem_cons_of_mem _ hd)
inductive TyN (K:PySem.W.Frag) (H:Hp):V→String→Prop where
 | non:TyN K H .non "NoneType"
 | bl (x:Bool):TyN K H (.bl x) "bool"
 | int (i:Int):TyN K H (.int i) "int"
 | str (x:Str):TyN K H (.str x) "str"
 | lst {a:Addr} {xs:List V} (e:SqL K H a xs):TyN K H (.ref a) "list"
 | tup {a:Addr} {xs:List V} (e:SqT K H a xs):TyN K H (.ref a) "tuple"
 | dK {a:Addr} {kvs:List (Key×V)} (e:H a=some (.dK kvs)):TyN K H (.ref a) "dict"
theorem TyN.mem {K:PySem.W.Frag} {H:Hp} {x:V} {t:String} (h:TyN K H x t):t∈z7s:=by cases h <;> simp [z7s]
section
variable {X:Cx}
theorem zht:∀ {cs:List String} {us:List Value},Vals (cs.map V.ty) us→us=cs.map Value.type
 | [],_,h=>by cases h;rfl
 | c::r,_,h=>by
  cases h with
  | cons a t =>
   cases (show _=Value.type c from a)
   rw [zht t];rfl
theorem zo1:z60 X (.builtin "isinstance") (fun xs H Q=>∃ (x:V) (t:String) (c:String),xs=[x,.ty c]∧TyN X.K H x t∧clNames.contains c=true∧Q (.bl (zic t c)) H):=by
 intro pins s σ H xs us Q I r h
 obtain ⟨x,t,c,rfl,ty,hc,q⟩:=h
 obtain ⟨u,w',rfl,rx,rc⟩:=zhv r
 cases (show w'=Value.type c from rc)
 have e:=zjw (K:=X.K) ty.mem (by simpa using hc:c∈clNames)
 have fin:∀ tk,EP X pins σ Q (.bool (zic t c)) { s with toks:=tk }:=fun tk=>⟨.bl _,H,I.tok _,rfl,q⟩
 cases ty with
 | non=>cases (show u=Value.none from rx);exact PySem.W.kia_one PySem.W.kitx_none I.kIn True.intro e (fun z=>nomatch z) fin
 | bl y=>cases (show u=Value.bool y from rx);exact PySem.W.kia_one PySem.W.kitx_bool I.kIn True.intro e (fun z=>nomatch z) fin
 | int i=>obtain ⟨t,q⟩:=(show ∃ t,u=Value.int i t from rx);cases q;exact PySem.W.kia_one PySem.W.kitx_int I.kIn True.intro e (fun z=>nomatch z) fin
 | str y=>obtain ⟨t,q⟩:=(show ∃ t,u=Value.str y t from rx);cases q;exact PySem.W.kia_one PySem.W.kitx_str I.kIn True.intro e (fun z=>nomatch z) fin
 | @lst a xs ea =>
  cases (show u=Value.ref a from rx)
  obtain ⟨its,_,⟨o,n,h1,h2,_⟩,_⟩:=I.list ea
  exact PySem.W.kia_one PySem.W.kitx_list I.kIn ⟨o,h1,h2⟩ e (fun z=>nomatch z) fin
 | @tup a xs ea =>
  cases (show u=Value.ref a from rx)
  obtain ⟨its,_,⟨o,h1,h2,_⟩,_⟩:=I.tuple ea
  exact PySem.W.kia_one PySem.W.kitx_tuple I.kIn ⟨o,h1,h2⟩ e (fun z=>nomatch z) fin
 | @dK a kvs ea =>
  cases (show u=Value.ref a from rx)
  refine bq fun bG=>?_
  obtain ⟨_,_,vs,_,p⟩:=(show ObjOk X.prog X.w H s.heap a (.dK kvs) from I.hok a _ ea)
  obtain ⟨o,es,ep,h1,h2,_⟩:=p
  exact bG (PySem.W.kia_one PySem.W.kitx_dict I.kIn ⟨o,h1,h2.1⟩ e (fun z=>nomatch z) fin)
theorem zl4:z60 X (.builtin "isinstance") (fun xs H Q=>∃ (x:V) (t:String) (p:Addr) (cs:List String),xs=[x,.ref p]∧SqT X.K H p (cs.map V.ty)∧TyN X.K H x t∧cs.all clNames.contains=true∧Q (.bl (cs.any (zic t))) H):=by
 intro pins s σ H xs us Q I r h
 obtain ⟨x,t,p,cs,rfl,hp,ty,hc,q⟩:=h
 obtain ⟨u,w',rfl,rx,rc⟩:=zhv r
 cases (show w'=Value.ref p from rc)
 obtain ⟨its,rv,⟨⟨oc,od,odt,osl⟩,e1,e2,n,e3⟩,_⟩:=I.tuple hp
 cases zht rv
 have e2':oc=.type "tuple" := e2
 have e3':odt=.seq (cs.map Value.type).toArray n:=e3
 subst e2' e3'
 have e:=zjx (K:=X.K) ty.mem (cs:=cs) fun c hcm=>by simpa using (List.all_eq_true.mp hc c hcm)
 have fin:∀ tk,EP X pins σ Q (.bool (cs.any (zic t))) { s with toks:=tk }:=fun tk=>⟨.bl _,H,I.tok _,rfl,q⟩
 cases ty with
 | non=>cases (show u=Value.none from rx);exact PySem.W.kia_tup PySem.W.kitx_none I.kIn True.intro e1 e (fun z=>nomatch z) fin
 | bl y=>cases (show u=Value.bool y from rx);exact PySem.W.kia_tup PySem.W.kitx_bool I.kIn True.intro e1 e (fun z=>nomatch z) fin
 | int i=>obtain ⟨t,q⟩:=(show ∃ t,u=Value.int i t from rx);cases q;exact PySem.W.kia_tup PySem.W.kitx_int I.kIn True.intro e1 e (fun z=>nomatch z) fin
 | str y=>obtain ⟨t,q⟩:=(show ∃ t,u=Value.str y t from rx);cases q;exact PySem.W.kia_tup PySem.W.kitx_str I.kIn True.intro e1 e (fun z=>nomatch z) fin
 | @lst a xs ea =>
  cases (show u=Value.ref a from rx)
  obtain ⟨its,_,⟨o,n,h1,h2,_⟩,_⟩:=I.list ea
  exact PySem.W.kia_tup PySem.W.kitx_list I.kIn ⟨o,h1,h2⟩ e1 e (fun z=>nomatch z) fin
 | @tup a xs ea =>
  cases (show u=Value.ref a from rx)
  obtain ⟨its,_,⟨o,h1,h2,_⟩,_⟩:=I.tuple ea
  exact PySem.W.kia_tup PySem.W.kitx_tuple I.kIn ⟨o,h1,h2⟩ e1 e (fun z=>nomatch z) fin
 | @dK a kvs ea =>
  cases (show u=Value.ref a from rx)
  refine bq fun bG=>?_
  obtain ⟨_,_,vs,_,p⟩:=(show ObjOk X.prog X.w H s.heap a (.dK kvs) from I.hok a _ ea)
  obtain ⟨o,es,ep,h1,h2,_⟩:=p
  exact bG (PySem.W.kia_tup PySem.W.kitx_dict I.kIn ⟨o,h1,h2.1⟩ e1 e (fun z=>nomatch z) fin)
end
section
variable {X:Cx}
theorem ztu {e:Expr} {te:TE} {pos p2 p3 p4:Pos} {j:Nat} (he:PE X e te) :
  PE X (.Subscript e (.Slice none none (some (.UnaryOp .USub (.Constant (.int 1) j p4) p3)) p2) pos) (fun σ H Q=>te σ H fun x H1=>∃ (a:Addr) (xs:List V),x=.ref a∧SqL X.K H1 a xs∧∀ p,H1 p=none→Q (.ref p) (upd H1 p (.lst xs.reverse))):=by
 intro pins s σ H Q I h
 refine Subscript_ (thn (he pins s σ H _ I h) fun v s1 hm=>?_)
 refine bq fun bG=>?_
 obtain ⟨x,H1,I1,r1,q1⟩:=hm
 refine bG (bq fun bG=>?_)
 obtain ⟨a,xs,rfl,hx,q⟩:=q1
 cases r1
 refine bG (wpAny_Slice ?_)
 rw [evalPart_none]
 refine wpAny_pure (wpAny_pure ?_)
 rw [evalPart_some]
 refine thn (ztt zoi zp0 pins s1 σ H1 (fun y H2=>y=.int (-1)∧H2=H1) I1 ⟨1,rfl,rfl,rfl⟩) fun u s2 hm=>?_
 refine bq fun bG=>?_
 obtain ⟨y,H2,I2,ry,ey,eH⟩:=hm
 subst ey eH
 refine bG (bq fun bG=>?_)
 obtain ⟨t,rfl⟩:=ry
 have I4:Inv X pins σ H2 { s2 with heap:=s2.heap.push { cls:=.type "slice",data:=.fields #[.none,.none,.int (-1) t] } }:=I2.kept (t':=s2.toks) fun b ob q=>Heap.get?_push_of_some _ q
 obtain ⟨its,rv,pl,hz⟩:=I4.list hx
 have hl:=rv.length
 refine bG (tail_any (ops:=[.ref a,.ref s2.heap.objs.size]) pl.isList.typeIs slot_list_getitem.lookup ?_ (by with_unfolding_all rfl))
 refine wpAny_getItem_list_slice (lo:=none) (hi:=none) (st:=some (-1)) pl.isList (Heap.IsSliceOf.new ..) .none .none (.int (-1) t) (by decide) ?_ (by rw [List.size_toArray];omega)
 rw [PySem.W.krv_pick]
 refine ⟨.ref _,_,I4.laid (t':=s2.toks) (o:=.lst xs.reverse) (fun b ob q=>Heap.get?_push_of_some _ q) (Nat.le_refl _) ?_,rfl,q _ (I4.hok.fresh (Nat.le_refl _))⟩
 exact ⟨by rw [List.length_reverse];exact hz,its.reverse,0,rv.reverse,Heap.get?_push_size _ rfl⟩
end
mutual
inductive Dp (K:PySem.W.Frag) (H:Hp):V→PyData→Prop where
 | non:Dp K H .non .none
 | bl (b:Bool):Dp K H (.bl b) (.bool b)
 | int (i:Int):Dp K H (.int i) (.int i)
 | str (x:Str):Dp K H (.str x) (.str x)
 | lst {a:Addr} {xs:List V} {ds:List PyData}:SqL K H a xs→Dps K H xs ds→Dp K H (.ref a) (.list ds)
 | tup {a:Addr} {xs:List V} {ds:List PyData}:SqT K H a xs→Dps K H xs ds→Dp K H (.ref a) (.tuple ds)
inductive Dps (K:PySem.W.Frag) (H:Hp):List V→List PyData→Prop where
 | nil:Dps K H [] []
 | cons {x:V} {d:PyData} {xs:List V} {ds:List PyData}:Dp K H x d→Dps K H xs ds→Dps K H (x::xs) (d::ds)
end
section
variable {X:Cx} {pins:List (Addr×Obj)} {σ:St} {H:Hp} {s:Shared}
mutual
theorem Dp.reads (I:Inv X pins σ H s):∀ {v:V} {d:PyData} {u:Value},Dp X.K H v d→RelV v u→∃ as,Reads s.heap u d as
 | _,_,_,.non,r=>by cases (show _=Value.none from r);exact ⟨_,.none⟩
 | _,_,_,.bl b,r=>by cases (show _=Value.bool b from r);exact ⟨_,.bool b⟩
 | _,_,_,.int i,r=>by obtain ⟨t,rfl⟩:=r;exact ⟨_,.int i t⟩
 | _,_,_,.str x,r=>by obtain ⟨t,rfl⟩:=r;exact ⟨_,.str x t⟩
 | _,_,_,.lst (a:=a) h hs,r=>by
  cases (show _=Value.ref a from r)
  obtain ⟨its,rv,⟨o,n,h1,h2,_,h4⟩,_⟩:=I.list h
  obtain ⟨as,hr⟩:=Dps.reads I hs rv
  exact ⟨_,.list h1 h2 h4 (by simpa using hr)⟩
 | _,_,_,.tup (a:=a) h hs,r=>by
  cases (show _=Value.ref a from r)
  refine bq fun bG=>?_
  obtain ⟨its,rv,⟨o,h1,h2,n,h4⟩,_⟩:=I.tuple h
  obtain ⟨as,hr⟩:=Dps.reads I hs rv
  exact bG (⟨_,.tuple h1 h2 h4 (by simpa using hr)⟩)
theorem Dps.reads (I:Inv X pins σ H s):∀ {vs:List V} {ds:List PyData} {us:List Value},Dps X.K H vs ds→Vals vs us→∃ as,ReadsAll s.heap us ds as
 | _,_,_,.nil,r=>by cases r;exact ⟨_,.nil⟩
 | _,_,_,.cons h hs,r=>by
  cases r with
  | cons r1 r2 =>
   refine bq fun bG=>?_
   obtain ⟨as,h1⟩:=Dp.reads I h r1
   obtain ⟨bs,h2⟩:=Dps.reads I hs r2
   exact bG (⟨_,.cons h1 h2⟩)
end
theorem zp3 (hu:X.A.units+64<cLine):OpR X (compareOp .Eq) (fun x y H Q=>∃ d e,Dp X.K H x d∧Dp X.K H y e∧(d.canLay0&&e.canLay0&&decide (d.depth≤64))=true∧Q (.bl (PyData.eqv d e)) H):=by
 intro pins s σ H x y v u Q I rx ry h
 refine bq fun bG=>?_
 obtain ⟨d,e,hd,he,hc,q⟩:=h
 simp only [Bool.and_eq_true,decide_eq_true_eq] at hc
 obtain ⟨as,r1⟩:=hd.reads I rx
 obtain ⟨bs,r2⟩:=he.reads I ry
 exact bG (SeqAt.compareEq_reads r1 r2 hc.1.1 hc.1.2 (by omega) ⟨.bl _,H,I,rfl,q⟩)
theorem zp2 (hu:X.A.units+64<cLine):OpR X (compareOp .NotEq) (fun x y H Q=>∃ d e,Dp X.K H x d∧Dp X.K H y e∧(d.canLay0&&e.canLay0&&decide (d.depth≤64))=true∧Q (.bl (!PyData.eqv d e)) H):=by
 intro pins s σ H x y v u Q I rx ry h
 refine bq fun bG=>?_
 obtain ⟨d,e,hd,he,hc,q⟩:=h
 simp only [Bool.and_eq_true,decide_eq_true_eq] at hc
 obtain ⟨as,r1⟩:=hd.reads I rx
 obtain ⟨bs,r2⟩:=he.reads I ry
 exact bG (SeqAt.compareNe_reads r1 r2 hc.1.1 hc.1.2 (by omega) ⟨.bl _,H,I,rfl,q⟩)
end
theorem Dps.ints {K:PySem.W.Frag} {H:Hp}:∀ (ns:List Int),Dps K H (ns.map V.int) (ns.map PyData.int)
 | []=>.nil
 | n::r=>.cons (.int n) (Dps.ints r)
theorem zfg:∀ (ns:List Int),PyData.canLayAll0 (ns.map PyData.int)=true
 | []=>by simp [PyData.canLayAll0]
 | n::r=>by simp [PyData.canLayAll0,PyData.canLay0,zfg r]
theorem zae:∀ (ns:List Int),PyData.depthAll (ns.map PyData.int)=0
 | []=>by simp [PyData.depthAll]
 | n::r=>by simp [PyData.depthAll,PyData.depth,zae r]
section
variable {X:Cx}
def zj2:V→List V→Hp→VK→Prop:=fun x vs H Q=>∃ (a:Addr) (kvs:List (Key×V)) (k:Key) (d:V),x=.ref a∧vs=[kV k,d]∧H a=some (.dK kvs)∧kvs.length<sizeLine ∧
 (∀ v,zd5 kvs k=some v→Q v H)∧(zd5 kvs k=none→Q d (upd H a (.dK (zf1 kvs k d))))
theorem zaw:MtM X "dict.setdefault" zj2:=by
 intro pins s σ H x vs v us Q I rx rv h
 obtain ⟨a,kvs,k,d,rfl,rfl,e,hl,h1,h2⟩:=h
 cases rx
 obtain ⟨u,w',rfl,ru,rd⟩:=rv.two
 obtain ⟨z,hd,ws,rel,dd⟩:=zgz I.hok e
 refine call_meetsIn PySem.F.slot_dict_setdefault dd.typeIs PySem.F.entry_dict_setdefault (PySem.F.args_dict_setdefault_3 _ _ _) (kt_meets_setdefault (z16 X.prog X.w) a (zni ru) hd w') ⟨ws,dd,by rw [← rel.length];exact z,fun y hy=>?_,fun hn h' dd' hs=>?_⟩
 ·have q:=rel.val k
  rw [hy] at q
  cases ev:zd5 kvs k with
  | none=>rw [ev] at q;exact q.elim
  | some v0 =>
   rw [ev] at q
   exact ⟨v0,H,I.tok _,q,h1 v0 ev⟩
 ·have q:=rel.val k
  rw [hn] at q
  cases ev:zd5 kvs k with
  | some v0=>rw [ev] at q;exact q.elim
  | none =>
   have hz:(zf1 kvs k d).length≤sizeLine:=by have:=z8c kvs k d;omega
   have he:∃ q,h'.get? a=some q:=let ⟨q,_,_,hq,_⟩:=dd';⟨q,hq⟩
   exact ⟨d,_,zkv (t':=s.toks+1) I (by rw [e];exact True.intro) hs he (zpg hz hd (rel.put k rd) dd'),rd,h2 ev⟩
theorem zr5 {kvs:List (Key×V)} {ws:List (Key×Value)} (rel:KV kvs ws):Vals (kvs.map (·.2)) (ws.map (·.2)):=by
 induction rel with
 | nil=>exact .nil
 | cons r _ ih=>exact .cons r.2 ih
noncomputable def vvO (v d:Addr):HO:=.ext fun h=>h.IsValuesView v d
def zj1:V→List V→Hp→VK→Prop:=fun x vs H Q=>∃ (a:Addr) (kvs:List (Key×V)),x=.ref a∧vs=[]∧H a=some (.dK kvs)∧∀ v,H v=none→Q (.ref v) (upd H v (vvO v a))
theorem zjm:MtM X "dict.values" zj1:=by
 intro pins s σ H x vs v us Q I rx rv h
 obtain ⟨a,kvs,rfl,rfl,e,q⟩:=h
 cases rx
 have:=rv.zero
 subst this
 refine bq fun bG=>?_
 obtain ⟨z,hd,ws,rel,dd⟩:=zgz I.hok e
 refine bG (call_meetsIn PySem.F.slot_dict_values dd.typeIs PySem.F.entry_dict_values (PySem.F.args_dict_values_1 _) (meets_dict_values (z16 X.prog X.w) a hd) ⟨⟨ws,dd⟩,?_⟩)
 have hv:(s.heap.push { cls:=.type "dict_values",data:=.fields #[.ref a] }).IsValuesView s.heap.objs.size a:=⟨_,Heap.get?_push_size _ rfl,rfl,rfl⟩
 refine ⟨.ref s.heap.objs.size,_,I.laid (t':=s.toks) (o:=vvO s.heap.objs.size a) (fun b o q=>Heap.get?_push_of_some _ q) (Nat.le_refl _) ?_,rfl,q _ (I.hok.fresh (Nat.le_refl _))⟩
 exact ⟨hv,⟨_,Heap.get?_push_size _ rfl⟩,fun h1 h2 p k=>let ⟨o,ho,r⟩:=p;⟨o,k o ho,r⟩⟩
theorem z7a:z60 X (.type "list") (fun xs H Q=>∃ (v a:Addr) (kvs:List (Key×V)),xs=[.ref v]∧H v=some (vvO v a)∧H a=some (.dK kvs)∧X.calm=true∧∀ l,H l=none→Q (.ref l) (upd H l (.lst (kvs.map (·.2))))):=by
 intro pins s σ H xs us Q I r h
 obtain ⟨v,a,kvs,rfl,hv,e,hc,q⟩:=h
 obtain ⟨u,rfl,ru⟩:=z96 r
 cases ru
 obtain ⟨z,hd,ws,rel,dd⟩:=zgz I.hok e
 obtain ⟨hvv,_,_⟩:s.heap.IsValuesView v a∧_∧_:=I.hok v _ hv
 obtain ⟨ep,hat⟩:=dd.dictAt
 refine PySem.W.kdl_call (PySem.W.kdl_values (knd:=z16 X.prog X.w) (kvs:=ws) (ep:=ep)) (I.ok.hd hc) ⟨hvv,hat⟩ (by rw [← rel.length];exact z) fun h' tk acc' c' hk hD hacc=>?_
 have ev:acc'.toList=ws.map (·.2):=PySem.W.kdl_vals_eq acc'.toList (by rw [Array.length_toList];exact hacc.1) fun j v ej=>hacc.2 j v (by rw [← Array.getElem?_toList];exact ej)
 have rv:Vals (kvs.map (·.2)) (ws.map (·.2)):=zr5 rel
 refine ⟨.ref s.heap.objs.size,_,I.laid (t':=tk) (o:=.lst (kvs.map (·.2))) hk (Nat.le_refl _) ?_,rfl,q _ (I.hok.fresh (Nat.le_refl _))⟩
 refine ⟨by rw [List.length_map];exact z,ws.map (·.2),c',rv,?_⟩
 rw [← ev]
 exact hD
end
noncomputable def Df (P:Program) (w:World) (K:PySem.W.Frag) (mg:Str→Option Value) (base:Heap) (k:Nat) (x:Str) (ps:List Str) (sp:Sp):Prop :=
 ∃ f fd,FnOk P w K mg base CX0 k f fd ps sp∧Binds K fd ps []∧PySem.W.keepIn K (.ref f)=true∧mg x=some (.ref f)
section
variable {P:Program} {w:World} {K:PySem.W.Frag} {mg:Str→Option Value} {base:Heap} {j k:Nat} {x:Str} {ps:List Str} {sp sp':Sp}
end
section
variable {X:Cx} {k:Nat} {x:Str} {ps:List Str} {sp:Sp} {e:Expr} {es:List Expr} {t:TA} {p pos:Pos}
theorem ztz (D:Df X.prog X.w X.K X.mg X.base k x ps sp) (hr:Room k X.A) (ha:PA X (e::es) t) (hg:Gl X x:=by rfl) (hdb:(x==("__debug__" : Str))=false:=by decide)
  (he:starEach (e::es) X.env=(false,eval e X.env)::starEach es X.env:=by rfl) (hpl:(backTo pos (starEach es X.env)).any (·.1)=false:=by rfl) :
  PE X (.Call (.Name x p) (e::es) [] pos) (fun σ H Q=>t σ H fun vs H1=>sp vs H1 Q E0):=by
 obtain ⟨f,fd,F,hb,hk,hm⟩:=D
 intro pins s σ H Q I h
 exact zqv F hr hg hm hk hb .nil zwr ha hdb he hpl pins s σ H Q I (by unfold zst;simpa using h)
end
section
variable {X:Cx}
end
def But (p:Addr) (H H':Hp):Prop:=∀ b o,b≠p→H b=some o→H' b=some o
section
variable {p:Addr} {H H' H'':Hp}
end
theorem z41 {n:Nat} (h:n≤1000000):n≤sizeLine:=by rw [sizeLine_eq];omega
theorem z8a {n:Nat} (h:n≤1000000):n<sizeLine:=by rw [sizeLine_eq];omega
noncomputable def zph (N:List Str) (names:List (Str×NameKind)) (own:List Str) (cap:List (Str×Nat)) (scope:Scope):Bool :=
 (scope.kind==.function)&&scope.names.all (fun y=>(y.2 != .cell||scope.names.lookup y.1==some .cell)&&(y.2 != .local||scope.names.lookup y.1==some .local)&&(y.2 != .free||scope.names.lookup y.1==some .free)&&(y.2 != .free||(names.lookup y.1==some .cell||names.lookup y.1==some .free)))
 && cap.all fun p=>N[p.2]?==some p.1&&scope.names.lookup p.1==some .free&&(names.lookup p.1==some .cell||names.lookup p.1==some .free)
theorem z1o {X:Cx} {own:List Str} {cap:List (Str×Nat)} {scope:Scope} (h:zph X.N X.env.scope.names own cap scope=true):CompScope X (own++cap.map (·.1)) own cap scope:=by
 unfold zph at h
 simp only [Bool.and_eq_true,List.all_eq_true,Bool.or_eq_true,bne_iff_ne,beq_iff_eq] at h
 refine bq fun bG=>?_
 obtain ⟨⟨h1,h2⟩,h3⟩:=h
 exact bG (⟨h1,fun y hy hl=>(h2 y hy).1.1.1.resolve_left fun z=>z hl,fun y hy hl=>(h2 y hy).1.2.resolve_left fun z=>z hl,fun y hy hl=>(h2 y hy).1.1.2.resolve_left fun z=>z hl,fun y hy hl=>(h2 y hy).2.resolve_left fun z=>z hl,rfl,fun p hp=>⟨(h3 p hp).1.1,(h3 p hp).1.2,(h3 p hp).2⟩⟩)
section
variable {X:Cx} {a b e o:Expr} {es:List Expr} {ta tb te to:TE} {t:TA} {p pos:Pos}
theorem zyu (K:PySem.W.Frag) (ml:X.mg "len" = none) (ha:PE X a ta) (hg:Gl X "len" := by rfl) (hs:starEach [a] X.env=[(false,eval a X.env)]:=by rfl) (hK:X.K=K:=by rfl) :
  PE X (.Call (.Name "len" p) [a] [] pos) (fun σ H Q=>ta σ H fun x H1=>∃ p ys,[x]=[V.ref p]∧(SqL K H1 p ys∨SqT K H1 p ys)∧Q (.int ys.length) H1):=by
 subst hK
 exact z39 zcv hg ml PySem.boot_len (z0q ha z1g hs) (he:=hs)
theorem zxb (K:PySem.W.Frag) (ml:X.mg "list" = none) (ha:PE X a ta) (hg:Gl X "list" := by rfl) (hs:starEach [a] X.env=[(false,eval a X.env)]:=by rfl) (hK:X.K=K:=by rfl) :
  PE X (.Call (.Name "list" p) [a] [] pos) (fun σ H Q=>ta σ H fun x H1=>∃ p ys,[x]=[V.ref p]∧(SqL K H1 p ys∨SqT K H1 p ys)∧∀ l,H1 l=none→Q (.ref l) (upd H1 l (.lst ys))):=by
 subst hK
 exact z67 zcu hg ml rfl (z0q ha z1g hs) (he:=hs)
theorem zys (ml:X.mg "min" = none) (ha:PE X a ta) (hb:PE X b tb) (hc:X.calm=true:=by rfl) (hg:Gl X "min" := by rfl) (hs:starEach [a,b] X.env=[(false,eval a X.env),(false,eval b X.env)]:=by rfl) (hs2:starEach [b] X.env=[(false,eval b X.env)]:=by rfl) :
  PE X (.Call (.Name "min" p) [a,b] [] pos) (fun σ H Q=>ta σ H fun x H1=>tb σ H1 fun y H2=>∃ i j,[x,y]=[.int i,.int j]∧Q (.int (if j<i then j else i)) H2):=by
 exact z39 (zl2 hc) hg ml rfl (z0q ha (z0q hb z1g hs2) (by rw [hs,hs2])) (he:=by rw [hs,hs2]) (hpl:=by rw [hs2];rfl)
theorem zyt (ml:X.mg "max" = none) (ha:PE X a ta) (hb:PE X b tb) (hc:X.calm=true:=by rfl) (hg:Gl X "max" := by rfl) (hs:starEach [a,b] X.env=[(false,eval a X.env),(false,eval b X.env)]:=by rfl) (hs2:starEach [b] X.env=[(false,eval b X.env)]:=by rfl) :
  PE X (.Call (.Name "max" p) [a,b] [] pos) (fun σ H Q=>ta σ H fun x H1=>tb σ H1 fun y H2=>∃ i j,[x,y]=[.int i,.int j]∧Q (.int (if j > i then j else i)) H2):=by
 exact z39 (zl3 hc) hg ml rfl (z0q ha (z0q hb z1g hs2) (by rw [hs,hs2])) (he:=by rw [hs,hs2]) (hpl:=by rw [hs2];rfl)
theorem iL (K:PySem.W.Frag) {tg:Expr} (ha:PE X a ta) (hK:X.K=K:=by rfl):PI X tg a (zv6 K ta):=by subst hK;exact zjh ha
theorem iR (mr:X.mg "range" = none) {tg:Expr} (ha:PE X a ta) (hg:Gl X "range" := by rfl) (hs:starEach [a] X.env=[(false,eval a X.env)]:=by rfl):PI X tg (.Call (.Name "range" p) [a] [] pos) (zv5 (z64 ta zi8)):=zjg hg mr (z0q ha z1g hs) hs
theorem zyx (K:PySem.W.Frag) {apos:Pos} (ho:PE X o to) (ha:PE X a ta) (hs:starEach [a] X.env=[(false,eval a X.env)]:=by rfl)
  (hbase:attributeBase o "append" X.env (eval o X.env)=eval o X.env:=by rfl) (hline:(apos.endLine==pos.line)=true:=by rfl) (hK:X.K=K:=by rfl)
  (hfew:((backTo pos (starEach [a] X.env)).all (fun x=>!x.1)&&(backToKw pos (keywordEach [] X.env)).all (fun x=>x.1.isSome)
   && decide ([a].length+([]:List Keyword).length+(if ([]:List Keyword).isEmpty then 0 else 1)<30))=true:=by rfl) :
  PE X (.Call (.Attribute o "append" apos) [a] [] pos) (tBM K "list" zj4 to (z64 ta zi8)):=by
 subst hK
 exact zn3 PySem.F.plainAttrs_list PySem.F.slot_list_append PySem.F.type_list_append z87 ho (z0q ha z1g hs) hbase hfew hline hs
theorem zvi (K:PySem.W.Frag) {apos:Pos} (ho:PE X o to) (ha:PE X a ta) (hs:starEach [a] X.env=[(false,eval a X.env)]:=by rfl)
  (hbase:attributeBase o "pop" X.env (eval o X.env)=eval o X.env:=by rfl) (hline:(apos.endLine==pos.line)=true:=by rfl) (hK:X.K=K:=by rfl)
  (hfew:((backTo pos (starEach [a] X.env)).all (fun x=>!x.1)&&(backToKw pos (keywordEach [] X.env)).all (fun x=>x.1.isSome)
   && decide ([a].length+([]:List Keyword).length+(if ([]:List Keyword).isEmpty then 0 else 1)<30))=true:=by rfl) :
  PE X (.Call (.Attribute o "pop" apos) [a] [] pos) (tBM K "list" zoq to (z64 ta zi8)):=by
 subst hK
 exact zn3 PySem.F.plainAttrs_list PySem.F.slot_list_pop PySem.F.type_list_pop zn9 ho (z0q ha z1g hs) hbase hfew hline hs
end
def Pot (H:Hp) (p:Addr):Prop:=∃ a b c:Int,H p=some (.lst [.int a,.int b,.int c])
structure Drawn (p:Addr) (H H':Hp):Prop where
 but:But p H H'
 pot:Pot H' p
section
variable {p q:Addr} {H H' H'':Hp}
end
theorem zvm {xs:List V} {r:Int} (h0:0≤r) (h1:r<(xs.length:Int)):atI xs r=some (xs[r.toNat]'(by omega)):=by
 have hk:r.toNat<xs.length:=by omega
 have:=zru (xs:=xs) (j:=r.toNat) (v:=xs[r.toNat]) (by simp [hk])
 have er:((r.toNat:Nat):Int)=r:=by omega
 rw [er] at this
 exact this
theorem zsw {n:Nat} {r:Int} (h0:0≤r) (h1:r<(n:Int)):seqIndex? r n=some r.toNat:=seqIndex_of h0 h1
section
variable {X:Cx} {a:Expr} {ta:TE} {p pos:Pos}
theorem zyv (K:PySem.W.Frag) (ml:X.mg "isinstance" = none) {b:Expr} {tb:TE} (ha:PE X a ta) (hb:PE X b tb) (hg:Gl X "isinstance" := by rfl) (hs:starEach [a,b] X.env=[(false,eval a X.env),(false,eval b X.env)]:=by rfl) (hs2:starEach [b] X.env=[(false,eval b X.env)]:=by rfl) (hK:X.K=K:=by rfl) :
  PE X (.Call (.Name "isinstance" p) [a,b] [] pos) (fun σ H Q=>ta σ H fun x H1=>tb σ H1 fun y H2=>∃ (x':V) (t:String) (c:String),[x,y]=[x',.ty c]∧TyN K H2 x' t∧clNames.contains c=true∧Q (.bl (zic t c)) H2):=by
 subst hK
 exact z39 zo1 hg ml rfl (z0q ha (z0q hb z1g hs2) (by rw [hs,hs2])) (he:=by rw [hs,hs2]) (hpl:=by rw [hs2];rfl)
theorem zxd (K:PySem.W.Frag) (ml:X.mg "isinstance" = none) {b:Expr} {tb:TE} (ha:PE X a ta) (hb:PE X b tb) (hg:Gl X "isinstance" := by rfl) (hs:starEach [a,b] X.env=[(false,eval a X.env),(false,eval b X.env)]:=by rfl) (hs2:starEach [b] X.env=[(false,eval b X.env)]:=by rfl) (hK:X.K=K:=by rfl) :
  PE X (.Call (.Name "isinstance" p) [a,b] [] pos) (fun σ H Q=>ta σ H fun x H1=>tb σ H1 fun y H2=>∃ (x':V) (t:String) (p:Addr) (cs:List String),[x,y]=[x',.ref p]∧SqT K H2 p (cs.map V.ty)∧TyN K H2 x' t∧cs.all clNames.contains=true∧Q (.bl (cs.any (zic t))) H2):=by
 subst hK
 exact z39 zl4 hg ml rfl (z0q ha (z0q hb z1g hs2) (by rw [hs,hs2])) (he:=by rw [hs,hs2]) (hpl:=by rw [hs2];rfl)
theorem gT (K:PySem.W.Frag) {es:List Expr} {k:Nat} {t:TGs} {n:Nat} (h:PGs X es t) (hc:X.calm=true:=by rfl) (hn:(assignEach es X.env).length=n:=by rfl) (hst:(assignEach es X.env).findIdx? (·.1)=none:=by rfl) (hK:X.K=K:=by rfl) :
  PG X (.Tuple es k pos) (zxx K n t):=by subst hK;exact ztr hc h hn hst
theorem zyr (K:PySem.W.Frag) {p2 p3 p4:Pos} {j:Nat} (he:PE X a ta) (hK:X.K=K:=by rfl) :
  PE X (.Subscript a (.Slice none none (some (.UnaryOp .USub (.Constant (.int 1) j p4) p3)) p2) pos) (fun σ H Q=>ta σ H fun x H1=>∃ (q:Addr) (xs:List V),x=.ref q∧SqL K H1 q xs∧∀ p,H1 p=none→Q (.ref p) (upd H1 p (.lst xs.reverse))):=by
 subst hK;exact ztu he
theorem iEn (K:PySem.W.Frag) (ml:X.mg "enumerate" = none) {elts:List Expr} {k:Nat} {tpos:Pos} (ha:PE X a ta) (hg:Gl X "enumerate" := by rfl) (hs:starEach [a] X.env=[(false,eval a X.env)]:=by rfl) (hK:X.K=K:=by rfl) :
  PI X (.Tuple elts k tpos) (.Call (.Name "enumerate" p) [a] [] pos) (zv8 K (z64 ta zi8)):=by
 subst hK;exact zqn hg ml (z0q ha z1g hs) hs
end
section
variable {K:PySem.W.Frag} {g:TG} {te:TE} {D:Addr} {σ0:St} {H0:Hp} {Z:Hp→Prop}
end
theorem zwm {xs:List V} {Pd:V→Prop} {r:Int} (h:∀ x∈xs,Pd x) (h0:0≤r) (h1:r<(xs.length:Int)):∃ v,atI xs r=some v∧Pd v :=
 ⟨_,zvm h0 h1,h _ (List.getElem_mem _)⟩
section
variable {X:Cx} {a b o:Expr} {ta tb to:TE} {p pos:Pos}
theorem zrl (K:PySem.W.Frag) {apos:Pos} (ho:PE X o to) (ha:PE X a ta) (hb:PE X b tb) (hs:starEach [a,b] X.env=[(false,eval a X.env),(false,eval b X.env)]:=by rfl) (hs2:starEach [b] X.env=[(false,eval b X.env)]:=by rfl)
  (hbase:attributeBase o "setdefault" X.env (eval o X.env)=eval o X.env:=by rfl) (hline:(apos.endLine==pos.line)=true:=by rfl) (hK:X.K=K:=by rfl)
  (hfew:((backTo pos (starEach [a,b] X.env)).all (fun x=>!x.1)&&(backToKw pos (keywordEach [] X.env)).all (fun x=>x.1.isSome)
   && decide ([a,b].length+([]:List Keyword).length+(if ([]:List Keyword).isEmpty then 0 else 1)<30))=true:=by rfl) :
  PE X (.Call (.Attribute o "setdefault" apos) [a,b] [] pos) (tBM K "dict" zj2 to (z64 ta (z64 tb zi8))):=by
 subst hK
 exact zn3 PySem.F.plainAttrs_dict PySem.F.slot_dict_setdefault PySem.F.type_dict_setdefault zaw ho (z0q ha (z0q hb z1g hs2) (by rw [hs,hs2])) hbase hfew hline (by rw [hs,hs2]) (by rw [hs2];rfl)
theorem znw (K:PySem.W.Frag) {apos:Pos} (ho:PE X o to) (hbase:attributeBase o "values" X.env (eval o X.env)=eval o X.env:=by rfl) (hline:(apos.endLine==pos.line)=true:=by rfl) (hK:X.K=K:=by rfl) :
  PE X (.Call (.Attribute o "values" apos) [] [] pos) (zwe K "dict" zj1 to):=by
 subst hK
 exact zp1 PySem.F.plainAttrs_dict PySem.F.slot_dict_values PySem.F.type_dict_values zjm ho hbase hline
end
noncomputable abbrev Cel:=Int×List Int×Addr
noncomputable def gs (cs:List Cel):List (Int×List Int):=cs.map fun c=>(c.1,c.2.1)
section
variable {K:PySem.W.Frag} {H H':Hp}
theorem Dps.len:∀ {vs:List V} {ds:List PyData},Dps K H vs ds→vs.length=ds.length
 | _,_,.nil=>rfl
 | _,_,.cons _ hs=>congrArg (·+1) (Dps.len hs)
theorem Dps.get:∀ {vs:List V} {ds:List PyData} {i:Nat} {v:V},Dps K H vs ds→vs[i]?=some v→∃ d,ds[i]?=some d∧Dp K H v d
 | _,_,_,_,.nil,h=>by simp at h
 | _,_,0,_,.cons (d:=d) h hs,e=>by
  have:_=_:=Option.some.inj e
  subst this
  exact ⟨d,rfl,h⟩
 | _,_,i+1,_,.cons h hs,e=>Dps.get (i:=i) hs e
end
mutual
noncomputable def li:PyData→Bool
 | .int _=>true
 | .list ds=>zuj ds
 | _=>false
noncomputable def zuj:List PyData→Bool
 | []=>true
 | d::r=>li d&&zuj r
end
section
variable {X:Cx} {a b:Expr} {ta tb:TE} {p pos:Pos}
end
def IsMax (M:Int) (l:List Int):Prop:=M∈l∧∀ a∈l,a≤M
theorem IsMax.step {M x:Int} {l:List Int} (h:IsMax M l):IsMax (if x > M then x else M) (l++[x]):=by
 refine bq fun bG=>?_
 obtain ⟨h1,h2⟩:=h
 refine bG (⟨?_,fun a ha=>?_⟩)
 ·split
  ·simp
  ·exact List.mem_append_left _ h1
 ·rcases List.mem_append.mp ha with z | z
  ·have:=h2 a z
   split <;> omega
  ·have:a=x:=by simpa using z
   subst this
   split <;> omega
def zy2 (ns:List Int) (j:Nat):Option Value→Prop
 | none=>j=0
 | some v=>∃ M t,v=.int M t∧IsMax M (ns.take j)
noncomputable def zl7:Option Value→Array Value
 | none=>#[]
 | some v=>#[v,v]
theorem zfj:∀ {vs:List Value} {ns:List Int} {j:Nat} {v:Value},IntsAre vs ns→vs[j]?=some v→∃ t,v=.int (ns.getD j 0) t
 | _,_,_,_,.nil,h=>by simp at h
 | _,_,0,_,.cons n t _,h=>⟨t,(Option.some.inj h).symm⟩
 | _,_,j+1,_,.cons n t r,h=>by
  refine bq fun bG=>?_
  obtain ⟨t',e⟩:=zfj (j:=j) r h
  exact bG (⟨t',by simpa using e⟩)
theorem ze0 (a d:Value):argsOk "max" ⟨[a],[("default",d)]⟩:=by unfold argsOk;kernel_rfl
section
variable {prog:Program} {w:World} {A:Around} {R:Result→Shared→Prop} {I l:Addr} {items:Array Value} {ns:List Int} {d:Value}
theorem zjp (hh:A.in1.handled=none) (hne:l≠I) (hi:IntsAre items.toList ns) (S:Addr) (hSI:S≠I) (hSl:S≠l) :
  ∀ (k j:Nat) (s:Shared) (b:Option Value) (c:Nat),items.size - j=k→j≤items.size→s.heap.IsListIter I l j→s.heap.IsList l items→zy2 ns j b →
   s.heap.get? S=some { cls:=.type "list",dict:=none,data:=.seq (zl7 b) c,slots:=#[] } →
   (∀ v h' tk,((ns=[]∧v=d)∨∃ M t,v=.int M t∧IsMax M ns)→(∀ x o,x≠I→x≠S→s.heap.get? x=some o→h'.get? x=some o)→R (.ok (.ret v)) { s with heap:=h',toks:=tk }) →
   codeAny (model prog w) A (.builtin "max.loop" ⟨[.ref I,.none,.ref S],[("default",d)]⟩) R s:=by
 have hnm:(toString "max" ++ toString ".loop" : String) = "max.loop" := by decide
 have hlen:ns.length=items.size:=by have:=hi.length;rw [Array.length_toList] at this;omega
 have W:=Walks.list (prog:=prog) (w:=w) hh I l hne items
 intro k
 induction k with
 | zero =>
  intro j s b c hk hj st1 st2 hb hS hR
  have ej:j=items.size:=by omega
  subst ej
  refine codeAny_builtin (F.entry_max_loop) (by
   rw [Around.under_plainId F.plain_max_loop]
   show wpAny _ A.in1 (seqItems? (.ref S) >>= fun _=>_) _ _ s
   refine wpAny_bind (wpAny_seqItems hS rfl (?_:wpAny _ A.in1 (tryCatch (pyNext (.ref I)) (fun _=>_) >>= fun _=>_) _ _ s))
   refine wpAny_bind (wpAny_tryCatch (W.done s _ _ ⟨st1,st2⟩ fun h' tk keep=>?_))
   have kS:=keep S _ (by simpa using hSI) hS
   cases b with
   | none =>
    have hb0:items.size=0:=hb
    have hn:ns=[]:=List.length_eq_zero_iff.mp (by omega)
    show wpAny _ A.in1 (rule _ >>= fun _=>ret d) _ _ _
    exact wpAny_bind (wpAny_rule (wpAny_pure (hR d h' tk (.inl ⟨hn,rfl⟩) fun x o n1 _ e=>keep x o (by simpa using n1) e)))
   | some v =>
    obtain ⟨M,t,rfl,hM⟩:=hb
    have htk:ns.take items.size=ns:=List.take_of_length_le (by omega)
    rw [htk] at hM
    show wpAny _ A.in1 (updateSeq S (fun _=>#[]) >>= fun _=>_) _ _ _
    refine wpAny_bind (wpAny_updateSeq (hz:=by show 2≤sizeLine;decide) kS rfl (wpAny_bind (wpAny_letGo (wpAny_pure (hR _ _ tk (.inr ⟨M,t,rfl,hM⟩) fun x o n1 n2 e=>?_)))))
    exact (Heap.get?_update_other _ _ (Ne.symm n2)).trans (keep x o (by simpa using n1) e))
 | succ k ih =>
  intro j s b c hk hj st1 st2 hb hS hR
  have hlt:j<items.size:=by omega
  refine codeAny_builtin (F.entry_max_loop) (by
   rw [Around.under_plainId F.plain_max_loop]
   show wpAny _ A.in1 (seqItems? (.ref S) >>= fun _=>_) _ _ s
   refine wpAny_bind (wpAny_seqItems hS rfl (?_:wpAny _ A.in1 (tryCatch (pyNext (.ref I)) (fun _=>_) >>= fun _=>_) _ _ s))
   refine wpAny_bind (wpAny_tryCatch (W.item j s _ _ hlt ⟨st1,st2⟩ fun v h' tk hv st' keep=>?_))
   have kS:=keep S _ (by simpa using hSI) hS
   have hx:∃ t,v=.int (ns.getD j 0) t:=by
    exact zfj hi (by rw [Array.getElem?_toList];exact hv)
   obtain ⟨t,rfl⟩:=hx
   have htk:ns.take (j+1)=ns.take j++[ns.getD j 0]:=by
    rw [List.take_add_one,List.getD_eq_getElem?_getD,List.getElem?_eq_getElem (by omega)]
    rfl
   have goOn:∀ (b':Option Value) (h2:Heap) (c':Nat),zy2 ns (j+1) b'→h2.get? S=some { cls:=.type "list",dict:=none,data:=.seq (zl7 b') c',slots:=#[] } →
     (∀ x o,x≠S→h'.get? x=some o→h2.get? x=some o)→codeAny (model prog w) A (.builtin "max.loop" ⟨[.ref I,.none,.ref S],[("default",d)]⟩) R { s with heap:=h2,toks:=tk }:=fun b' h2 c' hb' hS' k2=>by
    refine ih (j+1) _ b' c' (by omega) hlt (st'.1.at fun o e=>k2 I o (Ne.symm hSI) e) (st'.2.at fun o e=>k2 l o (Ne.symm hSl) e) hb' hS' fun v' h3 tk3 hv' k3=>hR v' h3 tk3 hv' fun x o n1 n2 e=>?_
    exact k3 x o n1 n2 (k2 x o n2 (keep x o (by simpa using n1) e))
   cases b with
   | none =>
    have hb0:j=0:=hb
    subst hb0
    show wpAny _ A.in1 (updateSeq S (fun _=>#[Value.int (ns.getD 0 0) t,Value.int (ns.getD 0 0) t]) >>= fun _=>_) _ _ _
    refine wpAny_bind (wpAny_updateSeq kS rfl ?_)
    rw [hnm]
    refine wpAny_pure ⟨plainId_quiet F.plain_max_loop _,goOn (some (.int (ns.getD 0 0) t)) _ _ ⟨_,t,rfl,?_⟩ (Heap.get?_update_self _ kS rfl) fun x o n e=>(Heap.get?_update_other _ _ (Ne.symm n)).trans e⟩
    rw [htk]
    exact ⟨by simp,fun a ha=>by
     have:a=ns.getD 0 0:=by simpa using ha
     omega⟩
   | some vb =>
    obtain ⟨M,tb,rfl,hM⟩:=hb
    show wpAny _ A.in1 (tryCatch (holding [Value.int (ns.getD j 0) t,Value.int (ns.getD j 0) t] (richCompare .Gt (.int (ns.getD j 0) t) (.int M tb) >>= fun _=>_)) (fun _=>_) >>= fun _=>_) _ _ _
    refine wpAny_bind (wpAny_tryCatch (wpAny_holding (wpAny_bind ?_)))
    refine richCompare_gives (op:=.Gt) (typeIs_int _ _ t) (typeIs_int _ _ tb) F.slot_int_gt F.entry_int_gt (F.args_int_gt_2 _ _) (gives_int_gt _ _ t tb) (fun x=>nomatch x) ?_
    refine wpAny_bind (wpAny_holding (wpAny_truthy_bool (wpAny_bind (wpAny_letGo (wpAny_pure ?_)))))
    have hst:=hM.step (x:=ns.getD j 0)
    rw [← htk] at hst
    by_cases hgt:ns.getD j 0 > M
    ·rw [if_pos hgt] at hst
     rw [if_pos (decide_eq_true hgt)]
     refine wpAny_bind (wpAny_updateSeq (hz:=by show 2≤sizeLine;decide) kS rfl (wpAny_bind (wpAny_letGo ?_)))
     rw [hnm]
     exact wpAny_pure ⟨plainId_quiet F.plain_max_loop _,goOn (some (.int (ns.getD j 0) t)) _ _ ⟨_,t,rfl,hst⟩ (Heap.get?_update_self _ kS rfl) fun x o n e=>(Heap.get?_update_other _ _ (Ne.symm n)).trans e⟩
    ·rw [if_neg hgt] at hst
     rw [if_neg (by simpa using hgt)]
     refine wpAny_bind (wpAny_letGo ?_)
     rw [hnm]
     exact wpAny_pure ⟨plainId_quiet F.plain_max_loop _,goOn (some (.int M tb)) _ _ ⟨_,tb,rfl,hst⟩ kS fun x o _ e=>e⟩)
theorem zdz {E:Value→Shared→Prop} {s:Shared} {Q:Value→Shared→Prop} {vs:List Value} (hh:A.handled=none) (hl:s.heap.IsList l vs.toArray) (hi:IntsAre vs ns)
  (h:∀ v h' tk,((ns=[]∧v=d)∨∃ M t,v=.int M t∧IsMax M ns)→(∀ b o,s.heap.get? b=some o→h'.get? b=some o)→Q v { s with heap:=h',toks:=tk }) :
  wpAny (model prog w) A (call (.builtin "max") [.ref l] [("default",d)]) Q E s:=by
 have hnm:(toString "max" ++ toString ".loop" : String) = "max.loop" := by decide
 obtain ⟨ol,el,_⟩:=id hl
 have llt:l<s.heap.objs.size:=Heap.lt_size el
 have body:wpAny (model prog w) A.in1 (Builtin.«max» ⟨[.ref l],[("default",d)]⟩) (fun fin s'=>match fin with
   | .done f=>(match (Except.ok f:Result) with | .ok (.ret v)=>Q v s' | .ok _=>False | .error e=>E e s')
   | .again c'=>c'.quiet=true∧codeAny (model prog w) A c' (fun r s'=>match r with | .ok (.ret v)=>Q v s' | .ok _=>False | .error e=>E e s') s') E s:=by
  show wpAny _ A.in1 (Builtin.Builtins.bindParams "max" ["key", "default"] 0 ⟨[],[("default",d)]⟩ >>= fun _=>_) _ _ s
  refine wpAny_bind (wpAny_of_eq (show Builtin.Builtins.bindParams "max" ["key", "default"] 0 ⟨[],[("default",d)]⟩=pure [none,some d] from by with_unfolding_all rfl) (wpAny_bind (wpAny_pure ?_)))
  refine wpAny_bind (wpAny_pyIter_list hl ?_)
  refine wpAny_bind (wpAny_newObj_type ?_)
  rw [hnm]
  refine wpAny_pure ⟨plainId_quiet F.plain_max_loop _,?_⟩
  have e1:(s.heap.push { cls:=.type "list_iterator",data:=.fields #[.ref l,.int 0 0] }).objs.size=s.heap.objs.size+1:=Heap.size_push ..
  refine zjp (I:=s.heap.objs.size) (l:=l) (items:=vs.toArray) (ns:=ns) (d:=d) hh (Nat.ne_of_lt llt) (by simpa using hi) _ (by rw [e1];exact Nat.ne_of_gt (Nat.lt_succ_self _)) (by rw [e1];exact Nat.ne_of_gt (Nat.lt_succ_of_lt llt)) _ 0 _ none 0 rfl (Nat.zero_le _)
   ⟨_,Heap.get?_push_of_some _ (Heap.get?_push_size _ rfl),rfl,rfl⟩ ((hl.push _).push _) rfl (Heap.get?_push_size _ rfl) fun v h' tk hv kp=>?_
  refine h v h' tk hv fun b o e=>kp b o (Nat.ne_of_lt (Heap.lt_size e)) (by rw [e1];exact Nat.ne_of_lt (Nat.lt_succ_of_lt (Heap.lt_size e))) (Heap.get?_push_of_some _ (Heap.get?_push_of_some _ e))
 refine wpAny_call (codeAny_call_builtin F.plain_max F.entry_max ?_)
 simp only [checkBuiltinCall,F.kind_max]
 have ha:=ze0 (.ref l) d
 cases hsig:Manifest.signature? "max" with
 | none=>exact wpAny_pure body
 | some sig =>
  simp only [argsOk,hsig] at ha
  have h2:Bind.checkArgs "max" sig ⟨[.ref l],[("default",d)]⟩=pure ():=ha
  show wpAny _ A.in1 (Bind.checkArgs "max" sig ⟨[.ref l],[("default",d)]⟩) _ _ s
  rw [h2]
  exact wpAny_pure body
end
section
variable {X:Cx} {a b:Expr} {ta tb:TE} {p pos kp:Pos}
theorem zrm (K:PySem.W.Frag) (mm:X.mg "max" = none) (ha:PE X a ta) (hb:PE X b tb) (hc:X.calm=true:=by rfl) (hg:Gl X "max" := by rfl) (hs:starEach [a] X.env=[(false,eval a X.env)]:=by rfl) (hK:X.K=K:=by rfl)
  (hall:(backToKw pos (keywordEach [⟨some "default",b,kp⟩] X.env)).all (·.1.isSome)=true:=by rfl) (hks:(backToKw pos (keywordEach [⟨some "default",b,kp⟩] X.env)).filterMap (·.1)=([Str.ofString "default"]:List Str):=by rfl)
  (hno:(backToKw pos (keywordEach [⟨some "default",b,kp⟩] X.env)).any (·.1.isNone)=false:=by rfl) :
  PE X (.Call (.Name "max" p) [a] [⟨some "default",b,kp⟩] pos) (fun σ H Q=>ta σ H fun x H1=>tb σ H1 fun y H2=>∃ (q:Addr) (ns:List Int) (j:Int),x=.ref q∧y=.int j∧SqL K H2 q (ns.map V.int)∧(ns=[]→Q (.int j) H2)∧∀ M,IsMax M ns→Q (.int M) H2):=by
 subst hK
 intro pins s σ H Q I h
 have hb1:backTo pos (starEach [a] X.env)=[(false,eval a X.env)]:=by rw [hs];rfl
 refine wpAny_Call_Name_kw (z76 I hg mm (u:=.builtin "max") rfl (callWith_builtin_kwB (by rw [hb1];rfl) hno ?_))
 rw [hb1]
 refine evalArgs_kwB hall (Calls.spliced_cons (thn (ha pins s σ H _ I h) fun u s1 ⟨x,H1,I1,r1,q1⟩=>Calls.spliced_nil ?_))
 refine kws_cons (thn (hb pins s1 σ H1 _ I1 q1) fun u2 s2 ⟨y,H2,I2,r2,q2⟩=>kws_nil ?_)
 obtain ⟨q,ns,j,rfl,rfl,hq,hz,hm⟩:=q2
 cases r1
 obtain ⟨t,rfl⟩:=r2
 obtain ⟨its,rv,pl,_⟩:=I2.list hq
 rw [hks]
 refine zdz (d:=.int j t) (I2.ok.hd hc) pl.isList (z6s rv) fun v h' tk hv kp'=>?_
 rcases hv with ⟨e,rfl⟩ | ⟨M,t',rfl,hM⟩
 ·exact ⟨.int j,H2,I2.kept kp',⟨_,rfl⟩,hz e⟩
 ·exact ⟨.int M,H2,I2.kept kp',⟨_,rfl⟩,hm M hM⟩
end
section
variable {X:Cx} {a b e o:Expr} {ta tb te to:TE} {p pos:Pos}
theorem zl5:z60 X (.type "int") (fun xs H Q=>∃ k,xs=[V.bl k]∧Q (.int (if k then 1 else 0)) H):=fun pins s σ H xs us Q I r h=>zl6 pins s σ H xs us Q I r (.inr h)
theorem zyw (ml:X.mg "int" = none) (ha:PE X a ta) (hg:Gl X "int" := by rfl) (hs:starEach [a] X.env=[(false,eval a X.env)]:=by rfl) :
  PE X (.Call (.Name "int" p) [a] [] pos) (fun σ H Q=>ta σ H fun x H1=>∃ k,[x]=[V.bl k]∧Q (.int (if k then 1 else 0)) H1) :=
 z67 zl5 hg ml rfl (z0q ha z1g hs) (he:=hs)
theorem zsq (K:PySem.W.Frag) (ha:PE X a ta) (hb:PE X b tb) (hm:behindInMarks .NotIn b=false:=by rfl) (hK:X.K=K:=by rfl):PT X (.Compare a [.NotIn] [b] pos) (zmb (tOp (rIn K true) ta tb)):=by
 subst hK;exact zjb zbw ha hb hm
end
noncomputable abbrev Ask:=Nat×Nat×Bool
section
variable {X:Cx} {pos:Pos}
end
section
variable {n:Nat} {p q:Addr} {H H' H'':Hp}
end
section
variable {X:Cx}
theorem zn4:OpR X (binaryOp .FloorDiv) (rI (fun _ j=>0<j∧j<2 ^ 200) fun i j=>.int (i / j)):=opI fun i j _ _ _ _ _ hc q=>by
 obtain ⟨h1,h2⟩:=hc
 refine floordiv_int (by omega) (by rw [Int.fdiv_eq_ediv_of_nonneg i (by omega)];exact q) (.inl (PyProof.noPylong_of_log2 ?_))
 have h3:j.natAbs≠0:=by omega
 have h4:j.natAbs<2 ^ 200:=by
  have:((j.natAbs:Nat):Int)=j:=by omega
  have h5:((j.natAbs:Nat):Int)<((2 ^ 200:Nat):Int):=by rw [this];exact_mod_cast h2
  omega
 have:=(Nat.log2_lt h3).mpr h4
 omega
end
section
variable {X:Cx}
end
theorem zhu:∀ {bs:List Bool} {us:List Value},Vals (bs.map V.bl) us→us=bs.map Value.bool
 | [],_,h=>by cases h;rfl
 | b::r,_,h=>by
  cases h with
  | cons h1 h2 =>
   cases (show _=Value.bool b from h1)
   rw [zhu h2];rfl
section
variable {X:Cx} {a b o:Expr} {ta tb to:TE} {p pos:Pos}
theorem zyy (K:PySem.W.Frag) (mm:X.mg "all" = none) (ha:PE X a ta) (hc:X.calm=true:=by rfl) (hg:Gl X "all" := by rfl) (hs:starEach [a] X.env=[(false,eval a X.env)]:=by rfl) (hK:X.K=K:=by rfl) :
  PE X (.Call (.Name "all" p) [a] [] pos) (fun σ H Q=>ta σ H fun x H1=>∃ (q:Addr) (bs:List Bool),[x]=[.ref q]∧SqL K H1 q (bs.map V.bl)∧Q (.bl (bs.all id)) H1):=by
 subst hK
 have rule:z60 X (.builtin "all") (fun xs H Q=>∃ (q:Addr) (bs:List Bool),xs=[.ref q]∧SqL X.K H q (bs.map V.bl)∧Q (.bl (bs.all id)) H):=by
  intro pins s σ H xs us Q I r h
  refine bq fun bG=>?_
  obtain ⟨q,bs,rfl,hq,k⟩:=h
  obtain ⟨u,rfl,ru⟩:=z96 r
  cases ru
  obtain ⟨its,rv,pl,hz⟩:=I.list hq
  have ei:its=bs.map Value.bool:=zhu rv
  subst ei
  obtain ⟨ol,el,_⟩:=id pl.isList
  have qlt:q<s.heap.objs.size:=Heap.lt_size el
  refine bG (call_all_walk (wpAny_pyIter_list pl.isList ⟨_,_,_,_,_,_,fun i=>bs.getD i false,rfl,Walks.list (A:=X.A.in1) (I.ok.hd hc) _ q (Nat.ne_of_lt qlt) (bs.map Value.bool).toArray,⟨⟨_,Heap.get?_push_size _ rfl,rfl,rfl⟩,pl.isList.push _⟩,?_,fun h' tk keep=>?_⟩))
  ·intro i v s' Q' E' hv hQ
   have hv':(bs.map Value.bool)[i]?=some v:=by simpa using hv
   rw [List.getElem?_map] at hv'
   cases eb:bs[i]? with
   | none=>rw [eb] at hv';cases hv'
   | some b =>
    rw [eb] at hv'
    have:v=.bool b:=(Option.some.inj hv').symm
    subst this
    have e2:bs.getD i false=b:=by rw [List.getD_eq_getElem?_getD,eb];rfl
    simp only [e2] at hQ
    exact wpAny_truthy_bool hQ
  ·have ea:(List.range (bs.map Value.bool).toArray.size).all (fun i=>bs.getD i false)=bs.all id:=by
    rw [Bool.eq_iff_iff,List.all_eq_true,List.all_eq_true]
    constructor
    ·intro hh b hb
     obtain ⟨i,hi⟩:=List.getElem?_of_mem hb
     have:=hh i (by simp;exact (List.getElem?_eq_some_iff.mp hi).1)
     rw [List.getD_eq_getElem?_getD,hi] at this
     exact this
    ·intro hh i hi
     have hi':i<bs.length:=by simpa using hi
     rw [List.getD_eq_getElem?_getD,List.getElem?_eq_getElem hi']
     exact hh _ (List.getElem_mem hi')
   rw [ea]
   have kp:∀ b o,s.heap.get? b=some o→h'.get? b=some o:=fun b o e=>keep b o (fun hm=>absurd (List.mem_singleton.mp hm) (Nat.ne_of_lt (Heap.lt_size e))) (Heap.get?_push_of_some _ e)
   exact ⟨.bl _,H,I.kept kp,rfl,k⟩
 exact z39 rule hg mm rfl (z0q ha z1g hs) (he:=hs)
noncomputable def isInt (k:Int):Value→Bool
 | .int a _=>a==k
 | _=>false
end
noncomputable def zyh (o:List Int) (k:Int):Nat:=if k∈o then o.idxOf k+1 else o.length
noncomputable def zuf (o:List Int) (fs:List Nat) (n:Nat) (k:Int) (m:Nat):List Ask:=(List.range m).map fun at_=>(fs.getD at_ 0,n,decide (o.getD at_ 0=k))
noncomputable def ob (ks:List Int):Nat→List Int×List Nat×List Ask
 | 0=>([],[],[])
 | n+1=>(if ks.getD n 0∈(ob ks n).1 then (ob ks n).1 else (ob ks n).1++[ks.getD n 0],
   if ks.getD n 0∈(ob ks n).1 then (ob ks n).2.1 else (ob ks n).2.1++[n],
   (ob ks n).2.2++zuf (ob ks n).1 (ob ks n).2.1 n (ks.getD n 0) (zyh (ob ks n).1 (ks.getD n 0)))
section
variable {prog:Program} {w:World} {A:Around} {R:Result→Shared→Prop} {s:Shared}
theorem zbc {kx vx target iter:Expr} {ifs:List Expr} {scope:Scope} {pos:Pos} {it:Value} {D:Addr} {env:Env} (I:Nat→Shared→Prop)
  (turn:∀ n s,I n s→wpAny (model prog w) A (pyNext it) (fun r s₁=>match r with
   | none=>R (.ok .next) s₁
   | some v=>wpAny (model prog w) A (letOwnedTupleGo target it v) (fun _ s₁'=>wpAny (model prog w) A (assign target env v) (fun _ s₂ =>
     wpAny (model prog w) A (forIn ifs true fun c r=>if r=true then do let ok ← isTrue c env (eval c env);pure (ForInStep.yield ok) else pure (ForInStep.yield r)) (fun ok s₃ =>
      if ok=true then wpAny (model prog w) A (eval kx env) (fun kv s₄=>wpAny (model prog w) A (eval vx env) (fun vv s₅ =>
       wpAny (model prog w) A (dictSet D kv vv) (fun _ s₆=>∃ m,m<n∧I m s₆) (fun _ _=>False) s₅) (fun _ _=>False) s₄) (fun _ _=>False) s₃
      else ∃ m,m<n∧I m s₃) (fun _ _=>False) s₂) (fun _ _=>False) s₁') (fun _ _=>False) s₁) (fun _ _=>False) s)
  (n:Nat) (h:I n s):codeAny (model prog w) A (.compLoop (.DictComp kx vx [⟨target,iter,ifs,0⟩] scope pos) 0 it (.ref D) env) R s:=by
 refine codeAny_loop rfl I (fun n s hI=>?_) n h
 show wpAny _ A ((compTurn (.DictComp kx vx [⟨target,iter,ifs,0⟩] scope pos) 0 it (.ref D) env).onRaise (fun x=>do noteFrame x env;theTreesLotGoes x)) _ _ s
 refine wpAny_noted ?_
 rw [compTurn_dict]
 refine wpAny_mono (E:=fun _ _=>False) ?_ (fun _ _ x=>x) fun _ _ x=>x.elim
 refine wpAny_bind (wpAny_standAt (wpAny_bind (wpAny_mono (turn n s hI) (fun r s₁ h₁=>?_) fun _ _ h'=>h')))
 cases r with
 | none=>exact wpAny_pure h₁
 | some v =>
  refine wpAny_bind (wpAny_mono h₁ (fun _ s₁' h₁'=>?_) fun _ _ h'=>h')
  refine wpAny_bind (wpAny_mono h₁' (fun _ s₂ h₂=>wpAny_bind (wpAny_mono h₂ (fun ok s₃ h₃=>?_) fun _ _ h'=>h')) fun _ _ h'=>h')
  cases ok with
  | false=>exact wpAny_pure ⟨rfl,h₃⟩
  | true =>
   exact wpAny_bind (wpAny_bind (wpAny_mono h₃ (fun kv s₄ h₄=>wpAny_bind (wpAny_holding (wpAny_mono h₄ (fun vv s₅ h₅=>wpAny_bind (wpAny_standAt (wpAny_holding (wpAny_mono h₅ (fun _ s₆ h₆=>wpAny_pure ⟨rfl,h₆⟩) fun _ _ h'=>h')))) fun _ _ h'=>h'))) fun _ _ h'=>h'))
end
noncomputable def z4x (J:It) (g:TG) (tc:TT) (tk tv:TE) (D:Addr) (σ0:St) (H0:Hp) (Z:Hp→Prop):Prop :=
 ∃ W:Nat→Nat→St→Hp→Prop,(∃ m,W 0 m σ0 (upd H0 D (.dK [])))∧∀ i m σ H,W i m σ H →
  (J.stop i H∧Z H)∨(J.go i H∧∃ N:St→Hp→Prop,(∀ σ' H',N σ' H'→∃ m',m'<m∧W (i+1) m' σ' H')∧∀ x H',J.yld i H x H'→g x σ H' fun σ2 H2=>tc σ2 H2 fun b H3 =>
   if b=true then tk σ2 H3 fun y H4=>tv σ2 H4 fun v H5=>∃ kvs k,H5 D=some (.dK kvs)∧kvs.length<sizeLine∧y=kV k∧N σ2 (upd H5 D (.dK (zf1 kvs k v))) else N σ2 H3)
section
variable {X:Cx} {pins:List (Addr×Obj)} {σ:St} {N' own:List Str} {cap:List (Str×Nat)} {scope:Scope} {tg iter kx vx:Expr} {ifs:List Expr} {pos:Pos} {g:TG} {tc:TT} {tk tv:TE} {wi:TI}
theorem zh1 {Y:Cx} {s:Shared} {σ0:St} {H2:Hp} {it D:Addr} {fp:List Addr} {tn:Nat→Heap→Prop} {J:It} {Z:Hp→Prop} {R:Result→Shared→Prop}
  (hx:∀ e s,Y.xe e s→False) (hc:Y.calm=true) (hg:PG Y tg g) (ht:PIf Y ifs tc) (hk0:PE Y kx tk) (hv0:PE Y vx tv)
  (T:Turn Y.prog Y.w Y.K tg J fp it tn) (J0:Inv Y [] σ0 (upd H2 D (.dK [])) s) (st3:tn 0 s.heap) (f3:∀ b∈fp,upd H2 D (.dK []) b=none)
  (stat:∀ {H':Hp},(∀ b∈fp,H' b=none)→∀ b∈fp,z72 Y [] H' b) (h:z4x J g tc tk tv D σ0 H2 Z)
  (hR:∀ σ4 H4 s5,Inv Y [] σ4 H4 s5→Z H4→R (.ok .next) s5) :
  codeAny (model Y.prog Y.w) Y.A (.compLoop (.DictComp kx vx [⟨tg,iter,ifs,0⟩] scope pos) 0 (.ref it) (.ref D) Y.env) R s:=by
 obtain ⟨W,⟨m0,w0⟩,turn⟩:=h
 have noX:∀ {α:Type} {t:Sem α} {Q:α→Shared→Prop} {s:Shared},wpAny (model Y.prog Y.w) Y.A t Q Y.xe s→wpAny (model Y.prog Y.w) Y.A t Q (fun _ _=>False) s:=fun q=>wpAny_mono q (fun _ _ z=>z) fun e s z=>hx e s z
 obtain ⟨P,hP⟩:∃ P:Nat→Shared→Prop,∀ n s',P n s'↔∃ i σ' H',Inv Y [] σ' H' s'∧tn i s'.heap∧(∀ b∈fp,H' b=none)∧W i n σ' H':=⟨_,fun _ _=>Iff.rfl⟩
 refine zbc P ?_ m0 ((hP _ _).2 ⟨0,_,_,J0,st3,f3,w0⟩)
 rintro n s4 h4
 obtain ⟨i,σ4,H4,I4,st4,fr4,w4⟩:=(hP _ _).1 h4
 rcases turn i n σ4 H4 w4 with ⟨stop,qz⟩ | ⟨go,N,hN,step⟩
 ·refine wpAny_mono (T.done Y rfl rfl rfl hc i [] s4 σ4 H4 (fun _ _=>False) I4 (stat fr4) st4 stop) (fun r s5 ⟨hr,I5⟩=>?_) fun _ _ z=>z
  subst hr
  exact hR σ4 H4 s5 I5 qz
 ·refine wpAny_mono (T.item Y rfl rfl rfl hc i [] s4 σ4 H4 (fun _ _=>False) I4 (stat fr4) st4 go) (fun r s5 ⟨u,hr,h5⟩=>?_) fun _ _ z=>z
  subst hr
  refine wpAny_mono h5 (fun _ s6 hm=>?_) fun _ _ z=>z
  obtain ⟨x,H6,I6,r6,y6,st6,fr6⟩:=hm
  have I6':=I6.pinned (stat fr6) (T.obj _ _ st6)
  have again:∀ {σ7:St} {H7:Hp} {s7:Shared},Inv Y ([]++z74 fp s6.heap) σ7 H7 s7→N σ7 H7→∃ m,m<n∧P m s7:=fun {σ7 H7 s7} I7 n7=>by
   refine bq fun bG=>?_
   obtain ⟨m',hm,w7⟩:=hN σ7 H7 n7
   refine bG (⟨m',hm,(hP _ _).2 ⟨i+1,σ7,H7,I7.unpinned,T.keep _ _ _ st6 fun b hb o e=>(I7.pin (b,o) (List.mem_append_right _ (List.mem_append_right _ (z1d hb e)))).1,fun b hb=>?_,w7⟩⟩)
   refine bq fun bG=>?_
   obtain ⟨o,e,d⟩:=T.obj _ _ st6 b hb
   exact bG ((I7.pin (b,o) (List.mem_append_right _ (List.mem_append_right _ (z1d hb e)))).2.1)
  refine noX (thn (hg _ s6 σ4 H6 x u _ I6' r6 (step x H6 y6)) fun _ s7 hm=>?_)
  refine bq fun bG=>?_
  obtain ⟨σ7,H7,I7,q7⟩:=hm
  refine bG (noX (thn (ht _ s7 σ7 H7 _ I7 q7) fun b s8 hm=>?_))
  obtain ⟨H8,I8,q8⟩:=hm
  cases b with
  | false =>
   show ∃ m,_
   exact again I8 q8
  | true =>
   show wpAny _ _ _ _ _ _
   refine noX (thn (hk0 _ s8 σ7 H8 _ I8 q8) fun kv s9 hm=>?_)
   refine bq fun bG=>?_
   obtain ⟨vk,H9,I9,r9,q9⟩:=hm
   refine bG (noX (thn (hv0 _ s9 σ7 H9 _ I9 q9) fun vv s10 hm=>?_))
   refine bq fun bG=>?_
   obtain ⟨v,H10,I10,r10,kvs,k,e10,hz,ek,q10⟩:=hm
   subst ek
   refine bG (bq fun bG=>?_)
   obtain ⟨z,hd,vs,rel,dd⟩:=zgz I10.hok e10
   have hz':vs.length≤sizeLine:=by rw [← rel.length];exact z
   have hl:(zf1 kvs k v).length≤sizeLine:=by have:=z8c kvs k v;omega
   refine bG (wpAny_dictSet_pairs (hsz:=hz') (zni r9) dd fun h' dd' hs'=>?_)
   have heo:∃ q,h'.get? D=some q:=let ⟨q,_,_,hq,_⟩:=dd';⟨q,hq⟩
   exact again (zkv (t':=s10.toks+1) I10 (by rw [e10];exact True.intro) hs' heo (zpg hl hd (rel.put k r10) dd')) q10
theorem zh2 {s2:Shared} {H2:Hp} {it:Addr} {fp:List Addr} {tn:Nat→Heap→Prop} {J:It} {cl:List (Str×Addr)} {Z:Addr→Hp→Prop} {RR:Value→Addr→Result→Shared→Prop} {E:Value→Shared→Prop}
  (hx:∀ e s,X.xe e s→False) (hc:X.calm=true) (S:CompScope X N' own cap scope)
  (hg:∀ cl C s₀ H₀ ex,PG (z0c X N' scope cl C s₀ H₀ ex) tg g) (ht:∀ cl C s₀ H₀ ex,PIf (z0c X N' scope cl C s₀ H₀ ex) ifs tc) (hk0:∀ cl C s₀ H₀ ex,PE (z0c X N' scope cl C s₀ H₀ ex) kx tk) (hv0:∀ cl C s₀ H₀ ex,PE (z0c X N' scope cl C s₀ H₀ ex) vx tv)
  (I2:Inv X pins σ H2 s2) (T:Turn X.prog X.w X.K tg J fp it tn) (st2:tn 0 s2.heap) (f2:∀ b∈fp,z72 X pins H2 b)
  (c1:∀ y c,cl.lookup y=some c→X.env.cells.lookup y=some c) (c2:∀ y,(y,NameKind.free)∈scope.names→∃ c,cl.lookup y=some c)
  (h:∀ D,H2 D=none→z4x J g tc tk tv D (z3t own cap σ) H2 (Z D))
  (hRR:∀ D C s' m' H',Inv X pins σ H' s'→s'.heap.Ns C m'→z72 X pins H' C→Z D H'→RR (.ref D) C (.ok .next) s') :
  wpAny (model X.prog X.w) X.A (newDict) (fun acc s₃=>wpAny (model X.prog X.w) X.A (newFunctionEnv scope X.env.globals cl [] X.env.qual none .none (some X.env)) (fun cenv s₄ =>
   codeAny (model X.prog X.w) X.A (.compStart (.DictComp kx vx [⟨tg,iter,ifs,0⟩] scope pos) 0 (.ref it) acc { cenv with scope:=relabel scope X.env }) (RR acc cenv.locals) s₄) E s₃) E s2:=by
 have hlt:∀ b∈fp,b<s2.heap.objs.size:=fun b hb=>by
  refine bq fun bG=>?_
  obtain ⟨o,e,_⟩:=T.obj _ _ st2 b hb
  exact bG (Heap.lt_size e)
 have hD:H2 s2.heap.objs.size=none:=I2.hok.fresh (Nat.le_refl _)
 have hsys:(s2.heap.objs.size==sysModules)=false:=by
  have:=I2.big
  rw [beq_eq_false_iff_ne]
  exact Nat.ne_of_gt this
 refine wpAny_newObj_type (z3z (fun h₁ hns₁ hk₁ hce₁=>?_))
 dsimp only at hns₁ hk₁ hce₁ ⊢
 have I3:Inv X pins σ (upd H2 s2.heap.objs.size (.dK [])) { s2 with heap:=s2.heap.push { cls:=.type "dict",dict:=none,data:=.dict #[] },toks:=s2.toks } :=
  I2.laid (fun b o e=>Heap.get?_push_of_some _ e) (Nat.le_refl _) ⟨Nat.zero_le _,hsys,[],.nil,Heap.DictOf.new s2.heap⟩
 generalize hs3:({ s2 with heap:=s2.heap.push { cls:=.type "dict",dict:=none,data:=.dict #[] },toks:=s2.toks }:Shared)=s3 at I3
 have e3:s2.heap.push { cls:=.type "dict",dict:=none,data:=.dict #[] }=s3.heap:=by rw [← hs3]
 have hsz:s3.heap.objs.size=s2.heap.objs.size+1:=by rw [← e3,Heap.size_push]
 rw [e3] at hns₁ hk₁ hce₁ ⊢
 have hk:=hk₁
 have hcl:∀ y c,cl.lookup y=some c→¬ s3.heap.objs.size<c:=fun y c e z=>by
  refine bq fun bG=>?_
  obtain ⟨v,o,ho,_⟩:=I3.cell y c (c1 y c e)
  exact bG (Nat.lt_irrefl _ (Nat.lt_trans z (Heap.lt_size ho)))
 have CA:CellsAre X scope s3.heap.objs.size cl (cellsFrom (s3.heap.objs.size+1) scope.names cl):=z8w (h:=s3.heap.push { cls:=.type "dict",data:=.dict #[] }) (by rw [Heap.size_push]) S hcl
 have hcell:∀ y c,(cellsFrom (s3.heap.objs.size+1) scope.names cl).lookup y=some c→s3.heap.objs.size<c→h₁.IsCell c none:=fun y c e z=>by
  rw [z12,z1v] at e
  cases q:(cellsFrom (s3.heap.objs.size+1) scope.names []).lookup y with
  | none=>rw [q] at e;exact absurd z (hcl y c e)
  | some c' =>
   rw [q] at e
   have:c'=c:=Option.some.inj e
   subst this
   exact hce₁ y c' (PySem.mem_of_lookup q)
 generalize hcs:cellsFrom (s3.heap.objs.size+1) scope.names cl=cs at CA hcell ⊢
 have f3:∀ b∈fp,z72 X pins (upd H2 s2.heap.objs.size (.dK [])) b:=fun b hb=>⟨by rw [z0h (Nat.ne_of_lt (hlt b hb))];exact (f2 b hb).1,(f2 b hb).2⟩
 have hlt3:∀ b∈fp,b<s3.heap.objs.size:=fun b hb=>by rw [hsz];exact Nat.lt_succ_of_lt (hlt b hb)
 have st3:tn 0 h₁:=T.keep _ _ _ st2 fun b hb o e=>hk b o (by rw [← e3];exact Heap.get?_push_of_some _ e)
 have J0:Inv (z0c X N' scope cs s3.heap.objs.size s3 (upd H2 s2.heap.objs.size (.dK [])) fp) [] (z3t own cap σ) (upd H2 s2.heap.objs.size (.dK [])) { s3 with heap:=h₁,toks:=s2.toks } :=
  comp_inv I3 S CA hcell c1 c2 f3 hlt3 hk hns₁
 have stat:∀ {pl:List (Addr×Obj)} {H':Hp},pl=[]→(∀ b∈fp,H' b=none)→∀ b∈fp,z72 (z0c X N' scope cs s3.heap.objs.size s3 (upd H2 s2.heap.objs.size (.dK [])) fp) pl H' b:=fun {pl H'} hp hn b hb=>by
  subst hp
  refine ⟨hn b hb,Nat.ne_of_lt (hlt3 b hb),J0.ok.exfs b hb,.inl hb,fun x c e=>J0.ok.exf b hb |>.2 x c e,fun p hp=>absurd hp (by show p∉([]++[]:List (Addr×Obj));simp)⟩
 have loop:codeAny (model X.prog X.w) X.A (.compLoop (.DictComp kx vx [⟨tg,iter,ifs,0⟩] scope pos) 0 (.ref it) (.ref s2.heap.objs.size) (compEnvC scope cs s3.heap.objs.size X.env)) (RR (.ref s2.heap.objs.size) s3.heap.objs.size)
   { s3 with heap:=h₁,toks:=s2.toks }:=zh1 (Y:=z0c X N' scope cs s3.heap.objs.size s3 (upd H2 s2.heap.objs.size (.dK [])) fp) hx hc (hg _ _ _ _ _) (ht _ _ _ _ _) (hk0 _ _ _ _ _) (hv0 _ _ _ _ _) T J0 st3 (fun b hb=>(f3 b hb).1) (stat rfl) (h _ hD) fun σ4 H4 s5 I5 qz=>by
  have I6:Inv X pins σ H4 s5:=I3.call' (ch:=fp) I5.os I5.base I5.hok I5.bare fun b hb=>⟨(f3 b hb).2.2.2.1,(f3 b hb).2.1,(f3 b hb).2.2.2.2.1,(f3 b hb).2.2.2.2.2⟩
  refine bq fun bG=>?_
  obtain ⟨m',hn',_⟩:=I5.loc
  exact bG (hRR _ _ s5 m' H4 I6 hn' (I3.fpOk (Nat.le_refl _) I5.free) qz)
 have lp:codeAny (model X.prog X.w) X.A (.compStart (.DictComp kx vx [⟨tg,iter,ifs,0⟩] scope pos) 0 (.ref it) (.ref s2.heap.objs.size) (compEnvC scope cs s3.heap.objs.size X.env)) (RR (.ref s2.heap.objs.size) s3.heap.objs.size)
   { s3 with heap:=h₁,toks:=s2.toks }:=codeAny_compStart_dict loop (T.self _ 0 _ _ _ st3 loop)
 subst hs3
 exact lp
theorem zn1 (S:CompScope X N' own cap scope) (hi:PI X tg iter wi)
  (hg:∀ cl C s₀ H₀ ex,PG (z0c X N' scope cl C s₀ H₀ ex) tg g) (ht:∀ cl C s₀ H₀ ex,PIf (z0c X N' scope cl C s₀ H₀ ex) ifs tc) (hk:∀ cl C s₀ H₀ ex,PE (z0c X N' scope cl C s₀ H₀ ex) kx tk) (hv:∀ cl C s₀ H₀ ex,PE (z0c X N' scope cl C s₀ H₀ ex) vx tv)
  (hx:∀ e s,X.xe e s→False:=by exact fun _ _ z=>z) (hc:X.calm=true:=by rfl) (hs:∀ x,foldedSetIterable iter X.env x=pure x:=by intro _;rfl) :
  PE X (.DictComp kx vx [⟨tg,iter,ifs,0⟩] scope pos) (fun σ H Q=>wi σ H fun J H1=>∀ D,H1 D=none→z4x J g tc tk tv D (z3t own cap σ) H1 (Q (.ref D))):=by
 intro pins s σ H Q I h
 rw [arm_eval_DictComp]
 refine bq fun bG=>?_
 obtain ⟨cl,hcl,c1,c2⟩:=z2g (scope:=scope) (env:=X.env) fun y hy hk=>I.ok.has y.1 (S.free y hy hk)
 refine bG (wpAny_comprehension_free (use:=none) rfl hs hcl S.kind S.names (thn (hi pins s σ H _ I h) fun v s1 h1=>thn h1 fun itv s2 h2=>?_))
 refine bq fun bG=>?_
 obtain ⟨it,fp,tn,J,H2,e,I2,T,st2,f2,q⟩:=h2
 subst e
 refine bG (zh2 (RR:=fun acc C=>compPost (model X.prog X.w) X.A X.xe none (EP X pins σ Q) acc C) (Z:=fun D=>Q (.ref D)) hx hc S hg ht hk hv I2 T st2 f2 c1 c2 q ?_)
 intro D C s' m' H' I' hn' f' z
 exact ⟨m',hn',fun h'' hs''=>⟨.ref D,H',I'.letgo f' hs'',rfl,z⟩⟩
end
noncomputable def viO (v d:Addr):HO:=.ext fun h=>h.IsItemsView v d
def zor:V→List V→Hp→VK→Prop:=fun x vs H Q=>∃ (a:Addr) (kvs:List (Key×V)),x=.ref a∧vs=[]∧H a=some (.dK kvs)∧∀ v,H v=none→Q (.ref v) (upd H v (viO v a))
section
variable {X:Cx} {o:Expr} {to:TE} {pos:Pos}
theorem zna:MtM X "dict.items" zor:=by
 intro pins s σ H x vs v us Q I rx rv h
 obtain ⟨a,kvs,rfl,rfl,e,q⟩:=h
 cases rx
 have:=rv.zero
 subst this
 refine bq fun bG=>?_
 obtain ⟨z,hd,ws,rel,dd⟩:=zgz I.hok e
 refine bG (call_meetsIn PySem.F.slot_dict_items dd.typeIs PySem.F.entry_dict_items (PySem.F.args_dict_items_1 _) (meets_dict_items (z16 X.prog X.w) a hd) ⟨⟨ws,dd⟩,?_⟩)
 have hv:(s.heap.push { cls:=.type "dict_items",data:=.fields #[.ref a] }).IsItemsView s.heap.objs.size a:=⟨_,Heap.get?_push_size _ rfl,rfl,rfl⟩
 refine ⟨.ref s.heap.objs.size,_,I.laid (t':=s.toks) (o:=viO s.heap.objs.size a) (fun b o q=>Heap.get?_push_of_some _ q) (Nat.le_refl _) ?_,rfl,q _ (I.hok.fresh (Nat.le_refl _))⟩
 exact ⟨hv,⟨_,Heap.get?_push_size _ rfl⟩,fun h1 h2 p k=>let ⟨o,ho,r⟩:=p;⟨o,k o ho,r⟩⟩
theorem zrk (K:PySem.W.Frag) {apos:Pos} (ho:PE X o to) (hbase:attributeBase o "items" X.env (eval o X.env)=eval o X.env:=by rfl) (hline:(apos.endLine==pos.line)=true:=by rfl) (hK:X.K=K:=by rfl) :
  PE X (.Call (.Attribute o "items" apos) [] [] pos) (zwe K "dict" zor to):=by
 subst hK
 exact zp1 PySem.F.plainAttrs_dict PySem.F.slot_dict_items PySem.F.type_dict_items zna ho hbase hline
end
noncomputable def Itd (d:Addr) (o:Obj) (kvs:List (Key×V)):It :=
 ⟨fun i H=>H d=some (.frz o (.dK kvs))∧i<kvs.length,fun i H x H'=>∃ p k v,x=.ref p∧H p=none∧H'=upd H p (.tup [kV k,v])∧kvs[i]?=some (k,v),fun i H=>H d=some (.frz o (.dK kvs))∧kvs.length≤i⟩
theorem zus {k:Key} {u:Value} (h:ze2 k u=true):RelV (kV k) u:=by
 rcases z11 h with ⟨i,t,rfl,rfl⟩ | ⟨x,t,rfl,rfl⟩
 ·exact ⟨t,rfl⟩
 ·exact ⟨t,rfl⟩
theorem KV.get {kvs:List (Key×V)} {ws:List (Key×Value)} (rel:KV kvs ws):∀ {i:Nat} {k:Key} {v:V},kvs[i]?=some (k,v)→∃ u,ws[i]?=some (k,u)∧RelV v u:=by
 induction rel with
 | nil=>intro i k v h;simp at h
 | @cons a b l r hd tl ih =>
  intro i k v h
  cases i with
  | zero =>
   have:a=(k,v):=by simpa using h
   subst this
   obtain ⟨b1,b2⟩:=b
   obtain ⟨h1,h2⟩:=hd
   have:k=b1:=h1
   subst this
   exact ⟨b2,rfl,h2⟩
  | succ i =>
   refine bq fun bG=>?_
   obtain ⟨u,h1,h2⟩:=ih (i:=i) (k:=k) (v:=v) (by simpa using h)
   exact bG (⟨u,by simpa using h1,h2⟩)
theorem zg7 {P:Program} {w:World} {K:PySem.W.Frag} {elts:List Expr} {k:Nat} {pos:Pos} {h0:Heap} {kvs:List (Key×V)} {ws:List (Key×Value)} {ep:Nat} {o:Obj} (d it:Addr) (rel:KV kvs ws) (ho:h0.get? d=some o) (hat:h0.DictAt (z16 P w) d ws ep) :
  Turn P w K (.Tuple elts k pos) (Itd d o kvs) [it] it (fun i h=>∃ ok ov,IsItemIter h it d i ws.length ep ok ov) where
 mem:=by simp
 obj:=fun i h st b hb=>by
  obtain ⟨ok,ov,he⟩:=st
  rw [List.mem_singleton.mp hb]
  exact ⟨_,he,fun v z=>by cases z⟩
 keep:=fun i h h' st kk=>let ⟨ok,ov,he⟩:=st;⟨ok,ov,kk it (by simp) _ he⟩
 item:=by
  intro X hP hw hK hc i pins s σ H E I hf st hg
  subst hP hw hK
  obtain ⟨hH,hi⟩:=hg
  obtain ⟨hgo,_⟩:s.heap.get? d=some o∧_:=I.hok d _ hH
  have hm:s.heap.DictAt (z16 X.prog X.w) d ws ep:=hat.at' fun o' e=>by rw [ho] at e;cases e;exact hgo
  obtain ⟨kk,v⟩:Key×V:=kvs[i]
  obtain ⟨⟨k1,v1⟩,hx⟩:∃ p,kvs[i]?=some p:=⟨kvs[i],by simp [hi]⟩
  refine bq fun bG=>?_
  obtain ⟨u,hu,ru⟩:=rel.get hx
  obtain ⟨ok,ov,he⟩:=st
  refine bG (wpAny_pyNext_items_item he hm hu fun key h1 hkey hout hT hsz hk=>?_)
  refine ⟨_,rfl,wpAny_letOwnedTupleGo_items hout fun h2 he2 hs2=>?_⟩
  have hlt:it<s.heap.objs.size:=Heap.lt_size he
  replace hs2:Heap.SameBut it h1 h2:=hs2
  have hT2:h2.get? s.heap.objs.size=some { cls:=.type "tuple",data:=.seq #[key,u] }:=(hs2.2 _ (Nat.ne_of_gt hlt)).trans hT
  have hn:H s.heap.objs.size=none:=I.hok.fresh (Nat.le_refl _)
  have I2:Inv X pins σ (upd H s.heap.objs.size (.tup [kV k1,v1])) { s with heap:=h2,toks:=s.toks } :=
   I.turnLay (ch:=[it]) hf (fun b o hb q=>(hs2.2 b (fun z=>hb (by simp [z]))).trans (hk b o (fun z=>hb (by simp [z])) q)) (Nat.le_refl _)
    ⟨zi2,[key,u],.cons (zus hkey) (.cons ru .nil),⟨_,hT2,rfl,_,rfl⟩⟩
  have f1:∀ b∈[it],(upd H s.heap.objs.size (.tup [kV k1,v1])) b=none:=fun b hb=>by
   rw [List.mem_singleton.mp hb,z0h (Nat.ne_of_lt hlt)]
   exact (hf it (by simp)).1
  exact ⟨.ref s.heap.objs.size,_,I2,rfl,⟨_,k1,v1,rfl,hn,rfl,hx⟩,⟨key,u,he2⟩,f1⟩
 done:=by
  intro X hP hw hK hc i pins s σ H E I hf st hg
  subst hP hw hK
  obtain ⟨hH,hi⟩:=hg
  obtain ⟨hgo,_⟩:s.heap.get? d=some o∧_:=I.hok d _ hH
  have hm:s.heap.DictAt (z16 X.prog X.w) d ws ep:=hat.at' fun o' e=>by rw [ho] at e;cases e;exact hgo
  obtain ⟨ok,ov,he⟩:=st
  have hl:kvs.length=ws.length:=rel.length
  refine wpAny_pyNext_items_end (I.ok.hd hc) he hm (by simp;omega) fun h' eb=>⟨rfl,I.turns (t':=s.toks) (ch:=[it]) hf fun b o hb q=>eb b o (fun z=>hb (by simp [z])) q⟩
 self:=fun _ _ _ _ _ st h=>by
  refine bq fun bG=>?_
  obtain ⟨ok,ov,he⟩:=st
  exact bG (PySem.W.kcp_self he h)
def zv7 (te:TE):TI:=fun σ H R=>te σ H fun x H1=>∃ v d kvs,x=.ref v∧H1 v=some (viO v d)∧H1 d=some (.dK kvs)∧∀ o,R (Itd d o kvs) (upd H1 d (.frz o (.dK kvs)))
theorem zmw {X:Cx} {e:Expr} {te:TE} {elts:List Expr} {k:Nat} {tpos:Pos} (he:PE X e te):PI X (.Tuple elts k tpos) e (zv7 te):=by
 intro pins s σ H R I h
 refine thn (he pins s σ H _ I h) fun u s1 hm=>?_
 obtain ⟨x,H1,I1,r1,v,d,kvs,ex,hv,hd,q⟩:=hm
 subst ex
 cases r1
 obtain ⟨z,hsys,ws,rel,dd⟩:=zgz I1.hok hd
 obtain ⟨hvv,_,_⟩:s1.heap.IsItemsView v d∧_∧_:=I1.hok v _ hv
 refine bq fun bG=>?_
 obtain ⟨ep,hat⟩:=dd.dictAt
 obtain ⟨o,ho⟩:∃ o,s1.heap.get? d=some o:=let ⟨o,_,_,h,_⟩:=dd;⟨o,h⟩
 refine bG (wpAny_pyIter_items hvv hat ?_)
 have nd:d≠s1.heap.objs.size:=Nat.ne_of_lt (Heap.lt_size ho)
 have I2:Inv X pins σ (upd H1 d (.frz o (.dK kvs))) { s1 with heap:=s1.heap.push { cls:=.type "dict_itemiterator",data:=.fields #[.none,.bool false,.ref d,.int 0 0,.int ws.length 0,.int ep 0,.none,.none] },toks:=s1.toks } :=
  I1.write (x:=d) (e:=d) (by rw [hd];exact True.intro) (.inl rfl) (fun b q _ z=>Heap.get?_push_of_some _ z) ⟨o,Heap.get?_push_of_some _ ho⟩
   ⟨Heap.get?_push_of_some _ ho,z,hsys,ws,rel,dd.at fun o' e=>Heap.get?_push_of_some _ e⟩
 refine ⟨_,[s1.heap.objs.size],_,_,_,rfl,I2,zg7 d _ rel ho hat,⟨.none,.none,Heap.get?_push_size _ rfl⟩,fun b hb=>?_,q o⟩
 rw [List.mem_singleton.mp hb]
 exact I1.fpOk (Nat.le_refl _) (by rw [z0h (Ne.symm nd)];exact I1.hok.fresh (Nat.le_refl _))
noncomputable abbrev An:=Nat×Nat×Bool
noncomputable def nb (as:List An) (x:Nat):List Nat:=as.flatMap fun a=>if a.2.2=true then (if x=a.1 then [a.2.1] else [])++(if x=a.2.1 then [a.1] else []) else []
theorem mem_nb {as:List An} {x y:Nat}:y∈nb as x↔(x,y,true)∈as∨(y,x,true)∈as:=by
 unfold nb
 rw [List.mem_flatMap]
 constructor
 ·rintro ⟨⟨i,j,b⟩,ha,h⟩
  cases b with
  | false=>simp at h
  | true =>
   simp only [if_true,List.mem_append] at h
   rcases h with h | h
   ·split at h
    ·rename_i e
     have:y=j:=by simpa using h
     subst this e
     exact .inl ha
    ·simp at h
   ·split at h
    ·rename_i e
     have:y=i:=by simpa using h
     subst this e
     exact .inr ha
    ·simp at h
 ·rintro (h | h)
  ·exact ⟨_,h,by simp⟩
  ·exact ⟨_,h,by simp⟩
theorem zr3 {as:List An} {x y:Nat} (h:y∈nb as x):x∈nb as y:=mem_nb.mpr (mem_nb.mp h).symm
inductive Conn (as:List An):Nat→Nat→Prop where
 | refl (x:Nat):Conn as x x
 | step {x y z:Nat}:Conn as x y→z∈nb as y→Conn as x z
theorem Conn.trans {as:List An} {x y z:Nat} (h:Conn as x y) (g:Conn as y z):Conn as x z:=by
 induction g with
 | refl=>exact h
 | step _ e ih=>exact .step ih e
theorem Conn.one {as:List An} {x y:Nat} (h:y∈nb as x):Conn as x y:=.step (.refl x) h
theorem Conn.symm {as:List An} {x y:Nat} (h:Conn as x y):Conn as y x:=by
 induction h with
 | refl=>exact .refl _
 | step _ e ih=>exact (Conn.one (zr3 e)).trans ih
theorem Conn.mono {as bs:List An} {x y:Nat} (h:Conn as x y) (hm:∀ a∈as,a∈bs):Conn bs x y:=by
 induction h with
 | refl=>exact .refl _
 | step _ e ih=>exact .step ih (mem_nb.mpr ((mem_nb.mp e).imp (hm _) (hm _)))
noncomputable def z2h (hs:List (Nat×Nat)) (x:Nat):Option Nat:=(hs.find? fun p=>decide (p.1=x)).map (·.2)
noncomputable def z2r (hs:List (Nat×Nat)) (x:Nat):List (Nat×Nat):=if (z2h hs x).isSome=true then hs else hs++[(x,x)]
noncomputable def z8g (hs:List (Nat×Nat)) (o n:Nat):List (Nat×Nat):=hs.map fun p=>(p.1,if p.2=o then n else p.2)
noncomputable def z6t (hs:List (Nat×Nat)) (a:An):List (Nat×Nat) :=
 let h2:=z2r (z2r hs a.1) a.2.1
 if a.2.2=true then z8g h2 ((z2h h2 a.2.1).getD 0) ((z2h h2 a.1).getD 0) else h2
noncomputable def z2q (as:List An):List (Nat×Nat):=as.foldl z6t []
theorem z42 (hs:List (Nat×Nat)) (x y:Nat):z2h (z2r hs x) y=if y=x then some ((z2h hs x).getD x) else z2h hs y:=by
 unfold z2r
 by_cases h:(z2h hs x).isSome=true
 ·rw [if_pos h]
  obtain ⟨v,e⟩:=Option.isSome_iff_exists.mp h
  by_cases z:y=x
  ·subst z;rw [if_pos rfl,e];rfl
  ·rw [if_neg z]
 ·rw [if_neg h]
  have e:z2h hs x=none:=by simpa using h
  unfold z2h at e ⊢
  rw [List.find?_append]
  by_cases z:y=x
  ·subst z
   rw [if_pos rfl]
   have e':hs.find? (fun p=>decide (p.1=y))=none:=by simpa using e
   rw [e']
   simp
  ·rw [if_neg z]
   have:List.find? (fun p:Nat×Nat=>decide (p.1=y)) [(x,x)]=none:=by simp [Ne.symm z]
   rw [this]
   simp
theorem z6c (hs:List (Nat×Nat)) (o n x:Nat):z2h (z8g hs o n) x=(z2h hs x).map fun r=>if r=o then n else r:=by
 unfold z2h z8g
 induction hs with
 | nil=>rfl
 | cons p r ih =>
  rw [List.map_cons,List.find?_cons,List.find?_cons]
  by_cases z:p.1=x
  ·simp [z]
  ·simp only [z,decide_false]
   exact ih
structure HOkN (as:List An) (V:Nat→Option Nat):Prop where
 named:∀ a∈as,(V a.1).isSome=true∧(V a.2.1).isSome=true
 con:∀ x r,V x=some r→Conn as x r
 eq:∀ x y,(x,y,true)∈as→V x=V y
theorem za9 (as:List An) (a:An):z2q (as++[a])=z6t (z2q as) a:=by unfold z2q;rw [List.foldl_append];rfl
theorem zb1 (as:List An):HOkN as (z2h (z2q as)):=by
 have key:∀ (n:Nat) (as:List An),as.length=n→HOkN as (z2h (z2q as)):=by
  intro n
  induction n with
  | zero =>
   intro as e
   have:as=[]:=List.length_eq_zero_iff.mp e
   subst this
   exact ⟨fun _ h=>by simp at h,fun x r h=>by simp [z2q,z2h] at h,fun _ _ h=>by simp at h⟩
  | succ n ih =>
   intro as e
   have hne:as≠[]:=by intro z;subst z;simp at e
   obtain ⟨bs,a,rfl⟩:∃ bs a,as=bs++[a]:=⟨as.dropLast,as.getLast hne,(List.dropLast_concat_getLast hne).symm⟩
   have ih:=ih bs (by simpa using e)
   obtain ⟨i,j,b⟩:=a
   rw [za9]
   generalize z2q bs=hs at ih
   have v2:∀ y,z2h (z2r (z2r hs i) j) y=if y=j then some ((z2h (z2r hs i) j).getD j) else if y=i then some ((z2h hs i).getD i) else z2h hs y:=fun y=>by rw [z42 (z2r hs i) j y,z42 hs i y]
   have old:∀ y,(z2h hs y).isSome=true→z2h (z2r (z2r hs i) j) y=z2h hs y:=fun y hy=>by
    obtain ⟨r,er⟩:=Option.isSome_iff_exists.mp hy
    rw [v2 y]
    split
    ·rename_i z;subst z
     rw [z42]
     split
     ·rename_i z;subst z;rw [er];rfl
     ·rw [er];rfl
    ·split
     ·rename_i z;subst z;rw [er];rfl
     ·rfl
   have mono:∀ x y,Conn bs x y→Conn (bs++[(i,j,b)]) x y:=fun x y h=>h.mono fun a ha=>List.mem_append_left _ ha
   have con2:∀ x r,z2h (z2r (z2r hs i) j) x=some r→Conn (bs++[(i,j,b)]) x r:=fun x r h=>by
    rw [v2 x] at h
    split at h
    ·rename_i z;subst z
     have h:=Option.some.inj h
     rw [z42] at h
     split at h
     ·rename_i z;subst z
      cases e:z2h hs x with
      | none=>rw [e] at h;rw [← h];exact .refl _
      | some r'=>rw [e] at h;have:r'=r:=h;subst this;exact mono _ _ (ih.con _ _ e)
     ·cases e:z2h hs x with
      | none=>rw [e] at h;have:x=r:=h;subst this;exact .refl _
      | some r'=>rw [e] at h;have:r'=r:=h;subst this;exact mono _ _ (ih.con _ _ e)
    ·split at h
     ·rename_i z;subst z
      have h:=Option.some.inj h
      cases e:z2h hs x with
      | none=>rw [e] at h;have:x=r:=h;subst this;exact .refl _
      | some r'=>rw [e] at h;have:r'=r:=h;subst this;exact mono _ _ (ih.con _ _ e)
     ·exact mono _ _ (ih.con _ _ h)
   have n1:∃ r,z2h (z2r (z2r hs i) j) i=some r:=by
    rw [v2 i]
    split
    ·exact ⟨_,rfl⟩
    ·exact ⟨_,if_pos rfl⟩
   have n2:∃ r,z2h (z2r (z2r hs i) j) j=some r:=⟨_,by rw [v2 j,if_pos rfl]⟩
   have named2:∀ a∈bs++[(i,j,b)],(z2h (z2r (z2r hs i) j) a.1).isSome=true∧(z2h (z2r (z2r hs i) j) a.2.1).isSome=true:=fun a ha=>by
    rcases List.mem_append.mp ha with z | z
    ·obtain ⟨h1,h2⟩:=ih.named a z
     rw [old _ h1,old _ h2]
     exact ⟨h1,h2⟩
    ·have:a=(i,j,b):=by simpa using z
     subst this
     obtain ⟨r1,e1⟩:=n1
     obtain ⟨r2,e2⟩:=n2
     exact ⟨by rw [e1];rfl,by rw [e2];rfl⟩
   have eq2:∀ x y,(x,y,true)∈bs→z2h (z2r (z2r hs i) j) x=z2h (z2r (z2r hs i) j) y:=fun x y h=>by
    obtain ⟨h1,h2⟩:=ih.named _ h
    rw [old x h1,old y h2]
    exact ih.eq x y h
   show HOkN _ (z2h (if b=true then z8g (z2r (z2r hs i) j) ((z2h (z2r (z2r hs i) j) j).getD 0) ((z2h (z2r (z2r hs i) j) i).getD 0) else z2r (z2r hs i) j))
   clear v2 old
   generalize z2r (z2r hs i) j=h2 at *
   cases b with
   | false =>
    refine ⟨named2,con2,fun x y h=>?_⟩
    rcases List.mem_append.mp h with z | z
    ·exact eq2 x y z
    ·simp at z
   | true =>
    obtain ⟨r1,e1⟩:=n1
    obtain ⟨r2,e2⟩:=n2
    simp only [if_true,e1,e2,Option.getD_some]
    have cij:Conn (bs++[(i,j,true)]) i j:=Conn.one (mem_nb.mpr (.inl (by simp)))
    refine ⟨fun a ha=>?_,fun x r h=>?_,fun x y h=>?_⟩
    ·rw [z6c,z6c,Option.isSome_map,Option.isSome_map]
     exact named2 a ha
    ·rw [z6c] at h
     obtain ⟨r0,e0,er⟩:=Option.map_eq_some_iff.mp h
     have c0:=con2 x r0 e0
     split at er
     ·rename_i z;subst z er
      exact c0.trans ((con2 j _ e2).symm.trans (cij.symm.trans (con2 i _ e1)))
     ·subst er;exact c0
    ·rw [z6c,z6c]
     rcases List.mem_append.mp h with z | z
     ·rw [eq2 x y z]
     ·have:x=i∧y=j:=by simpa using z
      obtain ⟨rfl,rfl⟩:=this
      rw [e1,e2]
      simp only [Option.map_some,if_true]
      split
      ·rfl
      ·rfl
 exact key _ as rfl
theorem HOkN.conn {as:List An} {V:Nat→Option Nat} (h:HOkN as V) {x y:Nat} (c:Conn as x y):V x=V y:=by
 induction c with
 | refl=>rfl
 | step _ e ih =>
  rw [ih]
  rcases mem_nb.mp e with z | z
  ·exact h.eq _ _ z
  ·exact (h.eq _ _ z).symm
theorem HOkN.iff {as:List An} {V:Nat→Option Nat} (h:HOkN as V) {x y:Nat} (hx:(V x).isSome=true):V x=V y↔Conn as x y:=by
 refine ⟨fun e=>?_,h.conn⟩
 obtain ⟨r,er⟩:=Option.isSome_iff_exists.mp hx
 exact (h.con x r er).trans (h.con y r (by rw [← e];exact er)).symm
noncomputable def zl0 (as:List An):Bool:=as.all fun a=>a.2.2||!decide (z2h (z2q as) a.1=z2h (z2q as) a.2.1)
structure Out (as:List An) (n t:Nat) (F:Nat→Option Nat):Prop where
 con:∀ x r,F x=some r→Conn as x r∧r<t
 fin:∀ x r y,F x=some r→y∈nb as x→F y=some r
 all:∀ x,x<t→(F x).isSome=true
noncomputable def zyi (as:List An) (F:Nat→Option Nat):Nat→Nat
 | 0=>0
 | n+1=>zyi as F n+(if (F n).isSome=true then 0 else (nb as n).length)
section
variable {X:Cx} {a b o:Expr} {ta tb to:TE} {p pos:Pos}
theorem znx (K:PySem.W.Frag) {apos:Pos} (ho:PE X o to) (ha:PE X a ta) (hs:starEach [a] X.env=[(false,eval a X.env)]:=by rfl)
  (hbase:attributeBase o "extend" X.env (eval o X.env)=eval o X.env:=by rfl) (hline:(apos.endLine==pos.line)=true:=by rfl) (hK:X.K=K:=by rfl)
  (hfew:((backTo pos (starEach [a] X.env)).all (fun x=>!x.1)&&(backToKw pos (keywordEach [] X.env)).all (fun x=>x.1.isSome)
   && decide ([a].length+([]:List Keyword).length+(if ([]:List Keyword).isEmpty then 0 else 1)<30))=true:=by rfl) :
  PE X (.Call (.Attribute o "extend" apos) [a] [] pos) (tBM K "list" zj3 to (z64 ta zi8)):=by
 subst hK
 exact zn3 PySem.F.plainAttrs_list PySem.F.slot_list_extend PySem.F.type_list_extend zjn ho (z0q ha z1g hs) hbase hfew hline hs
end
def hNd (hs:List (Nat×Nat)):Prop:=(hs.map (·.1)).Nodup
theorem hVal_none {hs:List (Nat×Nat)} {x:Nat}:z2h hs x=none↔x∉hs.map (·.1):=by
 unfold z2h
 rw [Option.map_eq_none_iff,List.find?_eq_none]
 simp only [decide_eq_true_eq,List.mem_map,not_exists,not_and]
theorem zb2 {hs:List (Nat×Nat)} (h:hNd hs) (x:Nat):hNd (z2r hs x):=by
 unfold z2r
 split
 ·exact h
 ·rename_i e
  have e:z2h hs x=none:=by simpa using e
  unfold hNd
  rw [List.map_append,List.nodup_append]
  refine ⟨h,by simp,fun y hy z hz=>?_⟩
  have:z=x:=by simpa using hz
  subst this
  exact fun q=>hVal_none.mp e (q ▸ hy)
theorem zcc (hs:List (Nat×Nat)) (o n:Nat):(z8g hs o n).map (·.1)=hs.map (·.1):=by simp [z8g]
theorem znp {hs:List (Nat×Nat)} (h:hNd hs) (a:An):hNd (z6t hs a):=by
 have h2:=zb2 (zb2 h a.1) a.2.1
 unfold z6t
 dsimp only
 split
 ·unfold hNd;rw [zcc];exact h2
 ·exact h2
theorem z7h (hs:List (Nat×Nat)) (x:Nat):(z2r hs x).length≤hs.length+1:=by
 unfold z2r
 split <;> simp
theorem zka (hs:List (Nat×Nat)) (a:An):(z6t hs a).length≤hs.length+2:=by
 have h1:=z7h hs a.1
 have h2:=z7h (z2r hs a.1) a.2.1
 unfold z6t
 dsimp only
 split
 ·unfold z8g;rw [List.length_map];omega
 ·omega
theorem zgs (as:List An) (n:Nat) (a:An) (h:as[n]?=some a):z2q (as.take (n+1))=z6t (z2q (as.take n)) a:=by
 rw [List.take_succ,h]
 exact za9 _ _
theorem znm (as:List An):hNd (z2q as):=by
 have:∀ (as:List An) (hs:List (Nat×Nat)),hNd hs→hNd (as.foldl z6t hs):=by
  intro as
  induction as with
  | nil=>exact fun _ h=>h
  | cons a r ih=>exact fun hs h=>ih _ (znp h a)
 exact this as [] (by simp [hNd])
theorem zk8 (as:List An):(z2q as).length≤2*as.length:=by
 have:∀ (as:List An) (hs:List (Nat×Nat)),(as.foldl z6t hs).length≤hs.length+2*as.length:=by
  intro as
  induction as with
  | nil=>exact fun _=>by simp
  | cons a r ih =>
   intro hs
   have h1:=ih (z6t hs a)
   have h2:=zka hs a
   simp only [List.foldl_cons,List.length_cons]
   omega
 have:=this as []
 simpa [z2q] using this
theorem zn7 {ps:List Addr} (h:ps.Nodup) {i j:Nat} {p:Addr} (a:ps[i]?=some p) (b:ps[j]?=some p):i=j:=by
 obtain ⟨l1,g1⟩:=List.getElem?_eq_some_iff.mp a
 obtain ⟨l2,g2⟩:=List.getElem?_eq_some_iff.mp b
 rcases Nat.lt_trichotomy i j with z | z | z
 ·exact absurd (g1.trans g2.symm) ((List.pairwise_iff_getElem.mp h) i j l1 l2 z)
 ·exact z
 ·exact absurd (g2.trans g1.symm) ((List.pairwise_iff_getElem.mp h) j i l2 l1 z)
theorem zeg (elt tg iter tg2 iter2:Expr) (ifs ifs2:List Expr) (scope:Scope) (pos:Pos) (it acc:Value) (env:Env) :
  compTurn (.ListComp elt [⟨tg,iter,ifs,0⟩,⟨tg2,iter2,ifs2,0⟩] scope pos) 0 it acc env=(do
   standAt iter.pos
   match ← pyNext it with
   | none=>pure (.done .next)
   | some v =>
    letOwnedTupleGo tg it v
    assign tg env v
    let mut ok:=true
    for c in ifs do
     if ok then ok ← isTrue c env (eval c env)
    if ok then
     let x ← eval iter2 env
     standAt iter2.pos
     let x ← foldedSetIterable iter2 env x
     let _ ← runOwn (.compStart (.ListComp elt [⟨tg,iter,ifs,0⟩,⟨tg2,iter2,ifs2,0⟩] scope pos) 1 (← holding [x] (pyIter x)) acc env) env
    again (.compLoop (.ListComp elt [⟨tg,iter,ifs,0⟩,⟨tg2,iter2,ifs2,0⟩] scope pos) 0 it acc env)):=by rfl
theorem zef (elt tg iter tg2 iter2:Expr) (ifs ifs2:List Expr) (scope:Scope) (pos:Pos) (it acc:Value) (env:Env) :
  compTurn (.ListComp elt [⟨tg,iter,ifs,0⟩,⟨tg2,iter2,ifs2,0⟩] scope pos) 1 it acc env=(do
   standAt iter2.pos
   match ← pyNext it with
   | none=>pure (.done .next)
   | some v =>
    letOwnedTupleGo tg2 it v
    assign tg2 env v
    let mut ok:=true
    for c in ifs2 do
     if ok then ok ← isTrue c env (eval c env)
    if ok then
     (do let _ ← call (.builtin "list.append") [acc,← eval elt env])
    again (.compLoop (.ListComp elt [⟨tg,iter,ifs,0⟩,⟨tg2,iter2,ifs2,0⟩] scope pos) 1 it acc env)):=by rfl
section
variable {prog:Program} {w:World} {A:Around} {R:Result→Shared→Prop} {s:Shared} {elt tg iter tg2 iter2:Expr} {ifs ifs2:List Expr} {scope:Scope} {pos:Pos} {it acc:Value} {env:Env}
theorem zbe (hs2:∀ x,foldedSetIterable iter2 env x=pure x) (I:Nat→Shared→Prop)
  (turn:∀ n s,I n s→wpAny (model prog w) A (pyNext it) (fun r s₁=>match r with
   | none=>R (.ok .next) s₁
   | some v=>wpAny (model prog w) A (letOwnedTupleGo tg it v) (fun _ s₁'=>wpAny (model prog w) A (assign tg env v) (fun _ s₂ =>
     wpAny (model prog w) A (forIn ifs true fun c r=>if r=true then do let ok ← isTrue c env (eval c env);pure (ForInStep.yield ok) else pure (ForInStep.yield r)) (fun ok s₃ =>
      if ok=true then wpAny (model prog w) A (eval iter2 env) (fun x s₄=>wpAny (model prog w) A (pyIter x) (fun it2 s₅ =>
       wpAny (model prog w) A (runOwn (.compStart (.ListComp elt [⟨tg,iter,ifs,0⟩,⟨tg2,iter2,ifs2,0⟩] scope pos) 1 it2 acc env) env) (fun _ s₆=>∃ m,m<n∧I m s₆) (fun _ _=>False) s₅) (fun _ _=>False) s₄) (fun _ _=>False) s₃
      else ∃ m,m<n∧I m s₃) (fun _ _=>False) s₂) (fun _ _=>False) s₁') (fun _ _=>False) s₁) (fun _ _=>False) s)
  (n:Nat) (h:I n s):codeAny (model prog w) A (.compLoop (.ListComp elt [⟨tg,iter,ifs,0⟩,⟨tg2,iter2,ifs2,0⟩] scope pos) 0 it acc env) R s:=by
 refine codeAny_loop rfl I (fun n s hI=>?_) n h
 show wpAny _ A ((compTurn (.ListComp elt [⟨tg,iter,ifs,0⟩,⟨tg2,iter2,ifs2,0⟩] scope pos) 0 it acc env).onRaise (fun x=>do noteFrame x env;theTreesLotGoes x)) _ _ s
 refine wpAny_noted ?_
 rw [zeg]
 refine wpAny_mono (E:=fun _ _=>False) ?_ (fun _ _ x=>x) fun _ _ x=>x.elim
 refine wpAny_bind (wpAny_standAt (wpAny_bind (wpAny_mono (turn n s hI) (fun r s₁ h₁=>?_) fun _ _ h'=>h')))
 cases r with
 | none=>exact wpAny_pure h₁
 | some v =>
  refine wpAny_bind (wpAny_mono h₁ (fun _ s₁' h₁'=>?_) fun _ _ h'=>h')
  refine wpAny_bind (wpAny_mono h₁' (fun _ s₂ h₂=>wpAny_bind (wpAny_mono h₂ (fun ok s₃ h₃=>?_) fun _ _ h'=>h')) fun _ _ h'=>h')
  cases ok with
  | false=>exact wpAny_pure ⟨rfl,h₃⟩
  | true=>exact wpAny_bind (wpAny_mono h₃ (fun x s₄ h₄=>wpAny_bind (wpAny_standAt (wpAny_bind (wpAny_of_eq (hs2 x) (wpAny_bind (wpAny_holding (wpAny_mono h₄ (fun it2 s₅ h₅=>wpAny_bind (wpAny_mono h₅ (fun _ s₆ h₆=>wpAny_pure ⟨rfl,h₆⟩) fun _ _ h'=>h')) fun _ _ h'=>h'))))))) fun _ _ h'=>h')
theorem zcs (I:Nat→Shared→Prop)
  (turn:∀ n s,I n s→wpAny (model prog w) A (pyNext it) (fun r s₁=>match r with
   | none=>R (.ok .next) s₁
   | some v=>wpAny (model prog w) A (letOwnedTupleGo tg2 it v) (fun _ s₁'=>wpAny (model prog w) A (assign tg2 env v) (fun _ s₂ =>
     wpAny (model prog w) A (forIn ifs2 true fun c r=>if r=true then do let ok ← isTrue c env (eval c env);pure (ForInStep.yield ok) else pure (ForInStep.yield r)) (fun ok s₃ =>
      if ok=true then wpAny (model prog w) A (eval elt env) (fun x s₄ =>
       wpAny (model prog w) A (call (.builtin "list.append") [acc,x]) (fun _ s₅=>∃ m,m<n∧I m s₅) (fun _ _=>False) s₄) (fun _ _=>False) s₃
      else ∃ m,m<n∧I m s₃) (fun _ _=>False) s₂) (fun _ _=>False) s₁') (fun _ _=>False) s₁) (fun _ _=>False) s)
  (n:Nat) (h:I n s):codeAny (model prog w) A (.compLoop (.ListComp elt [⟨tg,iter,ifs,0⟩,⟨tg2,iter2,ifs2,0⟩] scope pos) 1 it acc env) R s:=by
 refine codeAny_loop rfl I (fun n s hI=>?_) n h
 show wpAny _ A ((compTurn (.ListComp elt [⟨tg,iter,ifs,0⟩,⟨tg2,iter2,ifs2,0⟩] scope pos) 1 it acc env).onRaise (fun x=>do noteFrame x env;theTreesLotGoes x)) _ _ s
 refine wpAny_noted ?_
 rw [zef]
 refine wpAny_mono (E:=fun _ _=>False) ?_ (fun _ _ x=>x) fun _ _ x=>x.elim
 refine wpAny_bind (wpAny_standAt (wpAny_bind (wpAny_mono (turn n s hI) (fun r s₁ h₁=>?_) fun _ _ h'=>h')))
 cases r with
 | none=>exact wpAny_pure h₁
 | some v =>
  refine wpAny_bind (wpAny_mono h₁ (fun _ s₁' h₁'=>?_) fun _ _ h'=>h')
  refine wpAny_bind (wpAny_mono h₁' (fun _ s₂ h₂=>wpAny_bind (wpAny_mono h₂ (fun ok s₃ h₃=>?_) fun _ _ h'=>h')) fun _ _ h'=>h')
  cases ok with
  | false=>exact wpAny_pure ⟨rfl,h₃⟩
  | true =>
   exact wpAny_bind (wpAny_bind (wpAny_mono h₃ (fun x s₄ h₄=>wpAny_bind (wpAny_mono h₄ (fun _ s₅ h₅=>wpAny_pure (wpAny_pure ⟨rfl,h₅⟩)) fun _ _ h'=>h')) fun _ _ h'=>h'))
theorem zbd (h0:codeAny (model prog w) A (.compLoop (.ListComp elt [⟨tg,iter,ifs,0⟩,⟨tg2,iter2,ifs2,0⟩] scope pos) 1 it acc env) R s)
  (h:wpAny (model prog w) A (pyIter it) (fun it' s'=>codeAny (model prog w) A (.compLoop (.ListComp elt [⟨tg,iter,ifs,0⟩,⟨tg2,iter2,ifs2,0⟩] scope pos) 1 it' acc env) R s')
   (notedBy (model prog w) A env fun x s'=>R (.error x) s') s) :
  codeAny (model prog w) A (.compStart (.ListComp elt [⟨tg,iter,ifs,0⟩,⟨tg2,iter2,ifs2,0⟩] scope pos) 1 it acc env) R s:=by
 refine codeAny_of_tree ?_
 show wpAny _ _ ((compStart (.ListComp elt [⟨tg,iter,ifs,0⟩,⟨tg2,iter2,ifs2,0⟩] scope pos) 1 it acc env).onRaise (fun x=>do noteFrame x env;standAt theWindowsPlace)) _ _ s
 refine wpAny_notedAt ?_
 unfold compStart
 show wpAny _ _ (ask >>= _) _ _ s
 refine wpAny_bind (wpAny_askSetting (wpAny_ite ?_))
 split
 ·first
   | exact wpAny_bind (wpAny_pure (wpAny_pure (And.intro rfl h0)))
   | exact wpAny_pure (And.intro rfl h0)
 ·first
   | exact wpAny_bind (wpAny_rule (wpAny_bind (wpAny_standAt (wpAny_bind (wpAny_mono h (fun it' s' h'=>wpAny_pure (And.intro rfl h')) fun _ _ x=>x)))))
   | (refine wpAny_bind (wpAny_rule ?_);show wpAny _ _ (standAt iter2.pos >>= _) _ _ s;exact wpAny_bind (wpAny_standAt (wpAny_bind (wpAny_mono h (fun it' s' h'=>wpAny_pure (And.intro rfl h')) fun _ _ x=>x))))
end
noncomputable def zej (J:It) (g:TG) (tc:TT) (te:TE) (D:Addr) (σ0:St) (H0:Hp) (Z:St→Hp→Prop):Prop :=
 ∃ W:Nat→Nat→St→Hp→Prop,(∃ m,W 0 m σ0 H0)∧∀ i m σ H,W i m σ H →
  (J.stop i H∧Z σ H)∨(J.go i H∧∃ N:St→Hp→Prop,(∀ σ' H',N σ' H'→∃ m',m'<m∧W (i+1) m' σ' H')∧∀ x H',J.yld i H x H'→g x σ H' fun σ2 H2=>tc σ2 H2 fun b H3 =>
   if b=true then te σ2 H3 fun v H4=>∃ ys,H4 D=some (.lst ys)∧ys.length<sizeLine∧N σ2 (upd H4 D (.lst (ys++[v]))) else N σ2 H3)
noncomputable def z3u (J:It) (g:TG) (tc:TT) (wi2:TI) (g2:TG) (tc2:TT) (te:TE) (D:Addr) (σ0:St) (H0:Hp) (Z:Hp→Prop):Prop :=
 ∃ W:Nat→Nat→St→Hp→Prop,(∃ m,W 0 m σ0 (upd H0 D (.lst [])))∧∀ i m σ H,W i m σ H →
  (J.stop i H∧Z H)∨(J.go i H∧∃ N:St→Hp→Prop,(∀ σ' H',N σ' H'→∃ m',m'<m∧W (i+1) m' σ' H')∧∀ x H',J.yld i H x H'→g x σ H' fun σ2 H2=>tc σ2 H2 fun b H3 =>
   if b=true then wi2 σ2 H3 fun J2 H4=>zej J2 g2 tc2 te D σ2 H4 N else N σ2 H3)
section
variable {X:Cx} {pins:List (Addr×Obj)} {σ:St} {N' own:List Str} {cap:List (Str×Nat)} {scope:Scope} {tg iter elt tg2 iter2:Expr} {ifs ifs2:List Expr} {pos:Pos} {g g2:TG} {tc tc2:TT} {te:TE} {wi wi2:TI}
theorem zv3 {s:Shared} {H:Hp} {D:Addr} {Z:St→Hp→Prop} (hx:∀ e s,X.xe e s→False) (hc:X.calm=true) (hi:PI X tg2 iter2 wi2) (hg:PG X tg2 g2) (ht:PIf X ifs2 tc2) (he:PE X elt te)
  (I:Inv X pins σ H s) (h:wi2 σ H fun J H1=>zej J g2 tc2 te D σ H1 Z) :
  wpAny (model X.prog X.w) X.A (eval iter2 X.env) (fun x s₄=>wpAny (model X.prog X.w) X.A (pyIter x) (fun it2 s₅ =>
   wpAny (model X.prog X.w) X.A (runOwn (.compStart (.ListComp elt [⟨tg,iter,ifs,0⟩,⟨tg2,iter2,ifs2,0⟩] scope pos) 1 it2 (.ref D) X.env) X.env) (fun _ s'=>∃ σ' H',Inv X pins σ' H' s'∧Z σ' H') (fun _ _=>False) s₅) (fun _ _=>False) s₄) (fun _ _=>False) s:=by
 have noX:∀ {α:Type} {t:Sem α} {Q:α→Shared→Prop} {s:Shared},wpAny (model X.prog X.w) X.A t Q X.xe s→wpAny (model X.prog X.w) X.A t Q (fun _ _=>False) s:=fun q=>wpAny_mono q (fun _ _ z=>z) fun e s z=>hx e s z
 refine noX (thn (hi pins s σ H _ I h) fun v s1 h1=>?_)
 refine noX (thn h1 fun itv s2 h2=>?_)
 refine bq fun bG=>?_
 obtain ⟨it,fp,tn,J,H2,e,I2,T,st2,f2,W,⟨m0,w0⟩,turn⟩:=h2
 subst e
 have stat:∀ {H':Hp},(∀ b∈fp,H' b=none)→∀ b∈fp,z72 X pins H' b:=fun hn b hb=>⟨hn b hb,(f2 b hb).2⟩
 refine bG (wpAny_runOwn ?_)
 have loop:codeAny (model X.prog X.w) X.A (.compLoop (.ListComp elt [⟨tg,iter,ifs,0⟩,⟨tg2,iter2,ifs2,0⟩] scope pos) 1 (.ref it) (.ref D) X.env)
   (fun r s'=>match r with | .ok f=>∃ σ' H',Inv X pins σ' H' s'∧Z σ' H' | .error e=>cameBackBy (model X.prog X.w) X.A X.env (fun _ _=>False) e s') s2:=by
  obtain ⟨P,hP⟩:∃ P:Nat→Shared→Prop,∀ n s',P n s'↔∃ i σ' H',Inv X pins σ' H' s'∧tn i s'.heap∧(∀ b∈fp,H' b=none)∧W i n σ' H':=⟨_,fun _ _=>Iff.rfl⟩
  refine zcs P ?_ m0 ((hP _ _).2 ⟨0,σ,H2,I2,st2,fun b hb=>(f2 b hb).1,w0⟩)
  rintro n s3 h3
  obtain ⟨i,σ3,H3,I3,st3,fr3,w3⟩:=(hP _ _).1 h3
  rcases turn i n σ3 H3 w3 with ⟨stop,qz⟩ | ⟨go,N,hN,step⟩
  ·refine wpAny_mono (T.done X rfl rfl rfl hc i pins s3 σ3 H3 (fun _ _=>False) I3 (stat fr3) st3 stop) (fun r s4 ⟨hr,I4⟩=>?_) fun _ _ z=>z
   subst hr
   exact ⟨σ3,H3,I4,qz⟩
  ·refine wpAny_mono (T.item X rfl rfl rfl hc i pins s3 σ3 H3 (fun _ _=>False) I3 (stat fr3) st3 go) (fun r s4 ⟨u,hr,h4⟩=>?_) fun _ _ z=>z
   subst hr
   refine wpAny_mono h4 (fun _ s5 hm=>?_) fun _ _ z=>z
   obtain ⟨x,H5,I5,r5,y5,st5,fr5⟩:=hm
   have I5':=I5.pinned (stat fr5) (T.obj _ _ st5)
   have again:∀ {σ7:St} {H7:Hp} {s7:Shared},Inv X (pins++z74 fp s5.heap) σ7 H7 s7→N σ7 H7→∃ m,m<n∧P m s7:=fun {σ7 H7 s7} I7 n7=>by
    refine bq fun bG=>?_
    obtain ⟨m',hm,w7⟩:=hN σ7 H7 n7
    refine bG (⟨m',hm,(hP _ _).2 ⟨i+1,σ7,H7,I7.unpinned,T.keep _ _ _ st5 fun b hb o e=>(I7.pin (b,o) (List.mem_append_right _ (List.mem_append_right _ (z1d hb e)))).1,fun b hb=>?_,w7⟩⟩)
    refine bq fun bG=>?_
    obtain ⟨o,e,d⟩:=T.obj _ _ st5 b hb
    exact bG ((I7.pin (b,o) (List.mem_append_right _ (List.mem_append_right _ (z1d hb e)))).2.1)
   refine noX (thn (hg _ s5 σ3 H5 x u _ I5' r5 (step x H5 y5)) fun _ s6 hm=>?_)
   refine bq fun bG=>?_
   obtain ⟨σ6,H6,I6,q6⟩:=hm
   refine bG (noX (thn (ht _ s6 σ6 H6 _ I6 q6) fun b s7 hm=>?_))
   obtain ⟨H7,I7,q7⟩:=hm
   cases b with
   | false =>
    show ∃ m,_
    exact again I7 q7
   | true =>
    show wpAny _ _ _ _ _ _
    refine noX (thn (he _ s7 σ6 H7 _ I7 q7) fun y s8 hm=>?_)
    refine bq fun bG=>?_
    obtain ⟨v,H8,I8,r8,ys,hy,hz,q8⟩:=hm
    refine bG (noX (thn (z87 (X:=X) _ s8 σ6 H8 (.ref D) [v] (.ref D) [y] (fun _ H'=>N σ6 H') I8 rfl (.cons r8 .nil) ⟨_,ys,v,rfl,rfl,hy,hz,q8⟩) fun _ s9 hm=>?_))
    refine bq fun bG=>?_
    obtain ⟨_,H9,I9,_,q9⟩:=hm
    exact bG (again I9 q9)
 exact zbd loop (T.self _ 0 _ _ _ st2 loop)
theorem zh3 {Y:Cx} {s:Shared} {σ0:St} {H2:Hp} {it D:Addr} {fp:List Addr} {tn:Nat→Heap→Prop} {J:It} {Z:Hp→Prop} {R:Result→Shared→Prop} (hs2:∀ x,foldedSetIterable iter2 Y.env x=pure x)
  (hx:∀ e s,Y.xe e s→False) (hc:Y.calm=true) (hg:PG Y tg g) (ht:PIf Y ifs tc) (hi2:PI Y tg2 iter2 wi2) (hg2:PG Y tg2 g2) (ht2:PIf Y ifs2 tc2) (he:PE Y elt te)
  (T:Turn Y.prog Y.w Y.K tg J fp it tn) (J0:Inv Y [] σ0 (upd H2 D (.lst [])) s) (st3:tn 0 s.heap) (f3:∀ b∈fp,upd H2 D (.lst []) b=none)
  (stat:∀ {H':Hp},(∀ b∈fp,H' b=none)→∀ b∈fp,z72 Y [] H' b) (h:z3u J g tc wi2 g2 tc2 te D σ0 H2 Z)
  (hR:∀ σ4 H4 s5,Inv Y [] σ4 H4 s5→Z H4→R (.ok .next) s5) :
  codeAny (model Y.prog Y.w) Y.A (.compLoop (.ListComp elt [⟨tg,iter,ifs,0⟩,⟨tg2,iter2,ifs2,0⟩] scope pos) 0 (.ref it) (.ref D) Y.env) R s:=by
 obtain ⟨W,⟨m0,w0⟩,turn⟩:=h
 have noX:∀ {α:Type} {t:Sem α} {Q:α→Shared→Prop} {s:Shared},wpAny (model Y.prog Y.w) Y.A t Q Y.xe s→wpAny (model Y.prog Y.w) Y.A t Q (fun _ _=>False) s:=fun q=>wpAny_mono q (fun _ _ z=>z) fun e s z=>hx e s z
 obtain ⟨P,hP⟩:∃ P:Nat→Shared→Prop,∀ n s',P n s'↔∃ i σ' H',Inv Y [] σ' H' s'∧tn i s'.heap∧(∀ b∈fp,H' b=none)∧W i n σ' H':=⟨_,fun _ _=>Iff.rfl⟩
 refine zbe hs2 P ?_ m0 ((hP _ _).2 ⟨0,_,_,J0,st3,f3,w0⟩)
 rintro n s4 h4
 obtain ⟨i,σ4,H4,I4,st4,fr4,w4⟩:=(hP _ _).1 h4
 rcases turn i n σ4 H4 w4 with ⟨stop,qz⟩ | ⟨go,N,hN,step⟩
 ·refine wpAny_mono (T.done Y rfl rfl rfl hc i [] s4 σ4 H4 (fun _ _=>False) I4 (stat fr4) st4 stop) (fun r s5 ⟨hr,I5⟩=>?_) fun _ _ z=>z
  subst hr
  exact hR σ4 H4 s5 I5 qz
 ·refine wpAny_mono (T.item Y rfl rfl rfl hc i [] s4 σ4 H4 (fun _ _=>False) I4 (stat fr4) st4 go) (fun r s5 ⟨u,hr,h5⟩=>?_) fun _ _ z=>z
  subst hr
  refine wpAny_mono h5 (fun _ s6 hm=>?_) fun _ _ z=>z
  obtain ⟨x,H6,I6,r6,y6,st6,fr6⟩:=hm
  have I6':=I6.pinned (stat fr6) (T.obj _ _ st6)
  have again:∀ {σ7:St} {H7:Hp} {s7:Shared},Inv Y ([]++z74 fp s6.heap) σ7 H7 s7→N σ7 H7→∃ m,m<n∧P m s7:=fun {σ7 H7 s7} I7 n7=>by
   refine bq fun bG=>?_
   obtain ⟨m',hm,w7⟩:=hN σ7 H7 n7
   refine bG (⟨m',hm,(hP _ _).2 ⟨i+1,σ7,H7,I7.unpinned,T.keep _ _ _ st6 fun b hb o e=>(I7.pin (b,o) (List.mem_append_right _ (List.mem_append_right _ (z1d hb e)))).1,fun b hb=>?_,w7⟩⟩)
   refine bq fun bG=>?_
   obtain ⟨o,e,d⟩:=T.obj _ _ st6 b hb
   exact bG ((I7.pin (b,o) (List.mem_append_right _ (List.mem_append_right _ (z1d hb e)))).2.1)
  refine noX (thn (hg _ s6 σ4 H6 x u _ I6' r6 (step x H6 y6)) fun _ s7 hm=>?_)
  refine bq fun bG=>?_
  obtain ⟨σ7,H7,I7,q7⟩:=hm
  refine bG (noX (thn (ht _ s7 σ7 H7 _ I7 q7) fun b s8 hm=>?_))
  obtain ⟨H8,I8,q8⟩:=hm
  cases b with
  | false =>
   show ∃ m,_
   exact again I8 q8
  | true =>
   show wpAny _ _ _ _ _ _
   refine wpAny_mono (zv3 (X:=Y) hx hc hi2 hg2 ht2 he I8 q8) (fun _ _ z=>wpAny_mono z (fun _ _ z=>wpAny_mono z (fun _ s9 ⟨σ9,H9,I9,q9⟩=>again I9 q9) fun _ _ z=>z) fun _ _ z=>z) fun _ _ z=>z
theorem zh4 {s2:Shared} {H2:Hp} {it:Addr} {fp:List Addr} {tn:Nat→Heap→Prop} {J:It} {cl:List (Str×Addr)} {Z:Addr→Hp→Prop} {RR:Value→Addr→Result→Shared→Prop} {E:Value→Shared→Prop}
  (hx:∀ e s,X.xe e s→False) (hc:X.calm=true) (S:CompScope X N' own cap scope)
  (hg:∀ cl C s₀ H₀ ex,PG (z0c X N' scope cl C s₀ H₀ ex) tg g) (ht:∀ cl C s₀ H₀ ex,PIf (z0c X N' scope cl C s₀ H₀ ex) ifs tc) (hi2:∀ cl C s₀ H₀ ex,PI (z0c X N' scope cl C s₀ H₀ ex) tg2 iter2 wi2) (hg2:∀ cl C s₀ H₀ ex,PG (z0c X N' scope cl C s₀ H₀ ex) tg2 g2) (ht2:∀ cl C s₀ H₀ ex,PIf (z0c X N' scope cl C s₀ H₀ ex) ifs2 tc2) (he:∀ cl C s₀ H₀ ex,PE (z0c X N' scope cl C s₀ H₀ ex) elt te) (hs2:∀ cl C x,foldedSetIterable iter2 (compEnvC scope cl C X.env) x=pure x)
  (I2:Inv X pins σ H2 s2) (T:Turn X.prog X.w X.K tg J fp it tn) (st2:tn 0 s2.heap) (f2:∀ b∈fp,z72 X pins H2 b)
  (c1:∀ y c,cl.lookup y=some c→X.env.cells.lookup y=some c) (c2:∀ y,(y,NameKind.free)∈scope.names→∃ c,cl.lookup y=some c)
  (h:∀ D,H2 D=none→z3u J g tc wi2 g2 tc2 te D (z3t own cap σ) H2 (Z D))
  (hRR:∀ D C s' m' H',Inv X pins σ H' s'→s'.heap.Ns C m'→z72 X pins H' C→Z D H'→RR (.ref D) C (.ok .next) s') :
  wpAny (model X.prog X.w) X.A (newList []) (fun acc s₃=>wpAny (model X.prog X.w) X.A (newFunctionEnv scope X.env.globals cl [] X.env.qual none .none (some X.env)) (fun cenv s₄ =>
   codeAny (model X.prog X.w) X.A (.compStart (.ListComp elt [⟨tg,iter,ifs,0⟩,⟨tg2,iter2,ifs2,0⟩] scope pos) 0 (.ref it) acc { cenv with scope:=relabel scope X.env }) (RR acc cenv.locals) s₄) E s₃) E s2:=by
 have hlt:∀ b∈fp,b<s2.heap.objs.size:=fun b hb=>by
  refine bq fun bG=>?_
  obtain ⟨o,e,_⟩:=T.obj _ _ st2 b hb
  exact bG (Heap.lt_size e)
 have hD:H2 s2.heap.objs.size=none:=I2.hok.fresh (Nat.le_refl _)
 refine wpAny_newObj_type (z3z (fun h₁ hns₁ hk₁ hce₁=>?_))
 dsimp only at hns₁ hk₁ hce₁ ⊢
 have I3:Inv X pins σ (upd H2 s2.heap.objs.size (.lst [])) { s2 with heap:=s2.heap.push { cls:=.type "list",dict:=none,data:=.seq ([]:List Value).toArray },toks:=s2.toks } :=
  I2.laid (fun b o e=>Heap.get?_push_of_some _ e) (Nat.le_refl _) ⟨Nat.zero_le _,[],0,.nil,Heap.get?_push_size _ rfl⟩
 generalize hs3:({ s2 with heap:=s2.heap.push { cls:=.type "list",dict:=none,data:=.seq ([]:List Value).toArray },toks:=s2.toks }:Shared)=s3 at I3
 have e3:s2.heap.push { cls:=.type "list",dict:=none,data:=.seq ([]:List Value).toArray }=s3.heap:=by rw [← hs3]
 have hsz:s3.heap.objs.size=s2.heap.objs.size+1:=by rw [← e3,Heap.size_push]
 rw [e3] at hns₁ hk₁ hce₁ ⊢
 have hk:=hk₁
 have hcl:∀ y c,cl.lookup y=some c→¬ s3.heap.objs.size<c:=fun y c e z=>by
  refine bq fun bG=>?_
  obtain ⟨v,o,ho,_⟩:=I3.cell y c (c1 y c e)
  exact bG (Nat.lt_irrefl _ (Nat.lt_trans z (Heap.lt_size ho)))
 have CA:CellsAre X scope s3.heap.objs.size cl (cellsFrom (s3.heap.objs.size+1) scope.names cl):=z8w (h:=s3.heap.push { cls:=.type "dict",data:=.dict #[] }) (by rw [Heap.size_push]) S hcl
 have hcell:∀ y c,(cellsFrom (s3.heap.objs.size+1) scope.names cl).lookup y=some c→s3.heap.objs.size<c→h₁.IsCell c none:=fun y c e z=>by
  rw [z12,z1v] at e
  cases q:(cellsFrom (s3.heap.objs.size+1) scope.names []).lookup y with
  | none=>rw [q] at e;exact absurd z (hcl y c e)
  | some c' =>
   rw [q] at e
   have:c'=c:=Option.some.inj e
   subst this
   exact hce₁ y c' (PySem.mem_of_lookup q)
 generalize hcs:cellsFrom (s3.heap.objs.size+1) scope.names cl=cs at CA hcell ⊢
 have f3:∀ b∈fp,z72 X pins (upd H2 s2.heap.objs.size (.lst [])) b:=fun b hb=>⟨by rw [z0h (Nat.ne_of_lt (hlt b hb))];exact (f2 b hb).1,(f2 b hb).2⟩
 have hlt3:∀ b∈fp,b<s3.heap.objs.size:=fun b hb=>by rw [hsz];exact Nat.lt_succ_of_lt (hlt b hb)
 have st3:tn 0 h₁:=T.keep _ _ _ st2 fun b hb o e=>hk b o (by rw [← e3];exact Heap.get?_push_of_some _ e)
 have J0:Inv (z0c X N' scope cs s3.heap.objs.size s3 (upd H2 s2.heap.objs.size (.lst [])) fp) [] (z3t own cap σ) (upd H2 s2.heap.objs.size (.lst [])) { s3 with heap:=h₁,toks:=s2.toks } :=
  comp_inv I3 S CA hcell c1 c2 f3 hlt3 hk hns₁
 have stat:∀ {pl:List (Addr×Obj)} {H':Hp},pl=[]→(∀ b∈fp,H' b=none)→∀ b∈fp,z72 (z0c X N' scope cs s3.heap.objs.size s3 (upd H2 s2.heap.objs.size (.lst [])) fp) pl H' b:=fun {pl H'} hp hn b hb=>by
  subst hp
  refine ⟨hn b hb,Nat.ne_of_lt (hlt3 b hb),J0.ok.exfs b hb,.inl hb,fun x c e=>J0.ok.exf b hb |>.2 x c e,fun p hp=>absurd hp (by show p∉([]++[]:List (Addr×Obj));simp)⟩
 have loop:codeAny (model X.prog X.w) X.A (.compLoop (.ListComp elt [⟨tg,iter,ifs,0⟩,⟨tg2,iter2,ifs2,0⟩] scope pos) 0 (.ref it) (.ref s2.heap.objs.size) (compEnvC scope cs s3.heap.objs.size X.env)) (RR (.ref s2.heap.objs.size) s3.heap.objs.size)
   { s3 with heap:=h₁,toks:=s2.toks }:=zh3 (Y:=z0c X N' scope cs s3.heap.objs.size s3 (upd H2 s2.heap.objs.size (.lst [])) fp) (hs2 _ _) hx hc (hg _ _ _ _ _) (ht _ _ _ _ _) (hi2 _ _ _ _ _) (hg2 _ _ _ _ _) (ht2 _ _ _ _ _) (he _ _ _ _ _) T J0 st3 (fun b hb=>(f3 b hb).1) (stat rfl) (h _ hD) fun σ4 H4 s5 I5 qz=>by
  have I6:Inv X pins σ H4 s5:=I3.call' (ch:=fp) I5.os I5.base I5.hok I5.bare fun b hb=>⟨(f3 b hb).2.2.2.1,(f3 b hb).2.1,(f3 b hb).2.2.2.2.1,(f3 b hb).2.2.2.2.2⟩
  refine bq fun bG=>?_
  obtain ⟨m',hn',_⟩:=I5.loc
  exact bG (hRR _ _ s5 m' H4 I6 hn' (I3.fpOk (Nat.le_refl _) I5.free) qz)
 have lp:codeAny (model X.prog X.w) X.A (.compStart (.ListComp elt [⟨tg,iter,ifs,0⟩,⟨tg2,iter2,ifs2,0⟩] scope pos) 0 (.ref it) (.ref s2.heap.objs.size) (compEnvC scope cs s3.heap.objs.size X.env)) (RR (.ref s2.heap.objs.size) s3.heap.objs.size)
   { s3 with heap:=h₁,toks:=s2.toks }:=codeAny_compStart_list loop (T.self _ 0 _ _ _ st3 loop)
 subst hs3
 exact lp
theorem zdn {i:Nat} {y:Str} {py spos:Pos} (hN:X.N.Nodup) (hi':X.N[i]?=some y) (hy:X.env.scope.names.lookup y=some .local) (S:CompScope X N' own cap scope) (hi:PI X tg iter wi)
  (hg:∀ cl C s₀ H₀ ex,PG (z0c X N' scope cl C s₀ H₀ ex) tg g) (ht:∀ cl C s₀ H₀ ex,PIf (z0c X N' scope cl C s₀ H₀ ex) ifs tc)
  (hi2:∀ cl C s₀ H₀ ex,PI (z0c X N' scope cl C s₀ H₀ ex) tg2 iter2 wi2) (hg2:∀ cl C s₀ H₀ ex,PG (z0c X N' scope cl C s₀ H₀ ex) tg2 g2) (ht2:∀ cl C s₀ H₀ ex,PIf (z0c X N' scope cl C s₀ H₀ ex) ifs2 tc2)
  (he:∀ cl C s₀ H₀ ex,PE (z0c X N' scope cl C s₀ H₀ ex) elt te)
  (hsw:swapsWith (.ListComp elt [⟨tg,iter,ifs,0⟩,⟨tg2,iter2,ifs2,0⟩] scope pos) (some (.Name y py)) spos.line X.env=pure true:=by rfl)
  (hx:∀ e s,X.xe e s→False:=by exact fun _ _ z=>z) (hc:X.calm=true:=by rfl) (hs:∀ x,foldedSetIterable iter X.env x=pure x:=by intro _;rfl) (hs2:∀ cl C x,foldedSetIterable iter2 (compEnvC scope cl C X.env) x=pure x:=by intro _ _ _;rfl) :
  PS X (.Assign [.Name y py] (.ListComp elt [⟨tg,iter,ifs,0⟩,⟨tg2,iter2,ifs2,0⟩] scope pos) spos) (fun D σ H=>wi σ H fun J H1=>∀ p,H1 p=none→z3u J g tc wi2 g2 tc2 te p (z3t own cap σ) H1 (fun H2=>D.nx (σ.set i (some (.ref p))) H2)):=by
 intro pins s σ H D I h
 obtain ⟨cl,hcl,c1,c2⟩:=z2g (scope:=scope) (env:=X.env) fun y hy hk=>I.ok.has y.1 (S.free y hy hk)
 rw [exec_Assign_Name_used _ _ _ _ hsw]
 refine wpAny_bind (wpAny_standAt (wpAny_bind ?_))
 show wpAny _ _ (do let _ ← comprehension (.ListComp elt [⟨tg,iter,ifs,0⟩,⟨tg2,iter2,ifs2,0⟩] scope pos) scope X.env _ (newList []) false (eval iter X.env) (some (assign (.Name y py) X.env))) _ _ s
 refine wpAny_bind (wpAny_mono (wpAny_comprehension_free (use:=some (assign (.Name y py) X.env)) (Q:=fun _ s'=>SP X pins D .next s') rfl hs hcl S.kind S.names
  (thn (hi pins s σ H _ I h) fun v s1 h1=>thn h1 fun itv s2 h2=>?_)) (fun _ s' hq=>wpAny_pure (wpAny_pure hq)) fun _ _ e=>e)
 refine bq fun bG=>?_
 obtain ⟨it,fp,tn,J,H2,e,I2,T,st2,f2,q⟩:=h2
 subst e
 refine bG (zh4 (RR:=fun acc C=>compPost (model X.prog X.w) X.A X.xe (some (assign (.Name y py) X.env)) (fun _ s'=>SP X pins D .next s') acc C) (Z:=fun p H2=>D.nx (σ.set i (some (.ref p))) H2) hx hc S hg ht hi2 hg2 ht2 he hs2 I2 T st2 f2 c1 c2 q ?_)
 intro p C s' m' H' I' hn' f' z
 show wpAny _ _ (assign (.Name y py) X.env (.ref p)) _ _ _
 refine wpAny_assign_Name (z7v I' hN hi' (.inl hy) (v:=.ref p) rfl (fun s'' I'' hm=>?_) (.inr hy))
 obtain ⟨a,hsb,ha⟩:=hm
 have hCa:C≠a:=by
  rcases ha with z | z
  ·rw [z];exact f'.2.1
  ·exact fun e=>f'.2.2.2.2.1 y a z e.symm
 refine ⟨m',hn'.sameBut hsb hCa,fun h3 hs3=>?_⟩
 exact ⟨_,H',I''.letgo f' hs3,z⟩
end
section
variable {prog:Program} {w:World} {A:Around} {R:Result→Shared→Prop} {I:Addr} {fp wr:List Addr} {n:Nat} {P:Nat→Value→Prop} {St:Nat→Heap→Prop}
end
noncomputable def z4z (ns:List Int):Nat:=(firstMet (fun i=>ns.getD i 0) ns.length).length
noncomputable def zeb (ns:List Int):Int→Bool:=fun k=>(firstMet (fun i=>ns.getD i 0) ns.length).any (·==k)
section
variable {X:Cx} {a:Expr} {ta:TE} {p pos:Pos}
theorem zyq (K:PySem.W.Frag) (mm:X.mg "set" = none) (ha:PE X a ta) (hc:X.calm=true:=by rfl) (hg:Gl X "set" := by rfl) (hs:starEach [a] X.env=[(false,eval a X.env)]:=by rfl) (hK:X.K=K:=by rfl) :
  PE X (.Call (.Name "set" p) [a] [] pos) (fun σ H Q=>ta σ H fun x H1=>∃ (q:Addr) (ns:List Int),[x]=[.ref q]∧SqL K H1 q (ns.map V.int)∧ns.length≤4000∧∀ d,H1 d=none→Q (.ref d) (upd H1 d (.set (zeb ns) (z4z ns)))):=by
 subst hK
 have rule:z60 X (.type "set") (fun xs H Q=>∃ (q:Addr) (ns:List Int),xs=[.ref q]∧SqL X.K H q (ns.map V.int)∧ns.length≤4000∧∀ d,H d=none→Q (.ref d) (upd H d (.set (zeb ns) (z4z ns)))):=by
  intro pins s σ H xs us Q I r h
  obtain ⟨q,ns,rfl,hq,hn,k⟩:=h
  obtain ⟨u,rfl,ru⟩:=z96 r
  cases ru
  obtain ⟨its,rv,pl,hz⟩:=I.list hq
  have hl:=rv.length
  rw [List.length_map] at hl
  refine call_set_list (I.ok.hd hc) pl.isList (by simpa using z6s rv) (by simp only [List.size_toArray,scanBound];omega) fun h' tk hS kp=>?_
  refine ⟨.ref s.heap.objs.size,_,I.laid (t':=tk) (o:=.set (zeb ns) (z4z ns)) (fun b o e=>kp b o (Heap.lt_size e) e) (Nat.le_refl _) ?_,rfl,k _ (I.hok.fresh (Nat.le_refl _))⟩
  have e:its.toArray.size=ns.length:=by simp only [List.size_toArray];exact hl.symm
  rw [e] at hS
  exact hS
 exact z67 rule hg mm rfl (z0q ha z1g hs) (he:=hs)
theorem zxc (mm:X.mg "len" = none) (ha:PE X a ta) (hg:Gl X "len" := by rfl) (hs:starEach [a] X.env=[(false,eval a X.env)]:=by rfl) :
  PE X (.Call (.Name "len" p) [a] [] pos) (fun σ H Q=>ta σ H fun x H1=>∃ (d:Addr) (S:Int→Bool) (n:Nat),[x]=[.ref d]∧H1 d=some (.set S n)∧Q (.int (n:Int)) H1):=by
 have rule:z60 X (.builtin "len") (fun xs H Q=>∃ (d:Addr) (S:Int→Bool) (n:Nat),xs=[.ref d]∧H d=some (.set S n)∧Q (.int (n:Int)) H):=by
  intro pins s σ H xs us Q I r h
  obtain ⟨d,S,n,rfl,hd,k⟩:=h
  obtain ⟨u,rfl,ru⟩:=z96 r
  cases ru
  obtain ⟨o,es,ep,t,h1,h2,h3,_,_,h6,h7,h8⟩:=(show s.heap.SetOf (intKind X.prog X.w) d S n from I.hok d _ hd)
  refine call_len_set h1 h2 h3 h7 (by unfold scanBound at h6;omega) ?_
  rw [h8]
  exact ⟨.int n,H,I.tok _,⟨_,rfl⟩,k⟩
 exact z39 rule hg mm PySem.boot_len (z0q ha z1g hs) (he:=hs)
end
end L2
namespace L2
open PySem PySem.W PySem.Spec PySem.Calls PyProof.Rows PySem.Builtin PySem.Builtin.ObjectAttr PySem.Builtin.Getset_descriptor
section
variable {prog:Program} {w:World} {A:Around} {E:Value→Shared→Prop} {s:Shared} {K:Frag} {x D:Addr} {ox:Obj}
end
noncomputable def zyp (e D:Addr):HO:=.ext fun h=>∃ o,h.get? e=some o∧o.cls=.ref D
section
variable {X:Cx} {a b:Expr} {ta tb:TE} {p pos:Pos}
end
noncomputable def PJ (X:Cx) (es:List Expr) (t:St→Hp→(Hp→Prop)→Prop):Prop :=
 ∀ (pins:List (Addr×Obj)) (s:Shared) (σ:St) (H:Hp) (Q:Hp→Prop) (acc:Str) (n:Nat),acc.length≤n→n+2000*es.length≤1000000→Inv X pins σ H s→t σ H Q →
  wpAny (model X.prog X.w) X.A (joinParts acc (evalEach es X.env)) (fun u s'=>∃ z t H',u=.str z t∧Inv X pins σ H' s'∧Q H') X.xe s
section
variable {X:Cx} {e e2:Expr} {es:List Expr} {te:TE} {t:St→Hp→(Hp→Prop)→Prop} {p pos:Pos}
theorem ztp:PJ X [] (fun _ H Q=>Q H):=fun pins s σ H Q acc n h1 h2 I h=>joinParts_nil ⟨acc,_,H,rfl,I.tok _,h⟩ (by rw [sizeLine_eq];simp at h2;omega)
theorem zto {x:Str} {j:Nat} (hx:x.length≤2000) (hr:PJ X es t):PJ X (.Constant (.str x) j p::es) t:=by
 intro pins s σ H Q acc n h1 h2 I h
 have hl:(acc++x).length≤n+2000:=by rw [strLen_append];omega
 simp only [List.length_cons] at h2
 show wpAny _ _ (joinParts acc (eval (.Constant (.str x) j p) X.env::evalEach es X.env)) _ _ s
 refine joinParts_cons (thn (zoy pins s σ H (fun v H'=>v=.str x∧H'=H) I ⟨rfl,rfl⟩) fun u s1 hm=>?_)
 obtain ⟨v,H1,I1,r1,e1,e2⟩:=hm
 subst e1 e2
 obtain ⟨tk,rfl⟩:=r1
 exact ⟨by rw [sizeLine_eq];omega,hr pins s1 σ _ Q _ (n+2000) hl (by omega) I1 h⟩
theorem ztq (he:PE X e te) (hr:PJ X es t):PJ X (.FormattedValue e (-1) none p::es) (fun σ H Q=>te σ H fun v H1=>∃ i,v=.int i∧i.natAbs.log2<1920∧t σ H1 Q):=by
 intro pins s σ H Q acc n h1 h2 I h
 simp only [List.length_cons] at h2
 show wpAny _ _ (joinParts acc (eval (.FormattedValue e (-1) none p) X.env::evalEach es X.env)) _ _ s
 refine joinParts_cons (FormattedValue_plain (thn (he pins s σ H _ I h) fun u s1 hm=>?_))
 refine bq fun bG=>?_
 obtain ⟨v,H1,I1,r1,i,ev,hi,q⟩:=hm
 subst ev
 obtain ⟨tk,rfl⟩:=r1
 refine bG (formatField_int_small hi ?_)
 have hz:=int_text_len_1921 hi
 have hl:(acc++Str.ofString (toString i)).length≤n+2000:=by rw [strLen_append];omega
 exact ⟨by rw [sizeLine_eq];omega,hr pins _ σ H1 Q _ (n+2000) hl (by omega) (I1.tok _) q⟩
theorem zqq (h:PJ X (e::e2::es) t) (hl:(e::e2::es).length≤400:=by decide):PE X (.JoinedStr (e::e2::es) pos) (fun σ H Q=>t σ H fun H1=>∀ z,Q (.str z) H1):=by
 intro pins s σ H Q I q
 refine JoinedStr_many ?_
 refine thn (h pins s σ H _ Str.empty 0 (Nat.zero_le _) (by omega) I q) fun u s' hm=>?_
 refine bq fun bG=>?_
 obtain ⟨z,tk,H',eu,I',q'⟩:=hm
 exact bG (⟨.str z,H',I',⟨tk,eu⟩,q' z⟩)
end
end L2
namespace L2
open PySem PySem.Spec PyProof.Rows
theorem ObjOk.there {P:Program} {w:World} {H:Hp} {h:Heap} {a:Addr} {o:HO} (x:ObjOk P w H h a o):∃ ob,h.get? a=some ob:=by
 cases o with
 | lst xs=>obtain ⟨_,_,_,_,e⟩:=x;exact ⟨_,e⟩
 | tup xs=>obtain ⟨_,_,_,p⟩:=x;obtain ⟨ob,e,_⟩:=p;exact ⟨_,e⟩
 | dK kvs=>obtain ⟨_,_,_,_,o,_,_,e,_⟩:=x;exact ⟨_,e⟩
 | dT kvs=>obtain ⟨_,_,_,_,o,_,_,e,_⟩:=x;exact ⟨_,e⟩
 | set S n=>obtain ⟨o,_,_,_,e,_⟩:=x;exact ⟨_,e⟩
 | ins C dx fs=>obtain ⟨_,_,_,e,_⟩:=x;exact ⟨_,e⟩
 | own y=>obtain ⟨_,e⟩:=x;exact ⟨_,e⟩
 | xd fs=>obtain ⟨_,⟨_,_,_,e,_⟩,_⟩:=x;exact ⟨_,e⟩
 | rng lo hi=>obtain ⟨_,_,_,e⟩:=x;exact ⟨_,e⟩
 | frz ob u=>obtain ⟨e,_⟩:=x;exact ⟨_,e⟩
 | tbl ps=>exact ⟨_,(show h.get? a=some _ from x)⟩
 | met f y=>exact ⟨_,(show h.get? a=some _ from x)⟩
 | ext φ=>obtain ⟨_,e,_⟩:=x;exact e
structure Flew (P:Program) (w:World) (outer:List Env) (H H':Hp) (s:Shared) (e:Addr) (C:Value) (B:Heap) (s':Shared):Prop where
 os:s'.os=s.os
 bare:AllBare s'.gens
 un:Un (frs outer) [] H H' s.heap s'.heap
 hok:HOk P w H' s'.heap
 trk:∀ b o,s'.heap.get? b=some o→H' b≠none→B.get? b=some o
 old:∀ b o,s.heap.get? b=some o→H b=none→b∉frs outer→B.get? b=some o
 thr:∀ b o,s.heap.get? b=some o→b∉frs outer→∃ o',B.get? b=some o'
 frf:∀ b∈frs outer,H b=none
 unt:H' e=none
 new:s.heap.get? e=none
 fly:∃ a0,Heap.FlyingW B outer e C a0 s'.heap
noncomputable def CXr (P:Program) (w:World):CXT:=fun outer H s E e s'=>∃ (a:Addr) (C:Value) (H':Hp) (B:Heap),e=.ref a∧Flew P w outer H H' s a C B s'∧E C none H'
section
variable {P:Program} {w:World} {outer:List Env} {H H':Hp} {s s':Shared} {e:Addr} {C:Value} {B:Heap}
theorem Flew.to {h2:Heap} (F:Flew P w outer H H' s e C B s') (hB:B.StaysIn h2) (hs:s'.heap.UpToSlots h2):Un (frs outer) [] H H' s.heap h2∧HOk P w H' h2∧∀ b o,h2.get? b=some o→H' b≠none→B.get? b=some o:=by
 obtain ⟨a0,fl⟩:=F.fly
 have kp:∀ b o,s.heap.get? b=some o→H b=none→b∉frs outer→h2.get? b=some o:=fun b o x n hb=>hB b o (F.old b o x n hb)
 have sl:∀ b o,s.heap.get? b=some o→H b=none→b∈frs outer→∃ sl,h2.get? b=some { o with slots:=sl }:=fun b o x n hb=>by
  refine bq fun bG=>?_
  obtain ⟨sl,e1⟩:=F.un.slot b o x n hb (by simp)
  obtain ⟨_,o',e2,d⟩:=fl.2.2.1.mem hb
  rw [e1] at e2
  cases e2
  obtain ⟨sl',e3⟩:=hs b { o with slots:=sl } e1 d
  exact bG (⟨sl',e3⟩)
 refine ⟨⟨fun b o x n hb _=>kp b o x n hb,fun b o x n hb _=>sl b o x n hb,F.un.free,fun b o x _=>?_,F.un.tups,F.un.frzs,F.un.tbls⟩,fun a u eu=>?_,fun b o x n=>?_⟩
 ·by_cases hb:b∈frs outer
  ·obtain ⟨l,e1⟩:=sl b o x (F.frf b hb) hb
   exact ⟨_,e1⟩
  ·obtain ⟨o',e1⟩:=F.thr b o x hb
   exact ⟨o',hB b o' e1⟩
 ·refine (F.hok a u eu).stay (fun b v hb q=>hB b v (F.trk b v q ?_)) (fun _ q=>q) fun _ _ q=>q
  rcases hb with z | z
  ·rw [z,eu];simp
  ·rw [z];simp
 ·cases eu:H' b with
  | none=>exact absurd eu n
  | some u =>
   refine bq fun bG=>?_
   obtain ⟨o1,e1⟩:=(F.hok b u eu).there
   have e2:=F.trk b o1 e1 n
   have e3:=hB b o1 e2
   rw [x] at e3
   cases e3
   exact bG (e2)
theorem Flew.next {h2:Heap} (F:Flew P w outer H H' s e C B s') (hs:s'.heap.UpToSlots h2) (fl:∃ a0,Heap.FlyingW B outer e C a0 h2):Flew P w outer H H' s e C B { s' with heap:=h2 }:=by
 refine bq fun bG=>?_
 obtain ⟨a0,fl⟩:=fl
 obtain ⟨u,k,t⟩:=F.to fl.1 hs
 exact bG (⟨F.os,F.bare,u,k,t,F.old,F.thr,F.frf,F.unt,F.new,a0,fl⟩)
theorem Flew.inv {X:Cx} {pins:List (Addr×Obj)} {σ:St} (F:Flew X.prog X.w X.stack H H' s e C B s') (I:Inv X pins σ H s):Inv X pins σ H' s' :=
 I.call' (ch:=[]) F.os F.un F.hok F.bare fun _ z=>nomatch z
end
section
variable {P:Program} {w:World} {K:PySem.W.Frag} {mg:Str→Option Value} {base:Heap} {N:List Str} {qual:Str} {scope:Scope} {f:Addr} {cd:Value} {A:Around} {outer:List Env} {s s1:Shared} {H H1:Hp} {E E':XK}
 {pins:List (Addr×Obj)} {σ:St}
theorem zt5 {h':Heap} {e C:Addr} {vs:List Value} (I:Inv (z4a (CXr P w) P w K mg base N qual scope f cd A outer s H E) pins σ H1 s1) (hx:Heap.MadeExcOf s1.heap h' e (.ref C) vs) (hE:E (.ref C) none H1) :
  (z4a (CXr P w) P w K mg base N qual scope f cd A outer s H E).xe (.ref e) { s1 with heap:=h' }:=by
 have fs:∀ b,b∈frs (envOfC qual scope s.heap.objs.size f cd::outer)→H1 b=none:=I.stkFree
 have inn:∀ b o,s1.heap.get? b=some o→b∉frs (envOfC qual scope s.heap.objs.size f cd::outer)→(PySem.W.hideAll s1.heap (frs (envOfC qual scope s.heap.objs.size f cd::outer))).get? b=some o:=fun b o e hb=>PySem.W.hideAll_get _ e hb
 have out:∀ b o,s.heap.get? b=some o→b∉frs outer→b∉frs (envOfC qual scope s.heap.objs.size f cd::outer):=fun b o e hb z=>by
  have z:b∈s.heap.objs.size::frs outer:=z
  rcases List.mem_cons.mp z with q | q
  ·rw [q] at e;exact Nat.lt_irrefl _ (Heap.lt_size e)
  ·exact hb q
 have frf:∀ b∈frs outer,H b=none:=I.ok.frf
 have hin:∀ env∈(envOfC qual scope s.heap.objs.size f cd::outer),∀ a,env.frame=some a→a∈frs (envOfC qual scope s.heap.objs.size f cd::outer):=fun env he a ha=>List.mem_filterMap.mpr ⟨env,he,ha⟩
 show wpAny (model P w) (A.deeper (envOfC qual scope s.heap.objs.size f cd)) (leaving (envOfC qual scope s.heap.objs.size f cd) (.ref e)) _ _ _
 refine wpAny_leaves_madeW (base:=PySem.W.hideAll s1.heap (frs (envOfC qual scope s.heap.objs.size f cd::outer))) I.ok.frames rfl (fun b o q=>PySem.W.of_hideAll _ q) (PySem.W.funFrames_hide I.stack hin) hx fun h2 t fl _ _ ups=>?_
 have hB:=fl.1
 have sl:∀ b o,s.heap.get? b=some o→H b=none→b∈frs outer→∃ sl,h2.get? b=some { o with slots:=sl }:=fun b o x n hb=>by
  refine bq fun bG=>?_
  obtain ⟨sl,e1⟩:=I.base.slot b o x n hb (by simp [z4a])
  obtain ⟨_,o',e2,d⟩:=I.stack.mem (show b∈s.heap.objs.size::frs outer from List.mem_cons_of_mem _ hb)
  rw [e1] at e2
  cases e2
  obtain ⟨sl',e3⟩:=ups b { o with slots:=sl } (hx.keeps b { o with slots:=sl } e1) d
  exact bG (⟨sl',e3⟩)
 have old:∀ b o,s.heap.get? b=some o→H b=none→b∉frs outer→(PySem.W.hideAll s1.heap (frs (envOfC qual scope s.heap.objs.size f cd::outer))).get? b=some o:=fun b o x n hb =>
  inn b o (I.base.keep b o x n hb (by simp [z4a])) (out b o x hb)
 have thr:∀ b o,s.heap.get? b=some o→b∉frs outer→∃ o',(PySem.W.hideAll s1.heap (frs (envOfC qual scope s.heap.objs.size f cd::outer))).get? b=some o':=fun b o x hb=>by
  refine bq fun bG=>?_
  obtain ⟨o',e1⟩:=I.base.there b o x (by simp [z4a])
  exact bG (⟨o',inn b o' e1 (out b o x hb)⟩)
 have nfr:∀ b,H1 b≠none→b∉frs (envOfC qual scope s.heap.objs.size f cd::outer):=fun b n z=>n (fs b z)
 refine ⟨e,.ref C,H1,_,rfl,⟨I.os,I.bare,⟨fun b o x n hb _=>hB b o (old b o x n hb),fun b o x n hb _=>sl b o x n hb,fun b o x n _=>I.base.free b o x n (by simp [z4a]),fun b o x _=>?_,I.base.tups,I.base.frzs,I.base.tbls⟩,fun a u eu=>?_,fun b o x n=>?_,old,thr,frf,?_,?_,_,fl⟩,hE⟩
 ·by_cases hb:b∈frs outer
  ·obtain ⟨l,e1⟩:=sl b o x (frf b hb) hb
   exact ⟨_,e1⟩
  ·obtain ⟨o',e1⟩:=thr b o x hb
   exact ⟨o',hB b o' e1⟩
 ·refine (I.hok a u eu).stay (fun b v hb q=>hB b v (inn b v q (nfr b ?_))) (fun _ q=>q) fun _ _ q=>q
  rcases hb with z | z
  ·rw [z,eu];simp
  ·rw [z];simp
 ·cases eu:H1 b with
  | none=>exact absurd eu n
  | some u =>
   refine bq fun bG=>?_
   obtain ⟨o1,e1⟩:=(I.hok b u eu).there
   have e2:=inn b o1 e1 (nfr b n)
   have e3:=hB b o1 e2
   rw [x] at e3
   cases e3
   exact bG (e2)
 ·cases eu:H1 e with
  | none=>rfl
  | some u =>
   obtain ⟨o1,e1⟩:=(I.hok e u eu).there
   rw [hx.new] at e1
   cases e1
 ·cases eo:s.heap.get? e with
  | none=>rfl
  | some o =>
   obtain ⟨o1,e1⟩:=I.base.there e o eo (by simp [z4a])
   rw [hx.new] at e1
   cases e1
theorem zqw (hE:∀ C d H',E' C d H'→E C d H'):zfz (CXr P w) (z4a (CXr P w) P w K mg base N qual scope f cd A outer s H E) E':=by
 intro pins σ H1 s1 e s' I hc
 obtain ⟨a,C,H',B,rfl,F,q⟩:=hc
 have F:Flew P w (envOfC qual scope s.heap.objs.size f cd::outer) H1 H' s1 a C B s':=F
 obtain ⟨a0,fl⟩:=F.fly
 have I2:Inv (z4a (CXr P w) P w K mg base N qual scope f cd A outer s H E) pins σ H' s':=Flew.inv (X:=z4a (CXr P w) P w K mg base N qual scope f cd A outer s H E) F I
 have out:∀ b o,s.heap.get? b=some o→b∉frs outer→b∉frs (envOfC qual scope s.heap.objs.size f cd::outer):=fun b o e hb z=>by
  have z:b∈s.heap.objs.size::frs outer:=z
  rcases List.mem_cons.mp z with q | q
  ·rw [q] at e;exact Nat.lt_irrefl _ (Heap.lt_size e)
  ·exact hb q
 obtain ⟨f1,f2,⟨_,_,f3⟩,f4⟩:=id fl
 have G:Flew P w outer H H' s a C B s':=by
  refine ⟨I2.os,F.bare,⟨fun b o x n hb _=>I2.base.keep b o x n hb (by simp [z4a]),fun b o x n hb _=>I2.base.slot b o x n hb (by simp [z4a]),fun b o x n _=>I2.base.free b o x n (by simp [z4a]),fun b o x _=>I2.base.there b o x (by simp [z4a]),I2.base.tups,I2.base.frzs,I2.base.tbls⟩,F.hok,F.trk,
   fun b o x n hb=>F.old b o (I.base.keep b o x n hb (by simp [z4a])) (I.base.free b o x n (by simp [z4a])) (out b o x hb),fun b o x hb=>?_,I.ok.frf,F.unt,?_,a0,f1,f2,f3,f4⟩
  ·obtain ⟨o1,e1⟩:=I.base.there b o x (by simp [z4a])
   exact F.thr b o1 e1 (out b o x hb)
  ·cases eo:s.heap.get? a with
   | none=>rfl
   | some o =>
    obtain ⟨o1,e1⟩:=I.base.there a o eo (by simp [z4a])
    rw [F.new] at e1
    cases e1
 show wpAny (model P w) (A.deeper (envOfC qual scope s.heap.objs.size f cd)) (leaving (envOfC qual scope s.heap.objs.size f cd) (.ref a)) _ _ _
 exact wpAny_leaves_onW I.ok.frames rfl fl fun h2 fl2 ups=>⟨a,C,H',B,rfl,G.next ups ⟨_,fl2⟩,hE C none H' q⟩
end
section
variable {prog:Program} {w:World} {A:Around} {R:Result→Shared→Prop} {I l:Addr} {items:Array Value} {ls:List Nat} {d:Value}
end
section
variable {X:Cx} {a b:Expr} {ta tb:TE} {p p2 pos kp kp2:Pos}
end
section
variable {prog:Program} {w:World} {A:Around} {R:Result→Shared→Prop} {I:Addr} {fp wr:List Addr} {n:Nat} {P:Nat→Value→Prop} {St:Nat→Heap→Prop}
end
section
variable {prog:Program} {w:World} {A:Around} {E:Value→Shared→Prop} {s:Shared}
end
section
variable {X:Cx}
end
end L2
namespace L3
open PySem PySem.Spec L2
inductive D where
 | non | bl (b:Bool) | int (i:Int) | str (x:Str) | lst (xs:List D) | scr (xs:List D) | tup (xs:List D) | gt (xs:List D) | ref (k:Nat)
inductive O where
 | lst (xs:List D) | dK (kvs:List (Key×D)) | ins (C:Addr) (fs:List (Str×D)) | exc (C:Addr)
noncomputable abbrev M:=List (Option O)
noncomputable abbrev G:=List (Option D)
structure Wd where
 ρ:List Addr
 μ:M
 H:Hp
 hid:Addr→Prop
def SqF (K:PySem.W.Frag) (H:Hp) (a:Addr) (xs:List V):Prop:=(∃ o,H a=some (.frz o (.lst xs))) ∨
  ∃ (o:Obj) (its:Array Value) (n:Nat),K.lookup a=some o∧o.cls=.type "list" ∧ o.dict=none∧o.data=.seq its n∧its.size≤sizeLine∧Vals xs its.toList
theorem SqF.seq {K:PySem.W.Frag} {H:Hp} {a:Addr} {xs:List V} (h:SqF K H a xs):SqL K H a xs:=by
 rcases h with h | h
 ·exact .inl (.inr h)
 ·exact .inr h
def RL (W:Wd) (a:Addr):Prop:=∃ (k:Nat) (o:O),W.μ[k]?=some (some o)∧W.ρ[k]?=some a
def zvq (W:Wd) (a:Addr):Prop:=RL W a∨W.hid a
mutual
inductive DR (K:PySem.W.Frag) (W:Wd):D→V→Prop where
 | non:DR K W .non .non
 | bl (b:Bool):DR K W (.bl b) (.bl b)
 | int (i:Int):DR K W (.int i) (.int i)
 | str (x:Str):DR K W (.str x) (.str x)
 | ref {k:Nat} {a:Addr}:W.ρ[k]?=some a→DR K W (.ref k) (.ref a)
 | lst {a:Addr} {vs:List V} {ds:List D}:W.H a=some (.lst vs)→¬ zvq W a→DRs K W ds vs→DR K W (.lst ds) (.ref a)
 | scr {a:Addr} {vs:List V} {ds:List D}:SqF K W.H a vs→DRs K W ds vs→DR K W (.scr ds) (.ref a)
 | tup {a:Addr} {vs:List V} {ds:List D}:W.H a=some (.tup vs)→DRs K W ds vs→DR K W (.tup ds) (.ref a)
 | gt {a:Addr} {vs:List V} {ds:List D}:SqT K W.H a vs→DRs K W ds vs→DR K W (.gt ds) (.ref a)
inductive DRs (K:PySem.W.Frag) (W:Wd):List D→List V→Prop where
 | nil:DRs K W [] []
 | cons {d:D} {v:V} {ds:List D} {vs:List V}:DR K W d v→DRs K W ds vs→DRs K W (d::ds) (v::vs)
end
def KR (K:PySem.W.Frag) (W:Wd):List (Key×D)→List (Key×V)→Prop:=Paired fun p q=>p.1=q.1∧DR K W p.2 q.2
def FR (K:PySem.W.Frag) (W:Wd):List (Str×D)→List (Str×V)→Prop:=Paired fun p q=>p.1=q.1∧DR K W p.2 q.2
def OR (K:PySem.W.Frag) (W:Wd) (a:Addr):O→HO→Prop
 | .lst ds,ho=>∃ vs,ho=.lst vs∧DRs K W ds vs
 | .dK kvs,ho=>∃ vs,ho=.dK vs∧KR K W kvs vs
 | .ins C fs,ho=>∃ vs,(∃ dx,ho=.ins C dx vs)∧FR K W fs vs
 | .exc C,ho=>ho=zyp a C
structure Ok (K:PySem.W.Frag) (W:Wd):Prop where
 len:W.ρ.length=W.μ.length
 nd:W.ρ.Nodup
 rs:∀ a∈W.ρ,W.H a≠none
 at_:∀ (k:Nat) (o:O),W.μ[k]?=some (some o)→∃ a ho,W.ρ[k]?=some a∧W.H a=some ho∧OR K W a o ho
 hd0:∀ a,W.hid a→W.H a≠none∧a∉W.ρ
theorem Ok.hd {K:PySem.W.Frag} {W:Wd} (ok:Ok K W):∀ a,W.hid a→W.H a≠none∧¬ RL W a:=fun a z=>⟨(ok.hd0 a z).1,fun ⟨_,_,_,h⟩=>(ok.hd0 a z).2 (List.mem_of_getElem? h)⟩
structure Step (W W':Wd):Prop where
 ρ:∀ (k:Nat) a,W.ρ[k]?=some a→W'.ρ[k]?=some a
 live:∀ a,RL W' a→RL W a∨W.H a=none
 keep:∀ a o,W.H a=some o→¬ RL W a→W'.H a=some o
 hid:W'.hid=W.hid
 still:∀ a,W.H a≠none→W'.H a≠none
structure EnvR (K:PySem.W.Frag) (W:Wd) (Γ:G) (σ:St):Prop where
 len:Γ.length=σ.length
 at_:∀ (i:Nat) d,Γ[i]?=some (some d)→∃ v,σ[i]?=some (some v)∧DR K W d v
section
variable {K:PySem.W.Frag} {W W' W'':Wd} {Γ:G} {σ:St}
theorem Step.refl:Step W W:=⟨fun _ _ h=>h,fun _ h=>.inl h,fun _ _ h _=>h,rfl,fun _ h=>h⟩
theorem Step.nlive (s:Step W W') {a:Addr} {o:HO} (h:W.H a=some o) (n:¬ RL W a):¬ RL W' a:=fun z=>by
 rcases s.live a z with z | z
 ·exact n z
 ·rw [h] at z;cases z
theorem Step.trans (s:Step W W') (t:Step W' W''):Step W W'' where
 ρ k a h:=t.ρ k a (s.ρ k a h)
 live a h:=by
  rcases t.live a h with z | z
  ·exact s.live a z
  ·exact .inr (Classical.byContradiction fun n=>s.still a n z)
 keep a o h n:=t.keep a o (s.keep a o h n) (s.nlive h n)
 hid:=t.hid.trans s.hid
 still a h:=t.still a (s.still a h)
theorem Step.nLive (s:Step W W') {a:Addr} {o:HO} (h:W.H a=some o) (n:¬ zvq W a):¬ zvq W' a:=fun z=>by
 rcases z with z | z
 ·exact s.nlive h (fun q=>n (.inl q)) z
 ·rw [s.hid] at z;exact n (.inr z)
theorem zqc (s:Step W W') {a:Addr} {u:HO} (n:¬ RL W a) (r:Rd W.H a u):Rd W'.H a u:=by
 rcases r with h | ⟨o,h⟩
 ·exact .inl (s.keep _ _ h n)
 ·exact .inr ⟨o,s.keep _ _ h n⟩
theorem Ok.notup (ok:Ok K W) {a:Addr} {vs:List V} (r:Rd W.H a (.tup vs)):¬ RL W a:=fun ⟨k,o,hk,ha⟩=>by
 obtain ⟨a',ho,h1,h2,h3⟩:=ok.at_ k o hk
 rw [ha] at h1
 cases h1
 rcases r with h | ⟨q,h⟩
 ·rw [h2] at h
  cases o with
  | lst ds=>obtain ⟨ws,rfl,_⟩:=h3;cases h
  | dK kvs=>obtain ⟨ws,rfl,_⟩:=h3;cases h
  | ins C fs=>obtain ⟨ws,⟨dx,rfl⟩,_⟩:=h3;cases h
  | exc C=>cases (show _=_ from h3);cases h
 ·rw [h2] at h
  cases o with
  | lst ds=>obtain ⟨ws,rfl,_⟩:=h3;cases h
  | dK kvs=>obtain ⟨ws,rfl,_⟩:=h3;cases h
  | ins C fs=>obtain ⟨ws,⟨dx,rfl⟩,_⟩:=h3;cases h
  | exc C=>cases (show _=_ from h3);cases h
theorem zi7 (ok:Ok K W) (s:Step W W') {a:Addr} {vs:List V} (h:SqT K W.H a vs):SqT K W'.H a vs:=by
 rcases h with h | h
 ·exact .inl (zqc s (ok.notup h) h)
 ·exact .inr h
theorem Ok.nofrz (ok:Ok K W) {a:Addr} {u:HO} {q:Obj} (h:W.H a=some (.frz q u)):¬ RL W a:=fun ⟨k,o,hk,ha⟩=>by
 obtain ⟨a',ho,h1,h2,h3⟩:=ok.at_ k o hk
 rw [ha] at h1
 cases h1
 rw [h2] at h
 cases o with
 | lst ds=>obtain ⟨ws,rfl,_⟩:=h3;cases h
 | dK kvs=>obtain ⟨ws,rfl,_⟩:=h3;cases h
 | ins C fs=>obtain ⟨ws,⟨dx,rfl⟩,_⟩:=h3;cases h
 | exc C=>cases (show _=_ from h3);cases h
theorem zie (ok:Ok K W) (s:Step W W') {a:Addr} {vs:List V} (h:SqF K W.H a vs):SqF K W'.H a vs:=by
 rcases h with ⟨o,h⟩ | h
 ·exact .inl ⟨o,s.keep _ _ h (ok.nofrz h)⟩
 ·exact .inr h
mutual
theorem DR.step (ok:Ok K W) (s:Step W W'):∀ {d:D} {v:V},DR K W d v→DR K W' d v
 | _,_,.non=>.non
 | _,_,.bl b=>.bl b
 | _,_,.int i=>.int i
 | _,_,.str x=>.str x
 | _,_,.ref h=>.ref (s.ρ _ _ h)
 | _,_,.lst r n h=>.lst (s.keep _ _ r (fun z=>n (.inl z))) (s.nLive r n) (DRs.step ok s h)
 | _,_,.scr r h=>.scr (zie ok s r) (DRs.step ok s h)
 | _,_,.tup r h=>.tup (s.keep _ _ r (ok.notup (.inl r))) (DRs.step ok s h)
 | _,_,.gt r h=>.gt (zi7 ok s r) (DRs.step ok s h)
theorem DRs.step (ok:Ok K W) (s:Step W W'):∀ {ds:List D} {vs:List V},DRs K W ds vs→DRs K W' ds vs
 | _,_,.nil=>.nil
 | _,_,.cons h t=>.cons (h.step ok s) (DRs.step ok s t)
end
theorem KR.step (ok:Ok K W) (s:Step W W') {kvs:List (Key×D)} {vs:List (Key×V)} (h:KR K W kvs vs):KR K W' kvs vs:=Paired.mapP h fun _ _ ⟨e,q⟩=>⟨e,q.step ok s⟩
theorem FR.step (ok:Ok K W) (s:Step W W') {kvs:List (Str×D)} {vs:List (Str×V)} (h:FR K W kvs vs):FR K W' kvs vs:=Paired.mapP h fun _ _ ⟨e,q⟩=>⟨e,q.step ok s⟩
theorem OR.step (ok:Ok K W) (s:Step W W') {a:Addr} {o:O} {ho:HO} (h:OR K W a o ho):OR K W' a o ho:=by
 cases o with
 | lst ds=>obtain ⟨vs,e,q⟩:=h;exact ⟨vs,e,q.step ok s⟩
 | dK kvs=>obtain ⟨vs,e,q⟩:=h;exact ⟨vs,e,q.step ok s⟩
 | ins C fs=>obtain ⟨vs,e,q⟩:=h;exact ⟨vs,e,q.step ok s⟩
 | exc C=>exact h
theorem EnvR.step (e:EnvR K W Γ σ) (ok:Ok K W) (s:Step W W'):EnvR K W' Γ σ:=⟨e.len,fun i d h=>let ⟨v,a,b⟩:=e.at_ i d h;⟨v,a,b.step ok s⟩⟩
theorem DRs.length:∀ {ds:List D} {vs:List V},DRs K W ds vs→ds.length=vs.length
 | _,_,.nil=>rfl
 | _,_,.cons _ t=>by simp [t.length]
theorem DRs.get:∀ {ds:List D} {vs:List V} {i:Nat} {d:D},DRs K W ds vs→ds[i]?=some d→∃ v,vs[i]?=some v∧DR K W d v
 | _,_,_,_,.nil,e=>by simp at e
 | _,_,0,_,.cons h _,e=>by simp at e;subst e;exact ⟨_,rfl,h⟩
 | _,_,i+1,d,.cons _ t,e=>by
  refine bq fun bG=>?_
  obtain ⟨v,h1,h2⟩:=DRs.get (i:=i) (d:=d) t (by simpa using e)
  exact bG (⟨v,by simpa using h1,h2⟩)
theorem DRs.append:∀ {ds es:List D} {vs us:List V},DRs K W ds vs→DRs K W es us→DRs K W (ds++es) (vs++us)
 | _,_,_,_,.nil,s=>s
 | _,_,_,_,.cons h t,s=>.cons h (DRs.append t s)
theorem DRs.take:∀ {ds:List D} {vs:List V} (n:Nat),DRs K W ds vs→DRs K W (ds.take n) (vs.take n)
 | _,_,0,_=>.nil
 | _,_,_+1,.nil=>.nil
 | _,_,n+1,.cons r t=>.cons r (DRs.take n t)
theorem DRs.drop:∀ {ds:List D} {vs:List V} (n:Nat),DRs K W ds vs→DRs K W (ds.drop n) (vs.drop n)
 | _,_,0,r=>r
 | _,_,_+1,.nil=>.nil
 | _,_,n+1,.cons _ t=>DRs.drop n t
theorem DRs.set {d:D} {v:V} (r:DR K W d v):∀ {ds:List D} {vs:List V} (i:Nat),DRs K W ds vs→DRs K W (ds.set i d) (vs.set i v)
 | _,_,_,.nil=>.nil
 | _,_,0,.cons _ t=>.cons r t
 | _,_,i+1,.cons q t=>.cons q (DRs.set r i t)
theorem DRs.erase:∀ {ds:List D} {vs:List V} (i:Nat),DRs K W ds vs→DRs K W (ds.eraseIdx i) (vs.eraseIdx i)
 | _,_,_,.nil=>.nil
 | _,_,0,.cons _ t=>t
 | _,_,i+1,.cons q t=>.cons q (DRs.erase i t)
theorem DRs.reverse {ds:List D} {vs:List V} (h:DRs K W ds vs):DRs K W ds.reverse vs.reverse:=by
 induction ds generalizing vs with
 | nil=>cases h;exact .nil
 | cons d r ih =>
  cases h with
  | cons h t=>simp only [List.reverse_cons];exact (ih t).append (.cons h .nil)
theorem DRs.rep {ds:List D} {vs:List V} (h:DRs K W ds vs):∀ n,DRs K W (List.replicate n ds).flatten (List.replicate n vs).flatten
 | 0=>.nil
 | n+1=>by simp only [List.replicate_succ,List.flatten_cons];exact h.append (DRs.rep h n)
end
section
variable {K:PySem.W.Frag} {W:Wd}
noncomputable def Wd.lay (W:Wd) (p:Addr) (o:HO):Wd:={ W with H:=upd W.H p o }
theorem zke (ok:Ok K W) {p:Addr} (h:W.H p=none):¬ RL W p:=fun ⟨k,o,_,ha⟩=>ok.rs p (List.mem_of_getElem? ha) h
theorem zaa (ok:Ok K W) {p:Addr} (h:W.H p=none):¬ W.hid p:=fun z=>(ok.hd p z).1 h
theorem ze6 (ok:Ok K W) {p:Addr} (h:W.H p=none):¬ zvq W p:=fun z=>z.elim (zke ok h) (zaa ok h)
theorem z0m {p:Addr} {o:HO} (h:W.H p=none):Step W (W.lay p o) where
 ρ _ _ h:=h
 live _ h:=.inl h
 keep a u e _:=by show upd W.H p o a=_;rw [z0h (z0j e h)];exact e
 hid:=rfl
 still a n:=by
  show upd W.H p o a≠none
  by_cases e:a=p
  ·subst e;rw [z0l];simp
  ·rw [z0h e];exact n
theorem z2f (ok:Ok K W) {p:Addr} {o:HO} (h:W.H p=none):Ok K (W.lay p o) where
 len:=ok.len
 nd:=ok.nd
 rs a m:=(z0m h).still a (ok.rs a m)
 at_ k u e:=by
  refine bq fun bG=>?_
  obtain ⟨a,ho,h1,h2,h3⟩:=ok.at_ k u e
  refine bG (⟨a,ho,h1,?_,h3.step ok (z0m h)⟩)
  show upd W.H p o a=_
  rw [z0h (z0j h2 h)];exact h2
 hd0 a z:=⟨(z0m h).still a (ok.hd a z).1,(ok.hd0 a z).2⟩
theorem zjk (ok:Ok K W) {p:Addr} {o:HO} (h:W.H p=none):¬ zvq (W.lay p o) p:=ze6 ok h
theorem z8o (ok:Ok K W) {p:Addr} {ds:List D} {vs:List V} (h:W.H p=none) (r:DRs K W ds vs):DR K (W.lay p (.lst vs)) (.lst ds) (.ref p) :=
 .lst z0l (zjk ok h) (r.step ok (z0m h))
theorem zad (ok:Ok K W) {p:Addr} {ds:List D} {vs:List V} (h:W.H p=none) (r:DRs K W ds vs):DR K (W.lay p (.tup vs)) (.tup ds) (.ref p) :=
 .tup z0l (r.step ok (z0m h))
noncomputable def Wd.new (W:Wd) (p:Addr) (o:HO) (x:O):Wd:={ W with H:=upd W.H p o,ρ:=W.ρ++[p],μ:=W.μ++[some x] }
theorem z7i {α:Type} {l:List α} {x y:α} {k:Nat} (h:(l++[x])[k]?=some y):l[k]?=some y∨(k=l.length∧y=x):=by
 by_cases hk:k<l.length
 ·rw [List.getElem?_append_left hk] at h;exact .inl h
 ·rw [List.getElem?_append_right (by omega)] at h
  have:k - l.length=0:=by
   cases e:k - l.length with
   | zero=>rfl
   | succ n=>rw [e] at h;simp at h
  rw [this] at h
  simp at h
  exact .inr ⟨by omega,h.symm⟩
theorem zt2 (ok:Ok K W) {p a:Addr} {o:HO} {x:O} (h:RL (W.new p o x) a):RL W a∨a=p:=by
 obtain ⟨k,u,h1,h2⟩:=h
 rcases z7i h1 with z | ⟨e,_⟩
 ·rcases z7i h2 with y | ⟨e,y⟩
  ·exact .inl ⟨k,u,z,y⟩
  ·have:=(List.getElem?_eq_some_iff.mp z).1
   rw [e,ok.len] at this
   omega
 ·rcases z7i h2 with y | ⟨_,y⟩
  ·have:=(List.getElem?_eq_some_iff.mp y).1
   rw [e,← ok.len] at this
   omega
  ·exact .inr y
theorem z2n (ok:Ok K W) {p:Addr} {o:HO} {x:O} (h:W.H p=none):Step W (W.new p o x) where
 ρ k a e:=by
  show (W.ρ++[p])[k]?=_
  rw [List.getElem?_append_left (List.getElem?_eq_some_iff.mp e).1];exact e
 live a z:=by
  rcases zt2 ok z with z | rfl
  ·exact .inl z
  ·exact .inr h
 keep a u e _:=by show upd W.H p o a=_;rw [z0h (z0j e h)];exact e
 hid:=rfl
 still a n:=by
  show upd W.H p o a≠none
  by_cases e:a=p
  ·subst e;rw [z0l];simp
  ·rw [z0h e];exact n
theorem zf9 (ok:Ok K W) {p:Addr} {o:HO} {x:O} (h:W.H p=none) (r:OR K W p x o):Ok K (W.new p o x) where
 len:=by show (W.ρ++[p]).length=(W.μ++[some x]).length;simp [ok.len]
 nd:=by
  show (W.ρ++[p]).Nodup
  rw [List.nodup_append]
  refine ⟨ok.nd,by simp,fun a ha b hb e=>?_⟩
  simp at hb
  subst hb e
  exact ok.rs _ ha h
 rs a m:=by
  rcases List.mem_append.mp m with m | m
  ·exact (z2n ok h).still a (ok.rs a m)
  ·simp at m
   subst m
   show upd W.H a o a≠none
   rw [z0l];simp
 at_ k u e:=by
  rcases z7i e with e | ⟨e,y⟩
  ·obtain ⟨a,ho,h1,h2,h3⟩:=ok.at_ k u e
   refine ⟨a,ho,(z2n ok h).ρ k a h1,?_,h3.step ok (z2n ok h)⟩
   show upd W.H p o a=_
   rw [z0h (z0j h2 h)];exact h2
  ·cases y
   rename_i hk
   refine ⟨p,o,?_,z0l,r.step ok (z2n ok h)⟩
   show (W.ρ++[p])[k]?=_
   rw [hk,← ok.len];simp
 hd0 a z:=by
  refine ⟨(z2n ok h).still a (ok.hd a z).1,fun q=>?_⟩
  have q:a∈W.ρ++[p]:=q
  rcases List.mem_append.mp q with q | q
  ·exact (ok.hd0 a z).2 q
  ·simp at q
   subst q
   exact (ok.hd a z).1 h
theorem zfp (ok:Ok K W) {p:Addr} {o:HO} {x:O}:DR K (W.new p o x) (.ref W.μ.length) (.ref p):=by
 refine .ref ?_
 show (W.ρ++[p])[W.μ.length]?=_
 rw [← ok.len];simp
noncomputable def Wd.put (W:Wd) (k:Nat) (a:Addr) (o:HO) (x:O):Wd:={ W with H:=upd W.H a o,μ:=W.μ.set k (some x) }
theorem zt1 {k:Nat} {a b:Addr} {o:HO} {x y:O} (hk:W.μ[k]?=some (some y)):RL (W.put k a o x) b↔RL W b:=by
 have hlt:=(List.getElem?_eq_some_iff.mp hk).1
 constructor
 ·rintro ⟨j,u,h1,h2⟩
  have h1:(W.μ.set k (some x))[j]?=some (some u):=h1
  by_cases e:j=k
  ·subst e;exact ⟨j,y,hk,h2⟩
  ·rw [List.getElem?_set_ne (Ne.symm e)] at h1;exact ⟨j,u,h1,h2⟩
 ·rintro ⟨j,u,h1,h2⟩
  by_cases e:j=k
  ·subst e;exact ⟨j,x,by show (W.μ.set j (some x))[j]?=_;simp [hlt],h2⟩
  ·exact ⟨j,u,by show (W.μ.set k (some x))[j]?=_;rw [List.getElem?_set_ne (Ne.symm e)];exact h1,h2⟩
theorem z4v {k:Nat} {a:Addr} {o:HO} {x y:O} (hk:W.μ[k]?=some (some y)) (ha:W.ρ[k]?=some a):Step W (W.put k a o x) where
 ρ _ _ h:=h
 live b z:=.inl ((zt1 hk).mp z)
 keep b u e n:=by
  have hne:b≠a:=fun z=>n (by rw [z];exact ⟨k,y,hk,ha⟩)
  show upd W.H a o b=_
  rw [z0h hne];exact e
 hid:=rfl
 still b n:=by
  show upd W.H a o b≠none
  by_cases e:b=a
  ·subst e;rw [z0l];simp
  ·rw [z0h e];exact n
theorem zp5 (ok:Ok K W) {k:Nat} {a:Addr} {o:HO} {x y:O} (hk:W.μ[k]?=some (some y)) (ha:W.ρ[k]?=some a) (r:OR K W a x o):Ok K (W.put k a o x) where
 len:=by show W.ρ.length=(W.μ.set k (some x)).length;simp [ok.len]
 nd:=ok.nd
 rs b m:=(z4v hk ha).still b (ok.rs b m)
 at_ j u e:=by
  have e:(W.μ.set k (some x))[j]?=some (some u):=e
  by_cases z:j=k
  ·subst z
   have hlt:=(List.getElem?_eq_some_iff.mp hk).1
   simp [hlt] at e
   subst e
   exact ⟨a,o,ha,z0l,r.step ok (z4v hk ha)⟩
  ·rw [List.getElem?_set_ne (Ne.symm z)] at e
   refine bq fun bG=>?_
   obtain ⟨b,ho,h1,h2,h3⟩:=ok.at_ j u e
   refine bG (⟨b,ho,h1,?_,h3.step ok (z4v hk ha)⟩)
   have hne:b≠a:=fun q=>z (zn7 ok.nd h1 (by rw [q];exact ha))
   show upd W.H a o b=_
   rw [z0h hne];exact h2
 hd0 b z:=⟨(z4v hk ha).still b (ok.hd b z).1,(ok.hd0 b z).2⟩
noncomputable def Wd.hide (W:Wd) (p:Addr) (o:HO):Wd:={ W with H:=upd W.H p o,hid:=fun a=>a=p∨W.hid a }
end
noncomputable abbrev EV:=G→M→Option (D×M)
noncomputable abbrev BV:=G→M→Option (Bool×M)
noncomputable abbrev LV:=G→M→Option (List D×M)
inductive Out where
 | nx | bk | ct | rt (d:D)
noncomputable abbrev SV:=G→M→Option (Out×G×M)
section
variable (K:PySem.W.Frag)
def tD (ev:EV):TE:=fun σ H Q=>∃ (W:Wd) (Γ:G) (d:D) (μ':M),W.H=H∧Ok K W∧EnvR K W Γ σ∧ev Γ W.μ=some (d,μ')∧∀ v W',W'.μ=μ'→Ok K W'→Step W W'→DR K W' d v→Q v W'.H
def tDB (ev:BV):TT:=fun σ H Q=>∃ (W:Wd) (Γ:G) (b:Bool) (μ':M),W.H=H∧Ok K W∧EnvR K W Γ σ∧ev Γ W.μ=some (b,μ')∧∀ W',W'.μ=μ'→Ok K W'→Step W W'→Q b W'.H
def tDL (ev:LV):TA:=fun σ H Q=>∃ (W:Wd) (Γ:G) (ds:List D) (μ':M),W.H=H∧Ok K W∧EnvR K W Γ σ∧ev Γ W.μ=some (ds,μ')∧∀ vs W',W'.μ=μ'→Ok K W'→Step W W'→DRs K W' ds vs→Q vs W'.H
def fin (D:Ends) (W':Wd) (σ':St):Out→Prop
 | .nx=>D.nx σ' W'.H
 | .bk=>D.bk σ' W'.H
 | .ct=>D.ct σ' W'.H
 | .rt d=>∀ v,DR K W' d v→D.rt v W'.H
def tDS (es:SV):TS:=fun D σ H=>∃ (W:Wd) (Γ:G) (out:Out) (Γ':G) (μ':M),W.H=H∧Ok K W∧EnvR K W Γ σ∧es Γ W.μ=some (out,Γ',μ')∧∀ W' σ',W'.μ=μ'→Ok K W'→Step W W'→EnvR K W' Γ' σ'→fin K D W' σ' out
end
section
variable {X:Cx} {e:Expr}
theorem z0n {t t':TE} (h:PE X e t) (hi:∀ σ H Q,t' σ H Q→t σ H Q):PE X e t':=fun pins s σ H Q I hw=>h pins s σ H Q I (hi _ _ _ hw)
theorem z78 {t t':TT} (h:PT X e t) (hi:∀ σ H Q,t' σ H Q→t σ H Q):PT X e t':=fun pins s σ H Q I hw=>h pins s σ H Q I (hi _ _ _ hw)
theorem zpl {t t':TT} (h:PW X e t) (hi:∀ σ H Q,t' σ H Q→t σ H Q):PW X e t':=fun wh pins s σ H Q I hw=>h wh pins s σ H Q I (hi _ _ _ hw)
theorem zg0 {es:List Expr} {t t':TA} (h:PA X es t) (hi:∀ σ H Q,t' σ H Q→t σ H Q):PA X es t':=fun pos pins s σ H Q I hw=>h pos pins s σ H Q I (hi _ _ _ hw)
theorem z3h {st:Stmt} {t t':TS} (h:PS X st t) (hi:∀ D σ H,t' D σ H→t D σ H):PS X st t':=fun pins s σ H D I hw=>h pins s σ H D I (hi _ _ _ hw)
theorem z8x {st:List Stmt} {t t':TS} (h:PSs X st t) (hi:∀ D σ H,t' D σ H→t D σ H):PSs X st t':=fun pins s σ H D I hw=>h pins s σ H D I (hi _ _ _ hw)
end
theorem bnd {α β:Type} {x:Option α} {f:α→Option β} {b:β} (h:x.bind f=some b):∃ a,x=some a∧f a=some b:=Option.bind_eq_some_iff.mp h
theorem el4 {α:Type} {p:Wd→Prop} {q:Wd→G→Prop} {r s:Wd→G→α→M→Prop} {Z:Prop} {H:Hp} (h:∃ (W:Wd) (Γ:G) (d:α) (μ':M),W.H=H∧p W∧q W Γ∧r W Γ d μ'∧s W Γ d μ') (k:∀ W Γ d μ',W.H=H→p W→q W Γ→r W Γ d μ'→s W Γ d μ'→Z):Z:=by
 refine bq fun bG=>?_
 obtain ⟨W,Γ,d,μ',rfl,a,b,c,e⟩:=h
 exact bG (k W Γ d μ' rfl a b c e)
theorem el5 {α β:Type} {p:Wd→Prop} {q:Wd→G→Prop} {r s:Wd→G→α→β→M→Prop} {Z:Prop} {H:Hp} (h:∃ (W:Wd) (Γ:G) (d:α) (b:β) (μ':M),W.H=H∧p W∧q W Γ∧r W Γ d b μ'∧s W Γ d b μ') (k:∀ W Γ d b μ',W.H=H→p W→q W Γ→r W Γ d b μ'→s W Γ d b μ'→Z):Z:=by
 refine bq fun bG=>?_
 obtain ⟨W,Γ,d,x,μ',rfl,a,b,c,e⟩:=h
 exact bG (k W Γ d x μ' rfl a b c e)
theorem z05 {α β:Type} {x:Option α} {f:α→Option β} {b:β} {Z:Prop} (h:x.bind f=some b) (k:∀ a,x=some a→f a=some b→Z):Z:=by
 refine bq fun bG=>?_
 obtain ⟨a,h1,h2⟩:=bnd h
 exact bG (k a h1 h2)
noncomputable def z3s (μ:M):D→Option (List D)
 | .lst ds=>some ds
 | .scr ds=>some ds
 | .ref k=>match μ[k]? with
  | some (some (.lst ds))=>some ds
  | _=>none
 | _=>none
noncomputable def zhq (μ:M):D→Option (List D)
 | .lst ds=>some ds
 | .ref k=>match μ[k]? with
  | some (some (.lst ds))=>some ds
  | _=>none
 | _=>none
noncomputable def zol:D→Option (List D)
 | .tup ds=>some ds
 | .gt ds=>some ds
 | _=>none
section
variable {K:PySem.W.Frag} {W:Wd} {d:D} {ds:List D} {v:V}
theorem z7y (ok:Ok K W) {k:Nat} (h:W.μ[k]?=some (some (.lst ds))) (r:DR K W (.ref k) v):∃ a vs,v=.ref a∧W.ρ[k]?=some a∧W.H a=some (.lst vs)∧DRs K W ds vs:=by
 cases r with
 | ref ha =>
  refine bq fun bG=>?_
  obtain ⟨a',ho,h1,h2,vs,rfl,r⟩:=ok.at_ k _ h
  rw [ha] at h1
  cases h1
  exact bG (⟨_,vs,rfl,ha,h2,r⟩)
theorem zdb (ok:Ok K W) (h:zhq W.μ d=some ds) (r:DR K W d v):∃ a vs,v=.ref a∧W.H a=some (.lst vs)∧DRs K W ds vs:=by
 cases d with
 | lst xs =>
  cases h
  cases r with
  | lst r n h=>exact ⟨_,_,rfl,r,h⟩
 | ref k =>
  simp only [zhq] at h
  split at h
  ·rename_i xs hk
   cases h
   refine bq fun bG=>?_
   obtain ⟨a,vs,e,_,e2,e3⟩:=z7y ok hk r
   exact bG (⟨a,vs,e,e2,e3⟩)
  ·cases h
 | _=>cases h
theorem z31 (ok:Ok K W) (h:z3s W.μ d=some ds) (r:DR K W d v):∃ a vs,v=.ref a∧SqL K W.H a vs∧DRs K W ds vs:=by
 cases d with
 | lst xs =>
  cases h
  cases r with
  | lst r n h=>exact ⟨_,_,rfl,SqL.of r,h⟩
 | scr xs =>
  cases h
  cases r with
  | scr r h=>exact ⟨_,_,rfl,r.seq,h⟩
 | ref k =>
  simp only [z3s] at h
  split at h
  ·rename_i xs hk
   cases h
   refine bq fun bG=>?_
   obtain ⟨a,vs,e,_,e2,e3⟩:=z7y ok hk r
   exact bG (⟨a,vs,e,SqL.of e2,e3⟩)
  ·cases h
 | _=>cases h
theorem z5n (h:zol d=some ds) (r:DR K W d v):∃ a vs,v=.ref a∧SqT K W.H a vs∧DRs K W ds vs:=by
 cases d with
 | tup xs =>
  cases h
  cases r with
  | tup r h=>exact ⟨_,_,rfl,SqT.of r,h⟩
 | gt xs =>
  cases h
  cases r with
  | gt r h=>exact ⟨_,_,rfl,r,h⟩
 | _=>cases h
theorem zl9 {vs:List V} {i:Int} (r:DRs K W ds vs) (h:atI ds i=some d):∃ v,atI vs i=some v∧DR K W d v:=by
 unfold atI at h ⊢
 refine z05 h fun j h1 h2=>?_
 rw [r.length] at h1
 obtain ⟨v,e,q⟩:=r.get h2
 exact ⟨v,by rw [h1];exact e,q⟩
end
noncomputable def z01 (i:Nat):EV:=fun Γ μ=>match Γ[i]? with
 | some (some d)=>some (d,μ)
 | _=>none
noncomputable def vC (d:D):EV:=fun _ μ=>some (d,μ)
noncomputable def v2 (f:D→D→M→Option (D×M)) (ea eb:EV):EV:=fun Γ μ=>(ea Γ μ).bind fun p=>(eb Γ p.2).bind fun q=>f p.1 q.1 q.2
noncomputable def v1 (f:D→M→Option (D×M)) (ea:EV):EV:=fun Γ μ=>(ea Γ μ).bind fun p=>f p.1 p.2
def R2A (K:PySem.W.Frag) (r:R2) (f:D→D→M→Option (D×M)):Prop:=∀ (W:Wd) (x y:V) (d e z:D) (μ':M) (Q:VK),Ok K W→DR K W d x→DR K W e y→f d e W.μ=some (z,μ') →
 (∀ v W',W'.μ=μ'→Ok K W'→Step W W'→DR K W' z v→Q v W'.H)→r x y W.H Q
def R1A (K:PySem.W.Frag) (r:V→Hp→VK→Prop) (f:D→M→Option (D×M)):Prop:=∀ (W:Wd) (x:V) (d z:D) (μ':M) (Q:VK),Ok K W→DR K W d x→f d W.μ=some (z,μ') →
 (∀ v W',W'.μ=μ'→Ok K W'→Step W W'→DR K W' z v→Q v W'.H)→r x W.H Q
noncomputable def vT (ev:EV):BV:=fun Γ μ=>(ev Γ μ).bind fun p=>match p.1 with
 | .bl b=>some (b,p.2)
 | _=>none
section
variable {X:Cx} {K:PySem.W.Frag} {a b c:Expr} {ea eb ec:EV} {pos:Pos}
theorem z02 (i:Nat) {x:Str} (hN:X.N[i]?=some x:=by rfl) (hv:Vis X.env.scope x:=by first | exact Or.inl rfl | exact Or.inr (Or.inl rfl) | exact Or.inr (Or.inr rfl)) (hd:(x==("__debug__" : Str))=false:=by decide)
  (hcd:(x==("__classdict__" : Str))=false:=by decide):PE X (.Name x pos) (tD K (z01 i)):=z0n (zow hN hv hd hcd) fun σ H Q h=>by
 refine el4 h fun W Γ d μ' eH ok en e q=>?_;subst eH
 unfold z01 at e
 split at e
 ·rename_i d' hd
  cases e
  refine bq fun bG=>?_
  obtain ⟨v,hv,r⟩:=en.at_ i _ hd
  exact bG (⟨v,hv,q v W rfl ok .refl r⟩)
 ·cases e
theorem zbo {d:D} {v:V} (h:∀ W,DR K W d v):∀ σ H Q,tD K (vC d) σ H Q→tC v σ H Q:=fun σ H Q hh=>by
 refine bq fun bG=>?_
 obtain ⟨W,Γ,d,μ',rfl,ok,en,e,q⟩:=hh
 cases e
 exact bG (q v W rfl ok .refl (h W))
theorem z0d {i j}:PE X (.Constant (.int i) j pos) (tD K (vC (.int i))):=z0n zp0 (zbo fun _=>.int i)
theorem zod {b j}:PE X (.Constant (.bool b) j pos) (tD K (vC (.bl b))):=z0n zwq (zbo fun _=>.bl b)
theorem zw4 {j}:PE X (.Constant .none j pos) (tD K (vC .non)):=z0n ztx (zbo fun _=>.non)
theorem zg3 {x j}:PE X (.Constant (.str x) j pos) (tD K (vC (.str x))):=z0n zoy (zbo fun _=>.str x)
theorem zho {x:Str} {d:D} {v:V} {u:Value} (hm:X.mg x=some u) (r:RelV v u) (h:∀ W,DR K W d v) (hg:Gl X x:=by rfl) (hd:(x==("__debug__" : Str))=false:=by decide):PE X (.Name x pos) (tD K (vC d)):=z0n (zqr hg hm r hd) (zbo h)
theorem z7t {r:R2} {f:D→D→M→Option (D×M)} (ra:R2A K r f):∀ σ H Q,tD K (v2 f ea eb) σ H Q→tOp r (tD K ea) (tD K eb) σ H Q:=fun σ H Q h=>by
 refine el4 h fun W Γ d μ' eH ok en e q=>?_;subst eH
 refine z05 e fun p1 e1 e=>?_
 refine z05 e fun p2 e2 e=>?_
 refine ⟨W,Γ,p1.1,p1.2,rfl,ok,en,e1,fun x W1 hμ ok1 s1 r1=>⟨W1,Γ,p2.1,p2.2,rfl,ok1,en.step ok s1,by rw [hμ];exact e2,fun y W2 hμ2 ok2 s2 r2=>?_⟩⟩
 exact ra W2 x y _ _ _ _ Q ok2 (r1.step ok1 s2) r2 (by rw [hμ2];exact e) fun v W3 hμ3 ok3 s3 r3=>q v W3 hμ3 ok3 ((s1.trans s2).trans s3) r3
theorem z4i {r:V→Hp→VK→Prop} {f:D→M→Option (D×M)} (ra:R1A K r f):∀ σ H Q,tD K (v1 f ea) σ H Q→(fun σ H Q=>tD K ea σ H fun x H1=>r x H1 Q:TE) σ H Q:=fun σ H Q h=>by
 refine el4 h fun W Γ d μ' eH ok en e q=>?_;subst eH
 refine z05 e fun p1 e1 e=>?_
 refine ⟨W,Γ,p1.1,p1.2,rfl,ok,en,e1,fun x W1 hμ ok1 s1 r1=>?_⟩
 exact ra W1 x _ _ _ Q ok1 r1 (by rw [hμ];exact e) fun v W3 hμ3 ok3 s3 r3=>q v W3 hμ3 ok3 (s1.trans s3) r3
theorem zs1 {op:Operator} {r:R2} {f:D→D→M→Option (D×M)} (ho:OpR X (binaryOp op) r) (ra:R2A K r f) (ha:PE X a (tD K ea)) (hb:PE X b (tD K eb)):PE X (.BinOp a op b pos) (tD K (v2 f ea eb)):=z0n (zwo ho ha hb) (z7t ra)
theorem zm7 {op:CmpOp} {r:R2} {f:D→D→M→Option (D×M)} (ho:OpR X (compareOp op) r) (ra:R2A K r f) (ha:PE X a (tD K ea)) (hb:PE X b (tD K eb)) (hm:behindInMarks op b=false):PE X (.Compare a [op] [b] pos) (tD K (v2 f ea eb)):=z0n (zqu ho ha hb hm) (z7t ra)
theorem zhw {t:TE} (h:∀ σ H Q,tD K ea σ H Q→t σ H Q):∀ σ H Q,tDB K (vT ea) σ H Q→zmb t σ H Q:=fun σ H Q hh=>by
 refine bq fun bG=>?_
 obtain ⟨W,Γ,k,μ',rfl,ok,en,e,q⟩:=hh
 refine z05 e fun p1 e1 e=>?_
 refine bG (h σ _ _ ⟨W,Γ,p1.1,p1.2,rfl,ok,en,e1,fun x W1 hμ ok1 s1 r1=>?_⟩)
 split at e
 ·rename_i k' hk
  cases e
  rw [hk] at r1
  cases r1
  exact ⟨_,rfl,q W1 hμ ok1 s1⟩
 ·cases e
theorem zbl {op:CmpOp} {r:R2} {f:D→D→M→Option (D×M)} (ho:OpR X (compareOp op) r) (ra:R2A K r f) (ha:PE X a (tD K ea)) (hb:PE X b (tD K eb)) (hm:behindInMarks op b=false):PT X (.Compare a [op] [b] pos) (tDB K (vT (v2 f ea eb))):=z78 (zjb ho ha hb hm) (zhw (z7t ra))
end
noncomputable def fI0 (g:Int→Int→D):D→D→M→Option (D×M)
 | .int i,.int j,μ=>some (g i j,μ)
 | _,_,_=>none
noncomputable def fI (C:Int→Int→Prop) [∀ i j,Decidable (C i j)] (g:Int→Int→D):D→D→M→Option (D×M)
 | .int i,.int j,μ=>if C i j then some (g i j,μ) else none
 | _,_,_=>none
section
variable {K:PySem.W.Frag}
theorem zao {g:Int→Int→V} {h:Int→Int→D} (hh:∀ W i j,DR K W (h i j) (g i j)):R2A K (rI0 g) (fI0 h):=by
 intro W x y d e z μ' Q ok r1 r2 hf q
 unfold fI0 at hf
 split at hf
 ·cases hf;cases r1;cases r2;exact ⟨_,_,rfl,rfl,q _ W rfl ok .refl (hh W _ _)⟩
 ·cases hf
theorem zvt {C:Int→Int→Prop} [∀ i j,Decidable (C i j)] {g:Int→Int→V} {h:Int→Int→D} (hh:∀ W i j,DR K W (h i j) (g i j)):R2A K (rI C g) (fI C h):=by
 intro W x y d e z μ' Q ok r1 r2 hf q
 unfold fI at hf
 split at hf
 ·split at hf
  ·rename_i hc;cases hf;cases r1;cases r2;exact ⟨_,_,rfl,rfl,hc,q _ W rfl ok .refl (hh W _ _)⟩
  ·cases hf
 ·cases hf
end
noncomputable instance {i j:Int}:Decidable (CMul i j):=by unfold CMul;infer_instance
noncomputable instance {i j:Int}:Decidable (zrz i j):=by unfold zrz;infer_instance
def zd4 (_ j:Int):Prop:=0<j∧j<2 ^ 200
def zg1 (_ j:Int):Prop:=0<j
noncomputable instance {i j:Int}:Decidable (zd4 i j):=by unfold zd4;infer_instance
noncomputable instance {i j:Int}:Decidable (zg1 i j):=by unfold zg1;infer_instance
section
variable {X:Cx} {K:PySem.W.Frag} {a b c:Expr} {ea eb ec:EV} {pos:Pos}
noncomputable abbrev zd7:=fI0 fun i j=>.int (i - j)
noncomputable abbrev zs9:=fI zd4 fun i j=>.int (i / j)
noncomputable abbrev zkl:=fI zg1 fun i j=>.int (i % j)
noncomputable abbrev zvc:=fI zrz fun i j=>.int (i ^ j.toNat)
noncomputable abbrev fLt:=fI0 fun i j=>.bl (decide (i<j))
noncomputable abbrev fLe:=fI0 fun i j=>.bl (decide (i≤j))
noncomputable abbrev fGt:=fI0 fun i j=>.bl (decide (j<i))
noncomputable abbrev fGe:=fI0 fun i j=>.bl (decide (j≤i))
theorem zd9 (ha:PE X a (tD K ea)) (hb:PE X b (tD K eb)):PE X (.BinOp a .Sub b pos) (tD K (v2 zd7 ea eb)):=zs1 zu4 (zao fun _ _ _=>.int _) ha hb
theorem zhp (ha:PE X a (tD K ea)) (hb:PE X b (tD K eb)):PE X (.BinOp a .FloorDiv b pos) (tD K (v2 zs9 ea eb)):=zs1 zn4 (zvt (C:=zd4) fun _ _ _=>.int _) ha hb
theorem zbk (ha:PE X a (tD K ea)) (hb:PE X b (tD K eb)):PE X (.BinOp a .Mod b pos) (tD K (v2 zkl ea eb)):=zs1 zu7 (zvt (C:=zg1) fun _ _ _=>.int _) ha hb
theorem zps (ha:PE X a (tD K ea)) (hb:PE X b (tD K eb)):PE X (.BinOp a .Pow b pos) (tD K (v2 zvc ea eb)):=zs1 zu6 (zvt fun _ _ _=>.int _) ha hb
theorem zy5 (ha:PE X a (tD K ea)) (hb:PE X b (tD K eb)):PE X (.Compare a [.Gt] [b] pos) (tD K (v2 fGt ea eb)):=zm7 zub (zao fun _ _ _=>.bl _) ha hb (z75 _)
theorem zsi (ha:PE X a (tD K ea)) (hb:PE X b (tD K eb)):PT X (.Compare a [.Lt] [b] pos) (tDB K (vT (v2 fLt ea eb))):=zbl zqy (zao fun _ _ _=>.bl _) ha hb (z75 _)
theorem zhn (ha:PE X a (tD K ea)) (hb:PE X b (tD K eb)):PT X (.Compare a [.Gt] [b] pos) (tDB K (vT (v2 fGt ea eb))):=zbl zub (zao fun _ _ _=>.bl _) ha hb (z75 _)
noncomputable def zns:D→M→Option (D×M)
 | .int i,μ=>some (.int (-i),μ)
 | _,_=>none
theorem zsg (ha:PE X a (tD K ea)):PE X (.UnaryOp .USub a pos) (tD K (v1 zns ea)):=z0n (ztt zoi ha) (z4i (by
 intro W x d z μ' Q ok r1 hf q
 unfold zns at hf
 split at hf
 ·cases hf;cases r1;exact ⟨_,rfl,q _ W rfl ok .refl (.int _)⟩
 ·cases hf))
noncomputable def zrt (t u:BV):BV:=fun Γ μ=>(t Γ μ).bind fun p=>if p.1=true then u Γ p.2 else some (false,p.2)
noncomputable def bOr (t u:BV):BV:=fun Γ μ=>(t Γ μ).bind fun p=>if p.1=true then some (true,p.2) else u Γ p.2
noncomputable def zbg (t:BV):BV:=fun Γ μ=>(t Γ μ).bind fun p=>some (!p.1,p.2)
variable {ba bb:BV} {z1w:List Expr}
theorem zo3:∀ σ H Q,tDB K (zrt ba bb) σ H Q→zxm (tDB K ba) (tDB K bb) σ H Q:=fun σ H Q h=>by
 refine el4 h fun W Γ k μ' eH ok en e q=>?_;subst eH
 refine z05 e fun p1 e1 e=>?_
 refine ⟨W,Γ,p1.1,p1.2,rfl,ok,en,e1,fun W1 hμ ok1 s1=>?_⟩
 split at e
 ·rename_i hp;rw [if_pos hp];exact ⟨W1,Γ,k,μ',rfl,ok1,en.step ok s1,by rw [hμ];exact e,fun W2 hμ2 ok2 s2=>q W2 hμ2 ok2 (s1.trans s2)⟩
 ·rename_i hp;cases e;rw [if_neg hp];exact q W1 hμ ok1 s1
theorem zrs:∀ σ H Q,tDB K (bOr ba bb) σ H Q→tOr (tDB K ba) (tDB K bb) σ H Q:=fun σ H Q h=>by
 refine el4 h fun W Γ k μ' eH ok en e q=>?_;subst eH
 refine z05 e fun p1 e1 e=>?_
 refine ⟨W,Γ,p1.1,p1.2,rfl,ok,en,e1,fun W1 hμ ok1 s1=>?_⟩
 split at e
 ·rename_i hp;cases e;rw [if_pos hp];exact q W1 hμ ok1 s1
 ·rename_i hp;rw [if_neg hp];exact ⟨W1,Γ,k,μ',rfl,ok1,en.step ok s1,by rw [hμ];exact e,fun W2 hμ2 ok2 s2=>q W2 hμ2 ok2 (s1.trans s2)⟩
theorem zpp (ha:PT X a (tDB K ba)):PW X (.BoolOp .And [a] pos) (tDB K ba):=zqf ha
theorem zeo (ha:PT X a (tDB K ba)):PW X (.BoolOp .Or [a] pos) (tDB K ba):=zti ha
theorem zsf (ha:PT X a (tDB K ba)) (hb:PW X (.BoolOp .And (b::z1w) pos) (tDB K bb)):PW X (.BoolOp .And (a::b::z1w) pos) (tDB K (zrt ba bb)):=zpl (ztj ha hb) zo3
theorem zm0 (ha:PT X a (tDB K ba)) (hb:PW X (.BoolOp .Or (b::z1w) pos) (tDB K bb)):PW X (.BoolOp .Or (a::b::z1w) pos) (tDB K (bOr ba bb)):=zpl (zwl ha hb) zrs
theorem z7l (ha:PT X a (tDB K ba)):PT X (.UnaryOp .Not a pos) (tDB K (zbg ba)):=z78 (zot ha) fun σ H Q h=>by
 refine el4 h fun W Γ k μ' eH ok en e q=>?_;subst eH
 refine z05 e fun p1 e1 e=>?_
 cases e
 exact ⟨W,Γ,p1.1,p1.2,rfl,ok,en,e1,fun W1 hμ ok1 s1=>q W1 hμ ok1 s1⟩
noncomputable def vIf (t:BV) (ea eb:EV):EV:=fun Γ μ=>(t Γ μ).bind fun p=>if p.1=true then ea Γ p.2 else eb Γ p.2
theorem zhm (hc:PT X c (tDB K ba)) (ha:PE X a (tD K ea)) (hb:PE X b (tD K eb)):PE X (.IfExp c a b pos) (tD K (vIf ba ea eb)):=z0n (zmz hc ha hb) fun σ H Q h=>by
 refine el4 h fun W Γ d μ' eH ok en e q=>?_;subst eH
 refine z05 e fun p1 e1 e=>?_
 refine ⟨W,Γ,p1.1,p1.2,rfl,ok,en,e1,fun W1 hμ ok1 s1=>?_⟩
 split at e
 ·rename_i hp;rw [if_pos hp];exact ⟨W1,Γ,d,μ',rfl,ok1,en.step ok s1,by rw [hμ];exact e,fun v W2 hμ2 ok2 s2 r2=>q v W2 hμ2 ok2 (s1.trans s2) r2⟩
 ·rename_i hp;rw [if_neg hp];exact ⟨W1,Γ,d,μ',rfl,ok1,en.step ok s1,by rw [hμ];exact e,fun v W2 hμ2 ok2 s2 r2=>q v W2 hμ2 ok2 (s1.trans s2) r2⟩
noncomputable def zoh (ea eb:EV):EV:=fun Γ μ=>(ea Γ μ).bind fun p=>match p.1 with
 | .bl true=>eb Γ p.2
 | .bl false=>some (.bl false,p.2)
 | _=>none
noncomputable def vOr (ea eb:EV):EV:=fun Γ μ=>(ea Γ μ).bind fun p=>match p.1 with
 | .bl true=>some (.bl true,p.2)
 | .bl false=>eb Γ p.2
 | _=>none
noncomputable def zs6:D→M→Option (D×M)
 | .bl b,μ=>some (.bl (!b),μ)
 | _,_=>none
theorem zpu {op} (h:PE X a (tD K ea)):PE X (.BoolOp op [a] pos) (tD K ea):=ztv h
theorem zm8 (ha:PE X a (tD K ea)) (hb:PE X (.BoolOp .And (b::z1w) pos) (tD K eb)):PE X (.BoolOp .And (a::b::z1w) pos) (tD K (zoh ea eb)):=z0n (zu0 ha hb) fun σ H Q h=>by
 refine el4 h fun W Γ d μ' eH ok en e q=>?_;subst eH
 refine z05 e fun p1 e1 e=>?_
 refine ⟨W,Γ,p1.1,p1.2,rfl,ok,en,e1,fun x W1 hμ ok1 s1 r1=>?_⟩
 split at e
 ·rename_i hp;rw [hp] at r1;cases r1;exact ⟨true,rfl,zx2 ⟨W1,Γ,d,μ',rfl,ok1,en.step ok s1,by rw [hμ];exact e,fun v W2 hμ2 ok2 s2 r2=>q v W2 hμ2 ok2 (s1.trans s2) r2⟩⟩
 ·rename_i hp;rw [hp] at r1;cases r1;cases e;exact ⟨false,rfl,zx3 (q _ W1 hμ ok1 s1 (.bl _))⟩
 ·cases e
theorem zy4 (ha:PE X a (tD K ea)) (hb:PE X (.BoolOp .Or (b::z1w) pos) (tD K eb)):PE X (.BoolOp .Or (a::b::z1w) pos) (tD K (vOr ea eb)):=z0n (zwn ha hb) fun σ H Q h=>by
 refine el4 h fun W Γ d μ' eH ok en e q=>?_;subst eH
 refine z05 e fun p1 e1 e=>?_
 refine ⟨W,Γ,p1.1,p1.2,rfl,ok,en,e1,fun x W1 hμ ok1 s1 r1=>?_⟩
 split at e
 ·rename_i hp;rw [hp] at r1;cases r1;cases e;exact ⟨true,rfl,zx2 (q _ W1 hμ ok1 s1 (.bl _))⟩
 ·rename_i hp;rw [hp] at r1;cases r1;exact ⟨false,rfl,zx3 ⟨W1,Γ,d,μ',rfl,ok1,en.step ok s1,by rw [hμ];exact e,fun v W2 hμ2 ok2 s2 r2=>q v W2 hμ2 ok2 (s1.trans s2) r2⟩⟩
 ·cases e
theorem zw3 (ha:PE X a (tD K ea)):PE X (.UnaryOp .Not a pos) (tD K (v1 zs6 ea)):=z0n (ztw ha) (z4i (by
 intro W x d z μ' Q ok r1 hf q
 unfold zs6 at hf
 split at hf
 ·cases hf;cases r1;exact ⟨_,rfl,q _ W rfl ok .refl (.bl _)⟩
 ·cases hf))
end
noncomputable def z0s {α β:Type} (f:α→Option β):List α→Option (List β)
 | []=>some []
 | x::r=>(f x).bind fun y=>(z0s f r).bind fun ys=>some (y::ys)
section
variable {X:Cx} {K:PySem.W.Frag} {a b c e:Expr} {ea eb ec:EV} {pos p:Pos} {es:List Expr} {el:LV}
noncomputable def z0e:LV:=fun _ μ=>some ([],μ)
noncomputable def z04 (ea:EV) (el:LV):LV:=fun Γ μ=>(ea Γ μ).bind fun p=>(el Γ p.2).bind fun q=>some (p.1::q.1,q.2)
theorem z08:PA X [] (tDL K z0e):=zg0 z1g fun σ H Q h=>by
 refine el4 h fun W Γ ds μ' eH ok en e q=>?_;subst eH
 cases e
 exact q [] W rfl ok .refl .nil
theorem zju:∀ σ H Q,tDL K (z04 ea el) σ H Q→z64 (tD K ea) (tDL K el) σ H Q:=fun σ H Q h=>by
 refine el4 h fun W Γ ds μ' eH ok en e q=>?_;subst eH
 refine z05 e fun p1 e1 e=>?_
 refine z05 e fun p2 e2 e=>?_
 cases e
 exact ⟨W,Γ,p1.1,p1.2,rfl,ok,en,e1,fun x W1 hμ ok1 s1 r1=>⟨W1,Γ,p2.1,p2.2,rfl,ok1,en.step ok s1,by rw [hμ];exact e2,fun vs W2 hμ2 ok2 s2 r2=>q _ W2 hμ2 ok2 (s1.trans s2) (.cons (r1.step ok1 s2) r2)⟩⟩
theorem z03 (ha:PE X e (tD K ea)) (hr:PA X es (tDL K el)) (hs:starEach (e::es) X.env=(false,eval e X.env)::starEach es X.env:=by rfl):PA X (e::es) (tDL K (z04 ea el)):=zg0 (z0q ha hr hs) zju
def RLA (K:PySem.W.Frag) (r:List V→Hp→VK→Prop) (f:List D→M→Option (D×M)):Prop:=∀ (W:Wd) (xs:List V) (ds:List D) (z:D) (μ':M) (Q:VK),Ok K W→DRs K W ds xs→f ds W.μ=some (z,μ') →
 (∀ v W',W'.μ=μ'→Ok K W'→Step W W'→DR K W' z v→Q v W'.H)→r xs W.H Q
noncomputable def vL (f:List D→M→Option (D×M)) (el:LV):EV:=fun Γ μ=>(el Γ μ).bind fun p=>f p.1 p.2
theorem zet {r:List V→Hp→VK→Prop} {f:List D→M→Option (D×M)} (ra:RLA K r f):∀ σ H Q,tD K (vL f el) σ H Q→(fun σ H Q=>tDL K el σ H fun vs H1=>r vs H1 Q:TE) σ H Q:=fun σ H Q h=>by
 refine el4 h fun W Γ d μ' eH ok en e q=>?_;subst eH
 refine z05 e fun p1 e1 e=>?_
 exact ⟨W,Γ,p1.1,p1.2,rfl,ok,en,e1,fun vs W1 hμ ok1 s1 r1=>ra W1 vs _ _ _ Q ok1 r1 (by rw [hμ];exact e) fun v W3 hμ3 ok3 s3 r3=>q v W3 hμ3 ok3 (s1.trans s3) r3⟩
noncomputable def z2m (ds:List D) (μ:M):Option (D×M):=if ds.length≤1000 then some (.lst ds,μ) else none
noncomputable def zac (ds:List D) (μ:M):Option (D×M):=if ds.length≤1000 then some (.tup ds,μ) else none
noncomputable def z8j (ds:List D) (μ:M):Option (D×M):=if ds.length≤1000 then some (.ref μ.length,μ++[some (.lst ds)]) else none
theorem ztb:RLA K (fun xs H1 Q=>xs.length≤sizeLine∧∀ p,H1 p=none→Q (.ref p) (upd H1 p (.lst xs))) z2m:=by
 intro W xs ds z μ' Q ok r hf q
 unfold z2m at hf
 split at hf
 ·rename_i hl
  cases hf
  exact ⟨z41 (by rw [← r.length];omega),fun p hp=>q _ (W.lay p (.lst xs)) rfl (z2f ok hp) (z0m hp) (z8o ok hp r)⟩
 ·cases hf
theorem zt6:RLA K (fun xs H1 Q=>xs.length≤sizeLine∧∀ p,H1 p=none→Q (.ref p) (upd H1 p (.tup xs))) zac:=by
 intro W xs ds z μ' Q ok r hf q
 unfold zac at hf
 split at hf
 ·rename_i hl
  cases hf
  exact ⟨z41 (by rw [← r.length];omega),fun p hp=>q _ (W.lay p (.tup xs)) rfl (z2f ok hp) (z0m hp) (zad ok hp r)⟩
 ·cases hf
theorem zt8:RLA K (fun xs H1 Q=>xs.length≤sizeLine∧∀ p,H1 p=none→Q (.ref p) (upd H1 p (.lst xs))) z8j:=by
 intro W xs ds z μ' Q ok r hf q
 unfold z8j at hf
 split at hf
 ·rename_i hl
  cases hf
  exact ⟨z41 (by rw [← r.length];omega),fun p hp=>q _ (W.new p (.lst xs) (.lst ds)) rfl (zf9 ok hp ⟨xs,rfl,r⟩) (z2n ok hp) (zfp ok)⟩
 ·cases hf
theorem z2d (h:PA X es (tDL K el)):PE X (.List es pos) (tD K (vL z2m el)):=z0n (zoz h) (zet ztb)
theorem zai (h:PA X es (tDL K el)):PE X (.List es pos) (tD K (vL z8j el)):=z0n (zoz h) (zet zt8)
theorem zag {k} (h:PA X es (tDL K el)):PE X (.Tuple es k pos) (tD K (vL zac el)):=z0n (zox h) (zet zt6)
noncomputable def fIx (x y:D) (μ:M):Option (D×M):=match y with
 | .int i=>match z3s μ x with
  | some ds=>(atI ds i).bind fun d=>some (d,μ)
  | none=>match zol x with
   | some ds=>(atI ds i).bind fun d=>some (d,μ)
   | none=>none
 | _=>none
theorem zwh:R2A K (rIx K) fIx:=by
 intro W x y d e z μ' Q ok r1 r2 hf q
 unfold fIx at hf
 split at hf
 ·cases r2
  split at hf
  ·rename_i ds hd
   refine z05 hf fun u hu hf=>?_
   cases hf
   refine bq fun bG=>?_
   obtain ⟨a,vs,rfl,hs,hv⟩:=z31 ok hd r1
   obtain ⟨v,hv1,hv2⟩:=zl9 hv hu
   exact bG (.inl ⟨a,vs,_,v,rfl,rfl,hs,hv1,q v W rfl ok .refl hv2⟩)
  ·split at hf
   ·rename_i ds hd
    refine z05 hf fun u hu hf=>?_
    cases hf
    refine bq fun bG=>?_
    obtain ⟨a,vs,rfl,hs,hv⟩:=z5n hd r1
    obtain ⟨v,hv1,hv2⟩:=zl9 hv hu
    exact bG (.inr (.inl ⟨a,vs,_,v,rfl,rfl,hs,hv1,q v W rfl ok .refl hv2⟩))
   ·cases hf
 ·cases hf
theorem z5m (ha:PE X a (tD K ea)) (hb:PE X b (tD K eb)) (hs:zlc b:=by exact fun _ _=>rfl) (hK:X.K=K:=by rfl):PE X (.Subscript a b pos) (tD K (v2 fIx ea eb)):=by
 subst hK;exact z0n (zwp zuz ha hb hs) (z7t zwh)
noncomputable abbrev OV:=G→M→Option (Option Int×M)
noncomputable def z68:OV:=fun _ μ=>some (none,μ)
noncomputable def z6r (ea:EV):OV:=fun Γ μ=>(ea Γ μ).bind fun p=>match p.1 with
 | .int i=>some (some i,p.2)
 | _=>none
noncomputable def tDO (K:PySem.W.Frag) (ev:OV):TO:=fun σ H Q=>∃ (W:Wd) (Γ:G) (b:Option Int) (μ':M),W.H=H∧Ok K W∧EnvR K W Γ σ∧ev Γ W.μ=some (b,μ')∧∀ W',W'.μ=μ'→Ok K W'→Step W W'→Q b W'.H
theorem zpm {o:Option Expr} {t t':TO} (h:PO X o t) (hi:∀ σ H Q,t' σ H Q→t σ H Q):PO X o t':=fun pins s σ H Q I hw=>h pins s σ H Q I (hi _ _ _ hw)
theorem z6g:PO X none (tDO K z68):=zpm zqi fun σ H Q h=>by
 refine el4 h fun W Γ b μ' eH ok en e q=>?_;subst eH
 cases e
 exact q W rfl ok .refl
theorem z6f (h:PE X e (tD K ea)):PO X (some e) (tDO K (z6r ea)):=zpm (zqh h) fun σ H Q h=>by
 refine el4 h fun W Γ b μ' eH ok en e q=>?_;subst eH
 refine z05 e fun p1 e1 e=>?_
 refine ⟨W,Γ,p1.1,p1.2,rfl,ok,en,e1,fun x W1 hμ ok1 s1 r1=>?_⟩
 split at e
 ·rename_i i hi
  cases e
  rw [hi] at r1
  cases r1
  exact ⟨_,rfl,q W1 hμ ok1 s1⟩
 ·cases e
noncomputable def znz (xs:List D) (lo hi:Option Int):List D:=(xs.drop (HT.sIx xs.length 0 lo)).take (HT.sIx xs.length xs.length hi - HT.sIx xs.length 0 lo)
theorem zfq {W:Wd} {ds:List D} {vs:List V} (r:DRs K W ds vs) (lo hi:Option Int):DRs K W (znz ds lo hi) (zlv vs lo hi):=by
 unfold znz zlv;rw [r.length];exact (r.drop _).take _
noncomputable def fSl (x:D) (lo hi:Option Int) (μ:M):Option (D×M):=match z3s μ x with
 | some ds=>some (.lst (znz ds lo hi),μ)
 | none=>match zol x with
  | some ds=>if HT.sIx ds.length 0 lo=0∧HT.sIx ds.length ds.length hi=ds.length then none else some (.tup (znz ds lo hi),μ)
  | none=>none
noncomputable def vSl (ea:EV) (lo hi:OV):EV:=fun Γ μ=>(ea Γ μ).bind fun p=>(lo Γ p.2).bind fun l=>(hi Γ l.2).bind fun h=>fSl p.1 l.1 h.1 h.2
theorem zs0 {lo hi:Option Expr} {ol oh:OV} {p2:Pos} (he:PE X e (tD K ea)) (hl:PO X lo (tDO K ol)) (hu:PO X hi (tDO K oh)) (hK:X.K=K:=by rfl):PE X (.Subscript e (.Slice lo hi none p2) pos) (tD K (vSl ea ol oh)):=by
 subst hK
 refine z0n (zmy (sl_list.or zsv) he hl hu) fun σ H Q h=>?_
 refine el4 h fun W Γ d μ' eH ok en e q=>?_;subst eH
 refine z05 e fun p1 e1 e=>?_
 refine z05 e fun p2 e2 e=>?_
 refine z05 e fun p3 e3 e=>?_
 refine ⟨W,Γ,p1.1,p1.2,rfl,ok,en,e1,fun x W1 hμ ok1 s1 r1=>⟨W1,Γ,p2.1,p2.2,rfl,ok1,en.step ok s1,by rw [hμ];exact e2,fun W2 hμ2 ok2 s2=>⟨W2,Γ,p3.1,p3.2,rfl,ok2,(en.step ok s1).step ok1 s2,by rw [hμ2];exact e3,fun W3 hμ3 ok3 s3=>?_⟩⟩⟩
 have r3:=(r1.step ok1 s2).step ok2 s3
 have st:=(s1.trans s2).trans s3
 unfold fSl at e
 rw [← hμ3] at e
 split at e
 ·rename_i ds hd
  cases e
  refine bq fun bG=>?_
  obtain ⟨a,vs,rfl,hs,hv⟩:=z31 ok3 hd r3
  exact bG (.inl ⟨a,vs,rfl,hs,fun p hp=>q _ (W3.lay p (.lst (zlv vs p2.1 p3.1))) rfl (z2f ok3 hp) (st.trans (z0m hp)) (z8o ok3 hp (zfq hv _ _))⟩)
 ·split at e
  ·rename_i ds hd
   split at e
   ·cases e
   ·rename_i hn
    cases e
    refine bq fun bG=>?_
    obtain ⟨a,vs,rfl,hs,hv⟩:=z5n hd r3
    rw [hv.length] at hn
    exact bG (.inr ⟨a,vs,rfl,hs,hn,fun p hp=>q _ (W3.lay p (.tup (zlv vs p2.1 p3.1))) rfl (z2f ok3 hp) (st.trans (z0m hp)) (zad ok3 hp (zfq hv _ _))⟩)
  ·cases e
noncomputable def zs5 (x:D) (μ:M):Option (D×M):=match z3s μ x with
 | some ds=>some (.lst ds.reverse,μ)
 | none=>none
theorem zw2 {p2 p3 p4:Pos} {j:Nat} (he:PE X a (tD K ea)) (hK:X.K=K:=by rfl):PE X (.Subscript a (.Slice none none (some (.UnaryOp .USub (.Constant (.int 1) j p4) p3)) p2) pos) (tD K (v1 zs5 ea)):=z0n (zyr K he hK) (z4i (by
 intro W x d z μ' Q ok r1 hf q
 unfold zs5 at hf
 split at hf
 ·rename_i ds hd
  cases hf
  refine bq fun bG=>?_
  obtain ⟨a,vs,rfl,hs,hv⟩:=z31 ok hd r1
  exact bG (⟨a,vs,rfl,hs,fun p hp=>q _ (W.lay p (.lst vs.reverse)) rfl (z2f ok hp) (z0m hp) (z8o ok hp hv.reverse)⟩)
 ·cases hf))
noncomputable def zgy (x y:D) (μ:M):Option (D×M):=(zhq μ x).bind fun xs=>(zhq μ y).bind fun ys=>if xs.length+ys.length≤1000000 then some (.lst (xs++ys),μ) else none
noncomputable def zxz (x y:D) (μ:M):Option (D×M):=(zhq μ x).bind fun xs=>match y with
 | .int k=>if -1000000≤k∧k≤1000000∧xs.length*k.toNat≤1000000 then some (.lst (List.replicate k.toNat xs).flatten,μ) else none
 | _=>none
noncomputable def z2b (x:D) (μ:M):Option (D×M):=match z3s μ x with
 | some ds=>some (.int ds.length,μ)
 | none=>match zol x with
  | some ds=>some (.int ds.length,μ)
  | none=>none
theorem z3j (ml:X.mg "len" = none) (ha:PE X a (tD K ea)) (hg:Gl X "len" := by rfl) (hs:starEach [a] X.env=[(false,eval a X.env)]:=by rfl) (hK:X.K=K:=by rfl):PE X (.Call (.Name "len" p) [a] [] pos) (tD K (v1 z2b ea)):=z0n (zyu K ml ha hg hs hK) (z4i (by
 intro W x d z μ' Q ok r1 hf q
 unfold z2b at hf
 split at hf
 ·rename_i ds hd
  cases hf
  obtain ⟨a,vs,rfl,hs,hv⟩:=z31 ok hd r1
  exact ⟨a,vs,rfl,.inl hs,by rw [← hv.length];exact q _ W rfl ok .refl (.int _)⟩
 ·split at hf
  ·rename_i ds hd
   cases hf
   obtain ⟨a,vs,rfl,hs,hv⟩:=z5n hd r1
   exact ⟨a,vs,rfl,.inr hs,by rw [← hv.length];exact q _ W rfl ok .refl (.int _)⟩
  ·cases hf))
noncomputable def zq4 (μ:M) (x:D):Option (List D):=match z3s μ x with
 | some ds=>some ds
 | none=>zol x
theorem zid {W:Wd} {d:D} {ds:List D} {v:V} (ok:Ok K W) (h:zq4 W.μ d=some ds) (r:DR K W d v):∃ a vs,v=.ref a∧(SqL K W.H a vs∨SqT K W.H a vs)∧DRs K W ds vs:=by
 unfold zq4 at h
 split at h
 ·rename_i ds' hd
  cases h
  refine bq fun bG=>?_
  obtain ⟨a,vs,e,hs,hv⟩:=z31 ok hd r
  exact bG (⟨a,vs,e,.inl hs,hv⟩)
 ·obtain ⟨a,vs,e,hs,hv⟩:=z5n h r
  exact ⟨a,vs,e,.inr hs,hv⟩
noncomputable def zck (x:D) (μ:M):Option (D×M):=(zq4 μ x).bind fun ds=>some (.ref μ.length,μ++[some (.lst ds)])
theorem zhk (ml:X.mg "list" = none) (ha:PE X a (tD K ea)) (hg:Gl X "list" := by rfl) (hs:starEach [a] X.env=[(false,eval a X.env)]:=by rfl) (hK:X.K=K:=by rfl):PE X (.Call (.Name "list" p) [a] [] pos) (tD K (v1 zck ea)):=z0n (zxb K ml ha hg hs hK) (z4i (by
 intro W x d z μ' Q ok r1 hf q
 refine z05 hf fun ds hd hf=>?_
 cases hf
 obtain ⟨a,vs,rfl,hs,hv⟩:=zid ok hd r1
 exact ⟨a,vs,rfl,hs,fun p hp=>q _ (W.new p (.lst vs) (.lst ds)) rfl (zf9 ok hp ⟨vs,rfl,hv⟩) (z2n ok hp) (zfp ok)⟩))
noncomputable abbrev zkm:=fI0 fun i j=>.int (if j<i then j else i)
noncomputable abbrev zx9:=fI0 fun i j=>.int (if j > i then j else i)
theorem zib {t:TE} {r:R2} {f:D→D→M→Option (D×M)} (ra:R2A K r f) (ht:∀ σ H Q,tOp r (tD K ea) (tD K eb) σ H Q→t σ H Q):∀ σ H Q,tD K (v2 f ea eb) σ H Q→t σ H Q:=fun σ H Q h=>ht σ H Q (z7t ra σ H Q h)
theorem zui {x y:V} {g:Int→Int→V} {Q:VK} {H:Hp}:(∃ i j,[x,y]=[V.int i,V.int j]∧Q (g i j) H)=(∃ i j,x=V.int i∧y=V.int j∧Q (g i j) H):=propext ⟨fun ⟨i,j,e,q⟩=>by cases e;exact ⟨i,j,rfl,rfl,q⟩,fun ⟨i,j,e1,e2,q⟩=>by cases e1;cases e2;exact ⟨i,j,rfl,q⟩⟩
theorem zhj (ml:X.mg "min" = none) (ha:PE X a (tD K ea)) (hb:PE X b (tD K eb)) (hc:X.calm=true:=by rfl) (hg:Gl X "min" := by rfl) (hs:starEach [a,b] X.env=[(false,eval a X.env),(false,eval b X.env)]:=by rfl) (hs2:starEach [b] X.env=[(false,eval b X.env)]:=by rfl) :
  PE X (.Call (.Name "min" p) [a,b] [] pos) (tD K (v2 zkm ea eb)):=z0n (zys ml ha hb hc hg hs hs2) (zib (zao fun _ _ _=>.int _) fun σ H Q h=>by simp only [zui (g:=fun i j=>V.int (if j<i then j else i))];exact h)
theorem zw5 (ml:X.mg "max" = none) (ha:PE X a (tD K ea)) (hb:PE X b (tD K eb)) (hc:X.calm=true:=by rfl) (hg:Gl X "max" := by rfl) (hs:starEach [a,b] X.env=[(false,eval a X.env),(false,eval b X.env)]:=by rfl) (hs2:starEach [b] X.env=[(false,eval b X.env)]:=by rfl) :
  PE X (.Call (.Name "max" p) [a,b] [] pos) (tD K (v2 zx9 ea eb)):=z0n (zyt ml ha hb hc hg hs hs2) (zib (zao fun _ _ _=>.int _) fun σ H Q h=>by simp only [zui (g:=fun i j=>V.int (if j > i then j else i))];exact h)
noncomputable def zgx:D→M→Option (D×M)
 | .bl k,μ=>some (.int (if k then 1 else 0),μ)
 | _,_=>none
theorem zoa (ml:X.mg "int" = none) (ha:PE X a (tD K ea)) (hg:Gl X "int" := by rfl) (hs:starEach [a] X.env=[(false,eval a X.env)]:=by rfl):PE X (.Call (.Name "int" p) [a] [] pos) (tD K (v1 zgx ea)):=z0n (zyw ml ha hg hs) (z4i (by
 intro W x d z μ' Q ok r1 hf q
 unfold zgx at hf
 split at hf
 ·cases hf;cases r1;exact ⟨_,rfl,q _ W rfl ok .refl (.int _)⟩
 ·cases hf))
end
noncomputable def py:Nat→M→D→Option PyData
 | 0,_,_=>none
 | n+1,μ,d=>match d with
  | .non=>some .none
  | .bl b=>some (.bool b)
  | .int i=>some (.int i)
  | .str x=>some (.str x)
  | .lst xs=>(z0s (py n μ) xs).bind fun ys=>some (.list ys)
  | .scr xs=>(z0s (py n μ) xs).bind fun ys=>some (.list ys)
  | .tup xs=>(z0s (py n μ) xs).bind fun ys=>some (.tuple ys)
  | .gt xs=>(z0s (py n μ) xs).bind fun ys=>some (.tuple ys)
  | .ref k=>match μ[k]? with
   | some (some (.lst xs))=>(z0s (py n μ) xs).bind fun ys=>some (.list ys)
   | _=>none
theorem z5y {K:PySem.W.Frag} {W:Wd} {f:D→Option PyData} (h:∀ d v pd,DR K W d v→f d=some pd→Dp K W.H v pd):∀ {xs:List D} {vs:List V} {ys:List PyData},DRs K W xs vs→z0s f xs=some ys→Dps K W.H vs ys
 | _,_,_,.nil,e=>by cases e;exact .nil
 | _,_,_,.cons r t,e=>by
  refine z05 e fun y e1 e=>?_
  refine z05 e fun ys e2 e=>?_
  cases e
  exact .cons (h _ _ _ r e1) (z5y h t e2)
theorem zaq {K:PySem.W.Frag} {W:Wd} (ok:Ok K W):∀ (n:Nat) (d:D) (v:V) (pd:PyData),DR K W d v→py n W.μ d=some pd→Dp K W.H v pd
 | 0,_,_,_,_,e=>by cases e
 | n+1,d,v,pd,r,e=>by
  cases d with
  | non=>cases e;cases r;exact .non
  | bl b=>cases e;cases r;exact .bl b
  | int i=>cases e;cases r;exact .int i
  | str x=>cases e;cases r;exact .str x
  | lst xs =>
   refine z05 e fun ys e1 e=>?_
   cases e
   cases r with
   | lst h _ hs=>exact .lst (SqL.of h) (z5y (zaq ok n) hs e1)
  | scr xs =>
   refine z05 e fun ys e1 e=>?_
   cases e
   cases r with
   | scr h hs=>exact .lst h.seq (z5y (zaq ok n) hs e1)
  | tup xs =>
   refine z05 e fun ys e1 e=>?_
   cases e
   cases r with
   | tup h hs=>exact .tup (SqT.of h) (z5y (zaq ok n) hs e1)
  | gt xs =>
   refine z05 e fun ys e1 e=>?_
   cases e
   cases r with
   | gt h hs=>exact .tup h (z5y (zaq ok n) hs e1)
  | ref k =>
   simp only [py] at e
   split at e
   ·rename_i xs hk
    refine z05 e fun ys e1 e=>?_
    cases e
    refine bq fun bG=>?_
    obtain ⟨a,vs,rfl,_,h,hs⟩:=z7y ok hk r
    exact bG (.lst (SqL.of h) (z5y (zaq ok n) hs e1))
   ·cases e
noncomputable def eqD (x y:D) (μ:M):Option Bool:=match x,y with
 | .int i,.int j=>some (decide (i=j))
 | .str a,.str b=>if PyData.strOk a&&PyData.strOk b then some (decide (a=b)) else none
 | x,y=>(py 65 μ x).bind fun d=>(py 65 μ y).bind fun e=>if (d.canLay0&&e.canLay0&&decide (d.depth≤64))=true then some (PyData.eqv d e) else none
theorem zpf {K:PySem.W.Frag} {W:Wd} {x y:D} {v u:V} {b:Bool} (ok:Ok K W) (rx:DR K W x v) (ry:DR K W y u) (h:eqD x y W.μ=some b):∃ d e,Dp K W.H v d∧Dp K W.H u e∧(d.canLay0&&e.canLay0&&decide (d.depth≤64))=true∧PyData.eqv d e=b:=by
 unfold eqD at h
 split at h
 ·cases h
  cases rx;cases ry
  exact ⟨_,_,.int _,.int _,by simp [PyData.canLay0,PyData.depth],by simp [PyData.eqv];rw [Bool.eq_iff_iff];simp⟩
 ·split at h
  ·rename_i hs
   cases h
   cases rx;cases ry
   refine ⟨_,_,.str _,.str _,by simpa [PyData.canLay0,PyData.depth] using hs,by simp [PyData.eqv];rw [Bool.eq_iff_iff];simp⟩
  ·cases h
 ·refine z05 h fun d e1 h=>?_
  refine z05 h fun e e2 h=>?_
  split at h
  ·rename_i hc
   cases h
   exact ⟨d,e,zaq ok _ _ _ _ rx e1,zaq ok _ _ _ _ ry e2,hc,rfl⟩
  ·cases h
noncomputable def fEq (x y:D) (μ:M):Option (D×M):=(eqD x y μ).bind fun b=>some (.bl b,μ)
noncomputable def fNe (x y:D) (μ:M):Option (D×M):=(eqD x y μ).bind fun b=>some (.bl (!b),μ)
section
variable {X:Cx} {K:PySem.W.Frag} {a b c e:Expr} {ea eb ec:EV} {ba bb:BV} {pos p:Pos} {es:List Expr} {el:LV} {k:Nat}
theorem ztf:R2A K (fun x y H Q=>∃ d e,Dp K H x d∧Dp K H y e∧(d.canLay0&&e.canLay0&&decide (d.depth≤64))=true∧Q (.bl (PyData.eqv d e)) H) fEq:=by
 intro W x y d e z μ' Q ok r1 r2 hf q
 refine z05 hf fun b hb hf=>?_
 cases hf
 obtain ⟨d',e',h1,h2,h3,h4⟩:=zpf ok r1 r2 hb
 exact ⟨d',e',h1,h2,h3,by rw [h4];exact q _ W rfl ok .refl (.bl _)⟩
theorem zt9:R2A K (fun x y H Q=>∃ d e,Dp K H x d∧Dp K H y e∧(d.canLay0&&e.canLay0&&decide (d.depth≤64))=true∧Q (.bl (!PyData.eqv d e)) H) fNe:=by
 intro W x y d e z μ' Q ok r1 r2 hf q
 refine z05 hf fun b hb hf=>?_
 cases hf
 obtain ⟨d',e',h1,h2,h3,h4⟩:=zpf ok r1 r2 hb
 exact ⟨d',e',h1,h2,h3,by rw [h4];exact q _ W rfl ok .refl (.bl _)⟩
theorem zob (hr:Room k X.A) (ha:PE X a (tD K ea)) (hb:PE X b (tD K eb)) (hK:X.K=K:=by rfl):PE X (.Compare a [.Eq] [b] pos) (tD K (v2 fEq ea eb)):=by
 subst hK;exact zm7 (zp3 hr.units) ztf ha hb (z75 _)
theorem zxk (hr:Room k X.A) (ha:PE X a (tD K ea)) (hb:PE X b (tD K eb)) (hK:X.K=K:=by rfl):PE X (.Compare a [.NotEq] [b] pos) (tD K (v2 fNe ea eb)):=by
 subst hK;exact zm7 (zp2 hr.units) zt9 ha hb (z75 _)
theorem z6h (hr:Room k X.A) (ha:PE X a (tD K ea)) (hb:PE X b (tD K eb)) (hK:X.K=K:=by rfl):PT X (.Compare a [.Eq] [b] pos) (tDB K (vT (v2 fEq ea eb))):=by
 subst hK;exact zbl (zp3 hr.units) ztf ha hb (z75 _)
theorem zg4 (hr:Room k X.A) (ha:PE X a (tD K ea)) (hb:PE X b (tD K eb)) (hK:X.K=K:=by rfl):PT X (.Compare a [.NotEq] [b] pos) (tDB K (vT (v2 fNe ea eb))):=by
 subst hK;exact zbl (zp2 hr.units) zt9 ha hb (z75 _)
noncomputable def zs8 (x y:D) (μ:M):Option (D×M):=match y with
 | .non=>some (.bl (match x with | .non=>true | _=>false),μ)
 | _=>none
theorem ztd:R2A K (fun x y H Q=>y=.non∧Q (.bl (decide (x=.non))) H) zs8:=by
 intro W x y d e z μ' Q ok r1 r2 hf q
 unfold zs8 at hf
 split at hf
 ·cases hf;cases r2
  refine ⟨rfl,?_⟩
  have h:=q _ W rfl ok .refl (.bl _)
  cases r1 <;> exact h
 ·cases hf
theorem zsj (ha:PE X a (tD K ea)) (hb:PE X b (tD K eb)):PT X (.Compare a [.Is] [b] pos) (tDB K (vT (v2 zs8 ea eb))):=zbl zu9 ztd ha hb (z75 _)
noncomputable def flV:D→Option V
 | .non=>some .non
 | .bl b=>some (.bl b)
 | .int i=>some (.int i)
 | .str x=>some (.str x)
 | _=>none
theorem zpb {W:Wd} {d:D} {v u:V} (h:flV d=some u) (r:DR K W d v):v=u∧z9w u=true:=by
 cases d <;> cases h <;> cases r <;> exact ⟨rfl,rfl⟩
theorem zkj {W:Wd}:∀ {ds:List D} {vs us:List V},z0s flV ds=some us→DRs K W ds vs→vs=us∧us.all z9w=true
 | _,_,_,h,.nil=>by cases h;exact ⟨rfl,rfl⟩
 | _,_,_,h,.cons r t=>by
  refine z05 h fun u h1 h=>?_
  refine z05 h fun us h2 h=>?_
  cases h
  refine bq fun bG=>?_
  obtain ⟨e1,f1⟩:=zpb h1 r
  obtain ⟨e2,f2⟩:=zkj h2 t
  exact bG (⟨by rw [e1,e2],by simp [f1,f2]⟩)
noncomputable def fIn (neg:Bool) (x y:D) (μ:M):Option (D×M):=(flV x).bind fun v=>(zq4 μ y).bind fun ds=>(z0s flV ds).bind fun us=>some (.bl (if neg then !inV v us else inV v us),μ)
theorem zwi {neg:Bool}:R2A K (rIn K neg) (fIn neg):=by
 intro W x y d e z μ' Q ok r1 r2 hf q
 refine z05 hf fun v h1 hf=>?_
 refine z05 hf fun ds h2 hf=>?_
 refine z05 hf fun us h3 hf=>?_
 cases hf
 refine bq fun bG=>?_
 obtain ⟨rfl,f1⟩:=zpb h1 r1
 obtain ⟨a,vs,rfl,hs,hv⟩:=zid ok h2 r2
 obtain ⟨rfl,f2⟩:=zkj h3 hv
 exact bG (⟨a,_,rfl,hs,f1,f2,q _ W rfl ok .refl (.bl _)⟩)
theorem zm2 (ha:PE X a (tD K ea)) (hb:PE X b (tD K eb)) (hm:behindInMarks .NotIn b=false:=by rfl) (hK:X.K=K:=by rfl):PT X (.Compare a [.NotIn] [b] pos) (tDB K (vT (v2 (fIn true) ea eb))):=z78 (zsq K ha hb hm hK) (zhw (z7t zwi))
noncomputable def tru (μ:M):D→Option Bool
 | .non=>some false
 | .bl b=>some b
 | .int i=>some (i != 0)
 | .tup ds=>some (!ds.isEmpty)
 | .gt ds=>some (!ds.isEmpty)
 | .lst ds=>some (!ds.isEmpty)
 | .scr ds=>some (!ds.isEmpty)
 | .ref k=>match μ[k]? with
  | some (some (.lst ds))=>some (!ds.isEmpty)
  | some (some (.dK kvs))=>some (!kvs.isEmpty)
  | _=>none
 | .str _=>none
theorem DRs.empty {W:Wd} {ds:List D} {vs:List V} (r:DRs K W ds vs):ds.isEmpty=vs.isEmpty:=by cases r <;> rfl
theorem zsp {W:Wd} {d:D} {v:V} {b:Bool} (ok:Ok K W) (h:tru W.μ d=some b) (r:DR K W d v):zxg K v W.H b:=by
 cases d with
 | non=>cases h;cases r;rfl
 | bl k=>cases h;cases r;rfl
 | int i=>cases h;cases r;rfl
 | str x=>cases h
 | tup ds =>
  cases h
  cases r with
  | tup h hs=>exact .inr (.inl ⟨_,SqT.of h,by rw [DRs.empty hs]⟩)
 | gt ds =>
  cases h
  cases r with
  | gt h hs=>exact .inr (.inl ⟨_,h,by rw [DRs.empty hs]⟩)
 | lst ds =>
  cases h
  cases r with
  | lst h _ hs=>exact .inl ⟨_,SqL.of h,by rw [DRs.empty hs]⟩
 | scr ds =>
  cases h
  cases r with
  | scr h hs=>exact .inl ⟨_,h.seq,by rw [DRs.empty hs]⟩
 | ref k =>
  simp only [tru] at h
  split at h
  ·rename_i ds hk
   cases h
   refine bq fun bG=>?_
   obtain ⟨a,vs,rfl,_,hh,hs⟩:=z7y ok hk r
   exact bG (.inl ⟨_,SqL.of hh,by rw [DRs.empty hs]⟩)
  ·rename_i kvs hk
   cases h
   cases r with
   | ref ha =>
    obtain ⟨a',ho,h1,h2,vs,rfl,r⟩:=ok.at_ k _ hk
    rw [ha] at h1
    cases h1
    exact .inr (.inr ⟨vs,h2,by cases r <;> rfl⟩)
  ·cases h
noncomputable def z5k (ea:EV):BV:=fun Γ μ=>(ea Γ μ).bind fun p=>(tru p.2 p.1).bind fun b=>some (b,p.2)
theorem z2i (ha:PE X a (tD K ea)) (he:∀ whole,isTrue a X.env whole=(do let v ← whole;standAt a.pos;holding [v] (truthy v)):=by intro _;rfl) (hK:X.K=K:=by rfl):PT X a (tDB K (z5k ea)):=by
 subst hK
 refine z78 (zmt ha he) fun σ H Q h=>?_
 refine el4 h fun W Γ b μ' eH ok en e q=>?_;subst eH
 refine z05 e fun p1 e1 e=>?_
 refine z05 e fun b1 e2 e=>?_
 cases e
 exact ⟨W,Γ,p1.1,p1.2,rfl,ok,en,e1,fun x W1 hμ ok1 s1 r1=>⟨b,zsp ok1 (by rw [hμ];exact e2) r1,q W1 hμ ok1 s1⟩⟩
noncomputable def tyD (μ:M):D→Option String
 | .non=>some "NoneType"
 | .bl _=>some "bool"
 | .int _=>some "int"
 | .str _=>some "str"
 | .tup _=>some "tuple"
 | .gt _=>some "tuple"
 | .lst _=>some "list"
 | .scr _=>some "list"
 | .ref k=>match μ[k]? with
  | some (some (.lst _))=>some "list"
  | some (some (.dK _))=>some "dict"
  | _=>none
theorem zok {W:Wd} {d:D} {v:V} {t:String} (ok:Ok K W) (h:tyD W.μ d=some t) (r:DR K W d v):TyN K W.H v t:=by
 cases d with
 | non=>cases h;cases r;exact .non
 | bl k=>cases h;cases r;exact .bl _
 | int i=>cases h;cases r;exact .int _
 | str x=>cases h;cases r;exact .str _
 | tup ds =>
  cases h
  cases r with
  | tup h hs=>exact .tup (SqT.of h)
 | gt ds =>
  cases h
  cases r with
  | gt h hs=>exact .tup h
 | lst ds =>
  cases h
  cases r with
  | lst h _ hs=>exact .lst (SqL.of h)
 | scr ds =>
  cases h
  cases r with
  | scr h hs=>exact .lst h.seq
 | ref k =>
  simp only [tyD] at h
  split at h
  ·rename_i ds hk
   cases h
   refine bq fun bG=>?_
   obtain ⟨a,vs,rfl,_,hh,hs⟩:=z7y ok hk r
   exact bG (.lst (SqL.of hh))
  ·rename_i kvs hk
   cases h
   cases r with
   | ref ha =>
    refine bq fun bG=>?_
    obtain ⟨a',ho,h1,h2,vs,rfl,r⟩:=ok.at_ k _ hk
    rw [ha] at h1
    cases h1
    exact bG (.dK h2)
  ·cases h
noncomputable def zhd (c:String) (x:D) (μ:M):Option (D×M):=(tyD μ x).bind fun t=>some (.bl (zic t c),μ)
theorem zhl (c:String) (ml:X.mg "isinstance" = none) (ha:PE X a (tD K ea)) (hb:PE X b (tC (.ty c))) (hc:clNames.contains c=true:=by decide) (hg:Gl X "isinstance" := by rfl) (hs:starEach [a,b] X.env=[(false,eval a X.env),(false,eval b X.env)]:=by rfl) (hs2:starEach [b] X.env=[(false,eval b X.env)]:=by rfl) (hK:X.K=K:=by rfl) :
  PE X (.Call (.Name "isinstance" p) [a,b] [] pos) (tD K (v1 (zhd c) ea)):=z0n (zyv K ml ha hb hg hs hs2 hK) (z4i (by
 intro W x d z μ' Q ok r1 hf q
 refine z05 hf fun t ht hf=>?_
 cases hf
 exact ⟨x,t,c,rfl,zok ok ht r1,hc,q _ W rfl ok .refl (.bl _)⟩))
noncomputable def vFrz (ea:EV):EV:=fun Γ μ=>(ea Γ μ).bind fun p=>match p.1 with
 | .ref k=>match p.2[k]? with
  | some (some (.lst ds))=>some (.lst ds,p.2.set k none)
  | _=>none
 | _=>none
noncomputable def spM (K:PySem.W.Frag) (f:List D→M→Option (D×M)):Sp:=fun vs H Q _=>∃ (W:Wd) (ds:List D) (d:D) (μ':M),W.H=H∧Ok K W∧DRs K W ds vs∧f ds W.μ=some (d,μ')∧∀ v W',W'.μ=μ'→Ok K W'→Step W W'→DR K W' d v→Q v W'.H
theorem z2t {x:Str} {ps:List Str} {f:List D→M→Option (D×M)} {e:Expr} (Df':Df X.prog X.w X.K X.mg X.base k x ps (spM K f)) (hr:Room k X.A) (ha:PA X (e::es) (tDL K el)) (hg:Gl X x:=by rfl) (hdb:(x==("__debug__" : Str))=false:=by decide)
  (he:starEach (e::es) X.env=(false,eval e X.env)::starEach es X.env:=by rfl) (hpl:(backTo pos (starEach es X.env)).any (·.1)=false:=by rfl):PE X (.Call (.Name x p) (e::es) [] pos) (tD K (vL f el)):=z0n (ztz Df' hr ha hg hdb he hpl) (zet (by
 intro W xs ds z μ' Q ok r hf q
 exact ⟨W,ds,z,μ',rfl,ok,r,hf,q⟩))
noncomputable def v2l (f:D→D→M→Option (D×M)) (ea eb:EV):EV:=fun Γ μ=>(ea Γ μ).bind fun p=>(z3s p.2 p.1).bind fun _=>(eb Γ p.2).bind fun q=>f p.1 q.1 q.2
theorem zq0 {W:Wd} {d:D} {ds:List D} {v:V} (ok:Ok K W) (h:z3s W.μ d=some ds) (r:DR K W d v):tyV K "list" v W.H:=by
 refine bq fun bG=>?_
 obtain ⟨a,vs,rfl,hs,_⟩:=z31 ok h r
 exact bG (.inl ⟨rfl,vs,hs⟩)
def RMA (K:PySem.W.Frag) (r:V→List V→Hp→VK→Prop) (f:D→D→M→Option (D×M)):Prop:=∀ (W:Wd) (x y:V) (d e z:D) (μ':M) (Q:VK),Ok K W→DR K W d x→DR K W e y→f d e W.μ=some (z,μ') →
 (∀ v W',W'.μ=μ'→Ok K W'→Step W W'→DR K W' z v→Q v W'.H)→r x [y] W.H Q
theorem zi9 {eo:EV} {r:V→List V→Hp→VK→Prop} {f:D→D→M→Option (D×M)} (ra:RMA K r f):∀ σ H Q,tD K (v2l f eo ea) σ H Q→tBM K "list" r (tD K eo) (z64 (tD K ea) zi8) σ H Q:=fun σ H Q h=>by
 refine el4 h fun W Γ d μ' eH ok en e q=>?_;subst eH
 refine z05 e fun p1 e1 e=>?_
 refine z05 e fun ds e0 e=>?_
 refine z05 e fun p2 e2 e=>?_
 refine ⟨W,Γ,p1.1,p1.2,rfl,ok,en,e1,fun x W1 hμ ok1 s1 r1=>⟨zq0 ok1 (by rw [hμ];exact e0) r1,W1,Γ,p2.1,p2.2,rfl,ok1,en.step ok s1,by rw [hμ];exact e2,fun y W2 hμ2 ok2 s2 r2=>?_⟩⟩
 exact ra W2 x y _ _ _ _ Q ok2 (r1.step ok1 s2) r2 (by rw [hμ2];exact e) fun v W3 hμ3 ok3 s3 r3=>q v W3 hμ3 ok3 ((s1.trans s2).trans s3) r3
noncomputable def onL (x:D) (μ:M) (g:List D→Option (D×List D)):Option (D×M):=match x with
 | .ref k=>match μ[k]? with
  | some (some (.lst ds))=>(g ds).bind fun r=>some (r.1,μ.set k (some (.lst r.2)))
  | _=>none
 | _=>none
theorem zf8 {W:Wd} {x z:D} {v:V} {μ':M} {g:List D→Option (D×List D)} (ok:Ok K W) (h:onL x W.μ g=some (z,μ')) (r:DR K W x v) :
  ∃ k a ds vs ds',x=.ref k∧v=.ref a∧W.μ[k]?=some (some (.lst ds))∧W.ρ[k]?=some a∧W.H a=some (.lst vs)∧DRs K W ds vs∧g ds=some (z,ds')∧μ'=W.μ.set k (some (.lst ds')):=by
 unfold onL at h
 split at h
 ·rename_i k
  split at h
  ·rename_i ds hk
   refine z05 h fun p e1 e=>?_
   cases e
   refine bq fun bG=>?_
   obtain ⟨a,vs,rfl,ha,hh,hs⟩:=z7y ok hk r
   exact bG (⟨k,a,ds,vs,p.2,rfl,rfl,hk,ha,hh,hs,e1,rfl⟩)
  ·cases h
 ·cases h
theorem zar {W:Wd} {k:Nat} {a:Addr} {ds ds':List D} {vs vs':List V} (ok:Ok K W) (hk:W.μ[k]?=some (some (.lst ds))) (ha:W.ρ[k]?=some a) (hs:DRs K W ds' vs') :
  Ok K (W.put k a (.lst vs') (.lst ds'))∧Step W (W.put k a (.lst vs') (.lst ds')):=⟨zp5 ok hk ha ⟨vs',rfl,hs⟩,z4v hk ha⟩
noncomputable def z6v (x y:D) (μ:M):Option (D×M):=onL x μ fun ds=>if ds.length<1000000 then some (.non,ds++[y]) else none
theorem zda {o:Expr} {eo:EV} {apos:Pos} (ho:PE X o (tD K eo)) (ha:PE X a (tD K ea)) (hs:starEach [a] X.env=[(false,eval a X.env)]:=by rfl)
  (hbase:attributeBase o "append" X.env (eval o X.env)=eval o X.env:=by rfl) (hline:(apos.endLine==pos.line)=true:=by rfl) (hK:X.K=K:=by rfl)
  (hfew:((backTo pos (starEach [a] X.env)).all (fun x=>!x.1)&&(backToKw pos (keywordEach [] X.env)).all (fun x=>x.1.isSome)
   && decide ([a].length+([]:List Keyword).length+(if ([]:List Keyword).isEmpty then 0 else 1)<30))=true:=by rfl) :
  PE X (.Call (.Attribute o "append" apos) [a] [] pos) (tD K (v2l z6v eo ea)):=z0n (zyx K ho ha hs hbase hline hK hfew) (zi9 (by
 intro W x y d e z μ' Q ok r1 r2 hf q
 obtain ⟨k,a,ds,vs,ds',rfl,rfl,hk,ha,hh,hs,hg,rfl⟩:=zf8 ok hf r1
 split at hg
 ·rename_i hl
  cases hg
  obtain ⟨o1,s1⟩:=zar (vs:=vs) (vs':=vs++[y]) ok hk ha (hs.append (.cons r2 .nil))
  exact ⟨a,vs,y,rfl,rfl,hh,z8a (by rw [← hs.length];omega),q _ _ rfl o1 s1 .non⟩
 ·cases hg))
noncomputable def zci (x y:D) (μ:M):Option (D×M):=match y with
 | .int i=>onL x μ fun ds=>if 0≤i∧i<1000000 then (ds[i.toNat]?).bind fun d=>some (d,ds.eraseIdx i.toNat) else none
 | _=>none
theorem zpt {o:Expr} {eo:EV} {apos:Pos} (ho:PE X o (tD K eo)) (ha:PE X a (tD K ea)) (hs:starEach [a] X.env=[(false,eval a X.env)]:=by rfl)
  (hbase:attributeBase o "pop" X.env (eval o X.env)=eval o X.env:=by rfl) (hline:(apos.endLine==pos.line)=true:=by rfl) (hK:X.K=K:=by rfl)
  (hfew:((backTo pos (starEach [a] X.env)).all (fun x=>!x.1)&&(backToKw pos (keywordEach [] X.env)).all (fun x=>x.1.isSome)
   && decide ([a].length+([]:List Keyword).length+(if ([]:List Keyword).isEmpty then 0 else 1)<30))=true:=by rfl) :
  PE X (.Call (.Attribute o "pop" apos) [a] [] pos) (tD K (v2l zci eo ea)):=z0n (zvi K ho ha hs hbase hline hK hfew) (zi9 (by
 intro W x y d e z μ' Q ok r1 r2 hf q
 unfold zci at hf
 split at hf
 ·rename_i i
  cases r2
  obtain ⟨k,a,ds,vs,ds',rfl,rfl,hk,ha,hh,hs,hg,rfl⟩:=zf8 ok hf r1
  split at hg
  ·rename_i hl
   refine z05 hg fun d hd hg=>?_
   cases hg
   refine bq fun bG=>?_
   obtain ⟨v,hv,r⟩:=hs.get hd
   obtain ⟨o1,s1⟩:=zar (vs:=vs) (vs':=vs.eraseIdx i.toNat) ok hk ha (hs.erase _)
   have hlt:=(List.getElem?_eq_some_iff.mp hv).1
   exact bG (⟨a,vs,i,i.toNat,v,rfl,rfl,hh,by omega,by omega,zsw hl.1 (by omega),hv,q _ _ rfl o1 s1 (r.step ok s1)⟩)
  ·cases hg
 ·cases hf))
end
open Classical in
noncomputable def chk {α:Type} (c:Prop) (x:Option α):Option α:=if c then x else none
theorem zbf {α:Type} {c:Prop} {x:Option α} {a:α} (h:chk c x=some a):c∧x=some a:=by
 unfold chk at h
 split at h
 ·exact ⟨by assumption,h⟩
 ·cases h
theorem z4c {α:Type} {c:Prop} {x:Option α} {a:α} {Z:Prop} (h:chk c x=some a) (k:c→x=some a→Z):Z:=k (zbf h).1 (zbf h).2
theorem z1p {α:Type} {c:Prop} {x:Option α} (h:c):chk c x=x:=by unfold chk;rw [if_pos h]
noncomputable abbrev GV:=D→G→M→Option (G×M)
noncomputable abbrev GsV:=List D→G→M→Option (G×M)
def tDG (K:PySem.W.Frag) (gv:GV):TG:=fun v σ H Q=>∃ (W:Wd) (Γ:G) (d:D) (Γ':G) (μ':M),W.H=H∧Ok K W∧EnvR K W Γ σ∧DR K W d v∧gv d Γ W.μ=some (Γ',μ')∧∀ W' σ',W'.μ=μ'→Ok K W'→Step W W'→EnvR K W' Γ' σ'→Q σ' W'.H
noncomputable def zvr (K:PySem.W.Frag) (gv:GsV):TGs:=fun vs σ H Q=>∃ (W:Wd) (Γ:G) (ds:List D) (Γ':G) (μ':M),W.H=H∧Ok K W∧EnvR K W Γ σ∧DRs K W ds vs∧gv ds Γ W.μ=some (Γ',μ')∧∀ W' σ',W'.μ=μ'→Ok K W'→Step W W'→EnvR K W' Γ' σ'→Q σ' W'.H
section
variable {X:Cx} {K:PySem.W.Frag} {pos:Pos}
theorem zle {tg:Expr} {t t':TG} (h:PG X tg t) (hi:∀ v σ H Q,t' v σ H Q→t v σ H Q):PG X tg t':=fun pins s σ H v u Q I r hw=>h pins s σ H v u Q I r (hi _ _ _ _ hw)
theorem zld {tg:List Expr} {t t':TGs} (h:PGs X tg t) (hi:∀ v σ H Q,t' v σ H Q→t v σ H Q):PGs X tg t':=fun pins s σ H v u Q I r hw=>h pins s σ H v u Q I r (hi _ _ _ _ hw)
theorem EnvR.set {W:Wd} {Γ:G} {σ:St} (e:EnvR K W Γ σ) {d:D} {v:V} (r:DR K W d v) (i:Nat):EnvR K W (Γ.set i (some d)) (σ.set i (some v)) where
 len:=by simp [e.len]
 at_ j d' h:=by
  by_cases hj:j=i
  ·subst hj
   have hlt:j<Γ.length:=by have:=(List.getElem?_eq_some_iff.mp h).1;simpa using this
   simp [hlt] at h
   subst h
   exact ⟨v,by have:=e.len;simp [show j<σ.length by omega],r⟩
  ·rw [List.getElem?_set_ne (Ne.symm hj)] at h
   obtain ⟨u,hu,q⟩:=e.at_ j d' h
   exact ⟨u,by rw [List.getElem?_set_ne (Ne.symm hj)];exact hu,q⟩
noncomputable def z00 (i:Nat):GV:=fun d Γ μ=>some (Γ.set i (some d),μ)
theorem zgt {i:Nat}:∀ v σ H Q,tDG K (z00 i) v σ H Q→zre i v σ H Q:=fun v σ H Q h=>by
 refine bq fun bG=>?_
 obtain ⟨W,Γ,d,Γ',μ',rfl,ok,en,r,e,q⟩:=h
 cases e
 exact bG (q W _ rfl ok .refl (en.set r i))
theorem z09 {i:Nat} {x:Str} (hN:X.N.Nodup) (hi:X.N[i]?=some x) (hx:Loc X.env.scope x) (hf:X.fn x=true∨X.env.scope.names.lookup x=some .local:=by first | exact .inl rfl | exact .inr rfl | assumption):PG X (.Name x pos) (tDG K (z00 i)):=zle (zqp hN hi hx hf) zgt
noncomputable def z23:GsV:=fun ds Γ μ=>match ds with
 | []=>some (Γ,μ)
 | _::_=>none
noncomputable def z0a (g:GV) (gs:GsV):GsV:=fun ds Γ μ=>match ds with
 | []=>none
 | d::r=>(g d Γ μ).bind fun p=>gs r p.1 p.2
theorem z3w:PGs X [] (zvr K z23):=zld zqo fun v σ H Q h=>by
 obtain ⟨W,Γ,d,Γ',μ',rfl,ok,en,r,e,q⟩:=h
 cases r with
 | nil=>cases e;exact ⟨rfl,q W _ rfl ok .refl en⟩
 | cons _ _=>cases e
theorem z0p {e:Expr} {es:List Expr} {g:GV} {gs:GsV} (h1:PG X e (tDG K g)) (h2:PGs X es (zvr K gs))
  (hs:(assignEach (e::es) X.env).map (·.2)=assign e X.env::(assignEach es X.env).map (·.2):=by rfl):PGs X (e::es) (zvr K (z0a g gs)):=zld (zmx h1 h2 hs) fun v σ H Q h=>by
 obtain ⟨W,Γ,d,Γ',μ',rfl,ok,en,r,e,q⟩:=h
 cases r with
 | nil=>cases e
 | cons r rs =>
  refine z05 e fun p1 e1 e=>?_
  exact ⟨_,_,rfl,W,Γ,_,p1.1,p1.2,rfl,ok,en,r,e1,fun W1 σ1 hμ ok1 s1 en1=>⟨W1,p1.1,_,Γ',μ',rfl,ok1,en1,rs.step ok s1,by rw [hμ];exact e,fun W2 σ2 hμ2 ok2 s2 en2=>q W2 σ2 hμ2 ok2 (s1.trans s2) en2⟩⟩
noncomputable def z21 (n:Nat) (gs:GsV):GV:=fun d Γ μ=>(zol d).bind fun ds=>if ds.length=n then gs ds Γ μ else none
theorem z62 {es:List Expr} {k:Nat} {gs:GsV} {n:Nat} (h:PGs X es (zvr K gs)) (hc:X.calm=true:=by rfl) (hn:(assignEach es X.env).length=n:=by rfl) (hst:(assignEach es X.env).findIdx? (·.1)=none:=by rfl) (hK:X.K=K:=by rfl):PG X (.Tuple es k pos) (tDG K (z21 n gs)):=zle (gT K h hc hn hst hK) fun v σ H Q hh=>by
 obtain ⟨W,Γ,d,Γ',μ',rfl,ok,en,r,e,q⟩:=hh
 refine z05 e fun ds e1 e=>?_
 split at e
 ·rename_i hl
  obtain ⟨a,vs,rfl,hs,hv⟩:=z5n e1 r
  exact ⟨a,vs,rfl,hs,by rw [← hv.length];exact hl,W,Γ,ds,Γ',μ',rfl,ok,en,hv,e,q⟩
 ·cases e
noncomputable def zkb (eo ei:EV):GV:=fun d Γ μ=>(eo Γ μ).bind fun p=>(ei Γ p.2).bind fun q=>match q.1 with
 | .int j=>(onL p.1 q.2 fun ds=>(ixN ds.length j).bind fun jj=>some (.non,ds.set jj d)).bind fun r=>some (Γ,r.2)
 | _=>none
theorem zo8 {o i:Expr} {eo ei:EV} (ho:PE X o (tD K eo)) (hi:PE X i (tD K ei)) (ha:∀ v,assign (.Subscript o i pos) X.env v=(do
   let ov ← holding [v] (eval o X.env)
   let iv ← holding [v,ov] (eval i X.env)
   standAt pos
   holding [v,ov,iv] (setItem ov iv v)
   release [v,ov,iv] []):=by intro _;rfl):PG X (.Subscript o i pos) (tDG K (zkb eo ei)):=zle (zts ho hi zmh ha) fun v σ H Q hh=>by
 obtain ⟨W,Γ,d,Γ',μ',rfl,ok,en,r,e,q⟩:=hh
 refine z05 e fun p1 e1 e=>?_
 refine z05 e fun p2 e2 e=>?_
 refine ⟨W,Γ,p1.1,p1.2,rfl,ok,en,e1,fun x W1 hμ ok1 s1 r1=>⟨W1,Γ,p2.1,p2.2,rfl,ok1,en.step ok s1,by rw [hμ];exact e2,fun y W2 hμ2 ok2 s2 r2=>?_⟩⟩
 split at e
 ·rename_i j hj
  rw [hj] at r2
  cases r2
  obtain ⟨⟨z3,μ3⟩,e3,e⟩:=bnd e
  cases e
  rw [← hμ2] at e3
  obtain ⟨k,a,ds,vs,ds',h1,rfl,hk,ha,hh,hs,hg,h2⟩:=zf8 ok2 e3 (r1.step ok1 s2)
  refine z05 hg fun jj hjj hg=>?_
  cases hg
  obtain ⟨o1,st1⟩:=zar (vs:=vs) (vs':=vs.set jj v) ok2 hk ha (hs.set ((r.step ok s1).step ok1 s2) jj)
  exact ⟨a,vs,j,jj,rfl,rfl,hh,by rw [← hs.length];exact hjj,q _ _ h2.symm o1 ((s1.trans s2).trans st1) (((en.step ok s1).step ok1 s2).step ok2 st1)⟩
 ·cases e
end
section
variable {X:Cx} {K:PySem.W.Frag} {pos:Pos} {e:Expr} {ea:EV} {st:Stmt} {z1w:List Stmt} {sa sb:SV}
noncomputable def sNx:SV:=fun Γ μ=>some (.nx,Γ,μ)
noncomputable def z0u (a b:SV):SV:=fun Γ μ=>(a Γ μ).bind fun o=>match o.1 with
 | .nx=>b o.2.1 o.2.2
 | .bk=>some (.bk,o.2)
 | .ct=>some (.ct,o.2)
 | .rt d=>some (.rt d,o.2)
theorem z1f:PSs X [] (tDS K sNx):=z8x zqg fun D σ H h=>by
 refine el5 h fun W Γ o Γ' μ' eH ok en e q=>?_;subst eH
 cases e
 exact q W σ rfl ok .refl en
theorem z0b (h1:PS X st (tDS K sa)):PSs X [st] (tDS K sa):=zjc h1
theorem z07 (h1:PS X st (tDS K sa)) (h2:PSs X z1w (tDS K sb)):PSs X (st::z1w) (tDS K (z0u sa sb)):=z8x (zf6 h1 h2) fun D σ H h=>by
 refine el5 h fun W Γ o Γ' μ' eH ok en e q=>?_;subst eH
 refine bq fun bG=>?_
 obtain ⟨⟨o1,Γ1,μ1⟩,e1,e⟩:=bnd e
 refine bG (⟨W,Γ,o1,Γ1,μ1,rfl,ok,en,e1,fun W1 σ1 hμ ok1 s1 en1=>?_⟩)
 cases o1 with
 | nx=>exact ⟨W1,Γ1,o,Γ',μ',rfl,ok1,en1,by rw [hμ];exact e,fun W2 σ2 hμ2 ok2 s2 en2=>q W2 σ2 hμ2 ok2 (s1.trans s2) en2⟩
 | bk=>cases e;exact q W1 σ1 hμ ok1 s1 en1
 | ct=>cases e;exact q W1 σ1 hμ ok1 s1 en1
 | rt d=>cases e;exact q W1 σ1 hμ ok1 s1 en1
noncomputable def z2j (ea:EV):SV:=fun Γ μ=>(ea Γ μ).bind fun p=>some (.nx,Γ,p.2)
theorem z3i (he:PE X e (tD K ea)) (hs:swapsWith e none pos.line X.env=pure false:=by rfl):PS X (.Expr e pos) (tDS K (z2j ea)):=z3h (zjd he hs) fun D σ H h=>by
 refine el5 h fun W Γ o Γ' μ' eH ok en e q=>?_;subst eH
 refine z05 e fun p1 e1 e=>?_
 cases e
 exact ⟨W,Γ,p1.1,p1.2,rfl,ok,en,e1,fun v W1 hμ ok1 s1 r1=>q W1 σ hμ ok1 s1 (en.step ok s1)⟩
noncomputable def z2p (ea:EV):SV:=fun Γ μ=>(ea Γ μ).bind fun p=>some (.rt p.1,Γ,p.2)
theorem z0r (he:PE X e (tD K ea)):PS X (.Return (some e) pos) (tDS K (z2p ea)):=z3h (zou he) fun D σ H h=>by
 refine el5 h fun W Γ o Γ' μ' eH ok en e q=>?_;subst eH
 refine z05 e fun p1 e1 e=>?_
 cases e
 exact ⟨W,Γ,p1.1,p1.2,rfl,ok,en,e1,fun v W1 hμ ok1 s1 r1=>q W1 σ hμ ok1 s1 (en.step ok s1) v r1⟩
noncomputable def sIf (t:BV) (a b:SV):SV:=fun Γ μ=>(t Γ μ).bind fun p=>if p.1=true then a Γ p.2 else b Γ p.2
theorem z2w {c:Expr} {a b:List Stmt} {bc:BV} (hc:PT X c (tDB K bc)) (ha:PSs X a (tDS K sa)) (hb:PSs X b (tDS K sb)):PS X (.If c a b pos) (tDS K (sIf bc sa sb)):=z3h (ztm hc ha hb) fun D σ H h=>by
 refine el5 h fun W Γ o Γ' μ' eH ok en e q=>?_;subst eH
 refine z05 e fun p1 e1 e=>?_
 refine ⟨W,Γ,p1.1,p1.2,rfl,ok,en,e1,fun W1 hμ ok1 s1=>?_⟩
 split at e
 ·rename_i hp;rw [if_pos hp];exact ⟨W1,Γ,o,Γ',μ',rfl,ok1,en.step ok s1,by rw [hμ];exact e,fun W2 σ2 hμ2 ok2 s2 en2=>q W2 σ2 hμ2 ok2 (s1.trans s2) en2⟩
 ·rename_i hp;rw [if_neg hp];exact ⟨W1,Γ,o,Γ',μ',rfl,ok1,en.step ok s1,by rw [hμ];exact e,fun W2 σ2 hμ2 ok2 s2 en2=>q W2 σ2 hμ2 ok2 (s1.trans s2) en2⟩
noncomputable def z0z (ea:EV) (g:GV):SV:=fun Γ μ=>(ea Γ μ).bind fun p=>(g p.1 Γ p.2).bind fun q=>some (.nx,q.1,q.2)
theorem zml {g:GV}:∀ D σ H,tDS K (z0z ea g) D σ H→zwf (tD K ea) (tDG K g) D σ H:=fun D σ H h=>by
 refine el5 h fun W Γ o Γ' μ' eH ok en e q=>?_;subst eH
 refine z05 e fun p1 e1 e=>?_
 refine z05 e fun p2 e2 e=>?_
 cases e
 exact ⟨W,Γ,p1.1,p1.2,rfl,ok,en,e1,fun v W1 hμ ok1 s1 r1=>⟨W1,Γ,p1.1,p2.1,p2.2,rfl,ok1,en.step ok s1,r1,by rw [hμ];exact e2,fun W2 σ2 hμ2 ok2 s2 en2=>q W2 σ2 hμ2 ok2 (s1.trans s2) en2⟩⟩
theorem zhh {tg:Expr} {g:GV} (he:PE X e (tD K ea)) (hg:PG X tg (tDG K g)) (hs:swapsWithSole [tg] e pos.line X.env=pure false:=by rfl) (hw:swappedStores [tg] e X.env=pure none:=by rfl)
  (h1:(assignEach [tg] X.env).map (·.2)=[assign tg X.env]:=by rfl):PS X (.Assign [tg] e pos) (tDS K (z0z ea g)):=z3h (ztn he hg hs hw h1) zml
theorem z0o {i:Nat} {x:Str} {pos':Pos} (hN:X.N.Nodup) (hi:X.N[i]?=some x) (hx:Loc X.env.scope x) (he:PE X e (tD K ea)) (hs:swapsWith e (some (.Name x pos')) pos.line X.env=pure false:=by rfl) (hf:X.fn x=true∨X.env.scope.names.lookup x=some .local:=by first | exact .inl rfl | exact .inr rfl | assumption) :
  PS X (.Assign [.Name x pos'] e pos) (tDS K (z0z ea (z00 i))):=z3h (ztl hN hi hx he hs hf) fun D σ H h=>by
 refine el5 h fun W Γ o Γ' μ' eH ok en e q=>?_;subst eH
 refine z05 e fun p1 e1 e=>?_
 cases e
 exact ⟨W,Γ,p1.1,p1.2,rfl,ok,en,e1,fun v W1 hμ ok1 s1 r1=>q W1 _ hμ ok1 s1 ((en.step ok s1).set r1 i)⟩
noncomputable def sAug (i:Nat) (f:D→D→M→Option (D×M)) (ea:EV):SV:=fun Γ μ=>match Γ[i]? with
 | some (some x)=>(ea Γ μ).bind fun p=>(f x p.1 p.2).bind fun q=>some (.nx,Γ.set i (some q.1),q.2)
 | _=>none
noncomputable def zof (c:BV) (body:SV):Nat→SV
 | 0,_,_=>none
 | n+1,Γ,μ=>(c Γ μ).bind fun p=>if p.1=true then (body Γ p.2).bind fun o=>match o.1 with
   | .nx=>zof c body n o.2.1 o.2.2
   | .ct=>zof c body n o.2.1 o.2.2
   | .bk=>some (.nx,o.2)
   | .rt d=>some (.rt d,o.2)
  else some (.nx,Γ,p.2)
noncomputable abbrev Ck:=Option (Nat×List D)
def z2k:Ck→M→Prop
 | none,_=>True
 | some (k,raw),μ=>μ[k]?=some (some (.lst raw))
noncomputable abbrev IV:=G→M→Option ((List D×Ck)×M)
def JR (K:PySem.W.Frag) (W:Wd) (J:It) (its:List D) (c:Ck):Prop:=z2k c W.μ∧∃ ds vs,DRs K W ds vs∧∀ (W2:Wd) (i:Nat),Ok K W2→z2k c W2.μ→DRs K W2 ds vs →
 (its.length≤i→J.stop i W2.H)∧∀ d,its[i]?=some d→J.go i W2.H∧∀ x H',J.yld i W2.H x H'→∃ W3,W3.H=H'∧W3.μ=W2.μ∧Ok K W3∧Step W2 W3∧DR K W3 d x
def tDI (K:PySem.W.Frag) (iv:IV):TI:=fun σ H R=>∃ (W:Wd) (Γ:G) (its:List D) (c:Ck) (μ':M),W.H=H∧Ok K W∧EnvR K W Γ σ∧iv Γ W.μ=some ((its,c),μ')∧∀ J W',W'.μ=μ'→Ok K W'→Step W W'→JR K W' J its c→R J W'.H
theorem zd3 {tg iter:Expr} {t t':TI} (h:PI X tg iter t) (hi:∀ σ H R,t' σ H R→t σ H R):PI X tg iter t':=fun pins s σ H R I hw=>h pins s σ H R I (hi _ _ _ hw)
noncomputable def lsC (μ:M):D→Option (List D×Ck)
 | .lst ds=>some (ds,none)
 | .scr ds=>some (ds,none)
 | .ref k=>match μ[k]? with
  | some (some (.lst ds))=>some (ds,some (k,ds))
  | _=>none
 | _=>none
theorem zjq {W:Wd} {d:D} {ds:List D} {c:Ck} {v:V} (ok:Ok K W) (h:lsC W.μ d=some (ds,c)) (r:DR K W d v) :
  z2k c W.μ∧∃ a,v=.ref a∧∀ W2,Ok K W2→z2k c W2.μ→DR K W2 d v→∃ vs,SqL K W2.H a vs∧DRs K W2 ds vs:=by
 cases d with
 | lst xs =>
  cases h
  cases r with
  | lst h n hs =>
   refine ⟨trivial,_,rfl,fun W2 _ _ r2=>?_⟩
   cases r2 with
   | lst h n hs=>exact ⟨_,SqL.of h,hs⟩
 | scr xs =>
  cases h
  cases r with
  | scr h hs =>
   refine ⟨trivial,_,rfl,fun W2 _ _ r2=>?_⟩
   cases r2 with
   | scr h hs=>exact ⟨_,h.seq,hs⟩
 | ref k =>
  simp only [lsC] at h
  split at h
  ·rename_i xs hk
   cases h
   refine ⟨hk,?_⟩
   cases r with
   | ref ha =>
    refine ⟨_,rfl,fun W2 ok2 c2 r2=>?_⟩
    refine bq fun bG=>?_
    obtain ⟨a',vs,e,_,hh,hs⟩:=z7y ok2 c2 r2
    cases e
    exact bG (⟨vs,SqL.of hh,hs⟩)
  ·cases h
 | _=>cases h
noncomputable def ivL (ea:EV):IV:=fun Γ μ=>(ea Γ μ).bind fun p=>(lsC p.2 p.1).bind fun s=>some (s,p.2)
theorem z19 {tg a:Expr} (ha:PE X a (tD K ea)) (hK:X.K=K:=by rfl):PI X tg a (tDI K (ivL ea)):=zd3 (iL K ha hK) fun σ H R h=>by
 refine el5 h fun W Γ its c μ' eH ok en e q=>?_;subst eH
 refine z05 e fun p1 e1 e=>?_
 refine z05 e fun s e2 e=>?_
 cases e
 refine ⟨W,Γ,p1.1,p1.2,rfl,ok,en,e1,fun v W1 hμ ok1 s1 r1=>?_⟩
 refine bq fun bG=>?_
 obtain ⟨c0,a,rfl,hh⟩:=zjq ok1 (by rw [hμ];exact e2) r1
 obtain ⟨vs0,h0,_⟩:=hh W1 ok1 c0 r1
 refine bG (⟨a,rfl,⟨_,h0⟩,q (Itl K a) W1 hμ ok1 s1 ⟨c0,[p1.1],[.ref a],.cons r1 .nil,fun W2 i ok2 c2 r2=>?_⟩⟩)
 cases r2 with
 | cons r2 _ =>
  obtain ⟨vs,hs,hv⟩:=hh W2 ok2 c2 r2
  refine ⟨fun hi=>⟨vs,hs,by rw [← hv.length];exact hi⟩,fun d hd=>?_⟩
  refine bq fun bG=>?_
  obtain ⟨v,hv1,hv2⟩:=hv.get hd
  refine bG (⟨⟨vs,v,hs,hv1⟩,fun x H' y=>?_⟩)
  obtain ⟨rfl,y⟩:=y
  have:=y vs hs
  rw [hv1] at this
  cases this
  exact ⟨W2,rfl,rfl,ok2,.refl,hv2⟩
noncomputable def z2z (lo:Int) (n:Nat):List D:=(List.range n).map fun k:Nat=>D.int (lo+k)
theorem zfi {W:Wd} {lo:Int} {n:Nat}:JR K W (Itr lo n) (z2z lo n) none:=by
 refine ⟨trivial,[],[],.nil,fun W2 i ok2 _ _=>⟨fun hi=>?_,fun d hd=>?_⟩⟩
 ·show n≤i
  simpa [z2z] using hi
 ·have hlt:=(List.getElem?_eq_some_iff.mp hd).1
  simp [z2z] at hlt
  simp [z2z,hlt] at hd
  subst hd
  refine ⟨hlt,fun x H' y=>?_⟩
  refine bq fun bG=>?_
  obtain ⟨rfl,rfl⟩:=y
  exact bG (⟨W2,rfl,rfl,ok2,.refl,.int _⟩)
noncomputable def ivR (ea:EV):IV:=fun Γ μ=>(ea Γ μ).bind fun p=>match p.1 with
 | .int j=>if -1000000000≤j∧j≤1000000000 then some ((z2z 0 j.toNat,none),p.2) else none
 | _=>none
theorem z1e (mr:X.mg "range" = none) {tg a:Expr} {p:Pos} (ha:PE X a (tD K ea)) (hg:Gl X "range" := by rfl) (hs:starEach [a] X.env=[(false,eval a X.env)]:=by rfl):PI X tg (.Call (.Name "range" p) [a] [] pos) (tDI K (ivR ea)):=zd3 (iR mr ha hg hs) fun σ H R h=>by
 refine el5 h fun W Γ its c μ' eH ok en e q=>?_;subst eH
 refine z05 e fun p1 e1 e=>?_
 split at e
 ·rename_i j hj
  split at e
  ·rename_i hb
   cases e
   refine ⟨W,Γ,p1.1,p1.2,rfl,ok,en,e1,fun v W1 hμ ok1 s1 r1=>?_⟩
   rw [hj] at r1
   cases r1
   exact ⟨j,rfl,by omega,by omega,q _ W1 hμ ok1 s1 zfi⟩
  ·cases e
 ·cases e
noncomputable def z4d (c:Ck) (g:GV) (body:SV):List D→SV
 | [],Γ,μ=>some (.nx,Γ,μ)
 | d::r,Γ,μ=>(g d Γ μ).bind fun p=>(body p.1 p.2).bind fun o=>match o.1 with
  | .nx=>chk (z2k c o.2.2) (z4d c g body r o.2.1 o.2.2)
  | .ct=>chk (z2k c o.2.2) (z4d c g body r o.2.1 o.2.2)
  | .bk=>some (.nx,o.2)
  | .rt d=>some (.rt d,o.2)
noncomputable def z8y (iv:IV) (g:GV) (body:SV):SV:=fun Γ μ=>(iv Γ μ).bind fun s=>z4d s.1.2 g body s.1.1 Γ s.2
theorem z2x {tg iter:Expr} {body:List Stmt} {iv:IV} {g:GV} (hp:PassesOwn (model X.prog X.w) X.A X.env X.xe) (hc:X.calm=true) (hi:PI X tg iter (tDI K iv)) (hg:PG X tg (tDG K g)) (hb:PSs X body (tDS K sb))
  (hs:∀ x,foldedSetIterable iter X.env x=pure x:=by intro _;rfl):PS X (.For tg iter body [] pos) (tDS K (z8y iv g sb)):=z3h (zov hp hc hi hg hb hs) fun D σ H h=>by
 refine el5 h fun W Γ o Γ' μ' eH ok en e q=>?_;subst eH
 refine bq fun bG=>?_
 obtain ⟨⟨⟨its,c⟩,μ1⟩,e1,e⟩:=bnd e
 refine bG (⟨W,Γ,its,c,μ1,rfl,ok,en,e1,fun J W1 hμ1 ok1 s1 jr=>?_⟩)
 obtain ⟨c1,ds,vs,r1,hj⟩:=jr
 obtain ⟨P,hP⟩:∃ P:Nat→St→Hp→Prop,∀ i σ2 H2,P i σ2 H2↔(i≤its.length∧∃ W2 Γ2,W2.H=H2∧Ok K W2∧Step W1 W2∧EnvR K W2 Γ2 σ2∧z2k c W2.μ∧z4d c g sb (its.drop i) Γ2 W2.μ=some (o,Γ',μ')):=⟨_,fun _ _ _=>Iff.rfl⟩
 refine ⟨fun i m σ2 H2=>m=its.length - i∧P i σ2 H2,⟨its.length,by simp,(hP _ _ _).2 ⟨Nat.zero_le _,W1,Γ,rfl,ok1,.refl,en.step ok s1,c1,by rw [hμ1];exact e⟩⟩,?_⟩
 rintro i m σ2 H2 ⟨rfl,hi⟩
 refine bq fun hG=>?_
 obtain ⟨hi,W2,Γ2,rfl,ok2,s2,en2,c2,e2⟩:=(hP _ _ _).1 hi
 obtain ⟨hstop,hgo⟩:=hj W2 i ok2 c2 (r1.step ok1 s2)
 by_cases hlt:i<its.length
 ·have hd:its[i]?=some its[i]:=List.getElem?_eq_getElem hlt
  refine bq fun bG=>?_
  obtain ⟨h1,h2⟩:=hgo _ hd
  rw [List.drop_eq_getElem_cons hlt] at e2
  refine z05 e2 fun p e3 e2=>?_
  obtain ⟨⟨o4,Γ4,μ4⟩,e4,e2⟩:=bnd e2
  refine bG (hG (.inr ⟨h1,P (i+1),fun σ' H' hN=>⟨its.length - (i+1),by omega,rfl,hN⟩,fun x H' hy=>?_⟩))
  refine bq fun hF=>?_
  obtain ⟨W3,rfl,hμ3,ok3,s3,r3⟩:=h2 x H' hy
  refine hF ⟨W3,Γ2,its[i],p.1,p.2,rfl,ok3,en2.step ok2 s3,r3,by rw [hμ3];exact e3,fun W4 σ4 hμ4 ok4 s4 en4=>⟨W4,p.1,o4,Γ4,μ4,rfl,ok4,en4,by rw [hμ4];exact e4,fun W5 σ5 hμ5 ok5 s5 en5=>?_⟩⟩
  have st:=s2.trans (s3.trans (s4.trans s5))
  cases o4 with
  | nx=>refine z4c e2 fun hc5 e2=>?_;exact (hP _ _ _).2 ⟨hlt,W5,Γ4,rfl,ok5,st,en5,by rw [hμ5];exact hc5,by rw [hμ5];exact e2⟩
  | ct=>refine z4c e2 fun hc5 e2=>?_;exact (hP _ _ _).2 ⟨hlt,W5,Γ4,rfl,ok5,st,en5,by rw [hμ5];exact hc5,by rw [hμ5];exact e2⟩
  | bk=>cases e2;exact q W5 σ5 hμ5 ok5 (s1.trans st) en5
  | rt d=>cases e2;exact q W5 σ5 hμ5 ok5 (s1.trans st) en5
 ·have e':i=its.length:=by omega
  subst e'
  rw [List.drop_eq_nil_of_le (Nat.le_refl _)] at e2
  cases e2
  exact hG (.inl ⟨hstop (Nat.le_refl _),q W2 σ2 rfl ok2 (s1.trans s2) en2⟩)
end
structure StepB (p:Addr) (W W':Wd):Prop where
 ρ:∀ (k:Nat) a,W.ρ[k]?=some a→W'.ρ[k]?=some a
 live:∀ a,RL W' a→RL W a∨W.H a=none
 keep:∀ a o,a≠p→W.H a=some o→¬ RL W a→W'.H a=some o
 hid:W'.hid=W.hid
 still:∀ a,W.H a≠none→W'.H a≠none
section
variable {K:PySem.W.Frag} {W W' W'':Wd} {p:Addr}
theorem Step.b (s:Step W W'):StepB p W W':=⟨s.ρ,s.live,fun a o _ h n=>s.keep a o h n,s.hid,s.still⟩
theorem StepB.nlive (s:StepB p W W') {a:Addr} {o:HO} (h:W.H a=some o) (n:¬ RL W a):¬ RL W' a:=fun z=>by
 rcases s.live a z with z | z
 ·exact n z
 ·rw [h] at z;cases z
theorem StepB.trans (s:StepB p W W') (t:StepB p W' W''):StepB p W W'' where
 ρ k a h:=t.ρ k a (s.ρ k a h)
 live a h:=by
  rcases t.live a h with z | z
  ·exact s.live a z
  ·exact .inr (Classical.byContradiction fun n=>s.still a n z)
 keep a o hp h n:=t.keep a o hp (s.keep a o hp h n) (s.nlive h n)
 hid:=t.hid.trans s.hid
 still a h:=t.still a (s.still a h)
mutual
theorem DR.stepB (ok:Ok K W) (hp:W.hid p) (hl:∃ ys,W.H p=some (.lst ys)) (s:StepB p W W'):∀ {d:D} {v:V},DR K W d v→DR K W' d v
 | _,_,.non=>.non
 | _,_,.bl b=>.bl b
 | _,_,.int i=>.int i
 | _,_,.str x=>.str x
 | _,_,.ref h=>.ref (s.ρ _ _ h)
 | _,_,.lst r n h=>.lst (s.keep _ _ (fun z=>n (.inr (by rw [z];exact hp))) r (fun z=>n (.inl z))) (fun z=>z.elim (s.nlive r (fun z=>n (.inl z))) (fun z=>n (.inr (by rw [s.hid] at z;exact z)))) (DRs.stepB ok hp hl s h)
 | _,_,.scr r h=>.scr (by
   rcases r with ⟨o,r⟩ | r
   ·obtain ⟨ys,hl⟩:=hl
    exact .inl ⟨o,s.keep _ _ (fun z=>by rw [z,hl] at r;cases r) r (ok.nofrz r)⟩
   ·exact .inr r) (DRs.stepB ok hp hl s h)
 | _,_,.tup r h=>.tup (by
   obtain ⟨ys,hl⟩:=hl
   exact s.keep _ _ (fun z=>by rw [z,hl] at r;cases r) r (ok.notup (.inl r))) (DRs.stepB ok hp hl s h)
 | _,_,.gt r h=>.gt (by
   rcases r with r | r
   ·have n:=ok.notup r
    obtain ⟨ys,hl⟩:=hl
    rcases r with r | ⟨o,r⟩
    ·exact .inl (.inl (s.keep _ _ (fun z=>by rw [z,hl] at r;cases r) r n))
    ·exact .inl (.inr ⟨o,s.keep _ _ (fun z=>by rw [z,hl] at r;cases r) r n⟩)
   ·exact .inr r) (DRs.stepB ok hp hl s h)
theorem DRs.stepB (ok:Ok K W) (hp:W.hid p) (hl:∃ ys,W.H p=some (.lst ys)) (s:StepB p W W'):∀ {ds:List D} {vs:List V},DRs K W ds vs→DRs K W' ds vs
 | _,_,.nil=>.nil
 | _,_,.cons h t=>.cons (h.stepB ok hp hl s) (DRs.stepB ok hp hl s t)
end
theorem OR.stepB (ok:Ok K W) (hp:W.hid p) (hl:∃ ys,W.H p=some (.lst ys)) (s:StepB p W W') {a:Addr} {o:O} {ho:HO} (h:OR K W a o ho):OR K W' a o ho:=by
 cases o with
 | lst ds=>obtain ⟨vs,e,q⟩:=h;exact ⟨vs,e,q.stepB ok hp hl s⟩
 | dK kvs=>obtain ⟨vs,e,q⟩:=h;exact ⟨vs,e,Paired.mapP q fun _ _ ⟨e,q⟩=>⟨e,q.stepB ok hp hl s⟩⟩
 | ins C fs=>obtain ⟨vs,e,q⟩:=h;exact ⟨vs,e,Paired.mapP q fun _ _ ⟨e,q⟩=>⟨e,q.stepB ok hp hl s⟩⟩
 | exc C=>exact h
theorem EnvR.stepB {Γ:G} {σ:St} (e:EnvR K W Γ σ) (ok:Ok K W) (hp:W.hid p) (hl:∃ ys,W.H p=some (.lst ys)) (s:StepB p W W'):EnvR K W' Γ σ:=⟨e.len,fun i d h=>let ⟨v,a,b⟩:=e.at_ i d h;⟨v,a,b.stepB ok hp hl s⟩⟩
noncomputable def Wd.re (W:Wd) (p:Addr) (o:HO):Wd:={ W with H:=upd W.H p o }
theorem z2o {o:HO}:StepB p W (W.re p o) where
 ρ _ _ h:=h
 live _ h:=.inl h
 keep a u hp e _:=by show upd W.H p o a=_;rw [z0h hp];exact e
 hid:=rfl
 still a n:=by
  show upd W.H p o a≠none
  by_cases e:a=p
  ·subst e;rw [z0l];simp
  ·rw [z0h e];exact n
theorem zuc (ok:Ok K W) (hp:W.hid p) (hl:∃ ys,W.H p=some (.lst ys)) {o:HO}:Ok K (W.re p o) where
 len:=ok.len
 nd:=ok.nd
 rs a m:=(z2o (W:=W) (p:=p) (o:=o)).still a (ok.rs a m)
 at_ k u e:=by
  obtain ⟨a,ho,h1,h2,h3⟩:=ok.at_ k u e
  have hne:a≠p:=fun z=>(ok.hd p hp).2 (z ▸ ⟨k,u,e,h1⟩)
  exact ⟨a,ho,h1,by show upd W.H p o a=_;rw [z0h hne];exact h2,h3.stepB ok hp hl z2o⟩
 hd0 a z:=⟨(z2o (W:=W) (p:=p) (o:=o)).still a (ok.hd a z).1,(ok.hd0 a z).2⟩
mutual
theorem DR.hide (hp:W.H p=none) (ok:Ok K W) {o:HO}:∀ {d:D} {v:V},DR K W d v→DR K (W.hide p o) d v
 | _,_,.non=>.non
 | _,_,.bl b=>.bl b
 | _,_,.int i=>.int i
 | _,_,.str x=>.str x
 | _,_,.ref h=>.ref h
 | _,_,.lst r n h=>.lst (by show upd W.H p o _=_;rw [z0h (z0j r hp)];exact r) (fun z=>z.elim (fun z=>n (.inl z)) (fun z=>z.elim (fun z=>by rw [z,hp] at r;cases r) (fun z=>n (.inr z)))) (DRs.hide hp ok h)
 | _,_,.scr r h=>.scr (zie ok (z0m hp) r) (DRs.hide hp ok h)
 | _,_,.tup r h=>.tup (by show upd W.H p o _=_;rw [z0h (z0j r hp)];exact r) (DRs.hide hp ok h)
 | _,_,.gt r h=>.gt (zi7 ok (z0m hp) r) (DRs.hide hp ok h)
theorem DRs.hide (hp:W.H p=none) (ok:Ok K W) {o:HO}:∀ {ds:List D} {vs:List V},DRs K W ds vs→DRs K (W.hide p o) ds vs
 | _,_,.nil=>.nil
 | _,_,.cons h t=>.cons (h.hide hp ok) (DRs.hide hp ok t)
end
theorem OR.hide (hp:W.H p=none) (ok:Ok K W) {o:HO} {a:Addr} {x:O} {ho:HO} (h:OR K W a x ho):OR K (W.hide p o) a x ho:=by
 cases x with
 | lst ds=>obtain ⟨vs,e,q⟩:=h;exact ⟨vs,e,q.hide hp ok⟩
 | dK kvs=>obtain ⟨vs,e,q⟩:=h;exact ⟨vs,e,Paired.mapP q fun _ _ ⟨e,q⟩=>⟨e,q.hide hp ok⟩⟩
 | ins C fs=>obtain ⟨vs,e,q⟩:=h;exact ⟨vs,e,Paired.mapP q fun _ _ ⟨e,q⟩=>⟨e,q.hide hp ok⟩⟩
 | exc C=>exact h
theorem EnvR.hide {Γ:G} {σ:St} (e:EnvR K W Γ σ) (hp:W.H p=none) (ok:Ok K W) {o:HO}:EnvR K (W.hide p o) Γ σ:=⟨e.len,fun i d h=>let ⟨v,a,b⟩:=e.at_ i d h;⟨v,a,b.hide hp ok⟩⟩
theorem zat (ok:Ok K W) (hp:W.H p=none) {o:HO}:Ok K (W.hide p o) where
 len:=ok.len
 nd:=ok.nd
 rs a m:=(z0m (o:=o) hp).still a (ok.rs a m)
 at_ k u e:=by
  obtain ⟨a,ho,h1,h2,h3⟩:=ok.at_ k u e
  exact ⟨a,ho,h1,by show upd W.H p o a=_;rw [z0h (z0j h2 hp)];exact h2,h3.hide hp ok⟩
 hd0 a z:=by
  rcases z with rfl | z
  ·exact ⟨by show upd W.H a o a≠none;rw [z0l];simp,fun m=>ok.rs a m hp⟩
  ·exact ⟨(z0m (o:=o) hp).still a (ok.hd a z).1,(ok.hd0 a z).2⟩
noncomputable def Wd.show (W:Wd) (h:Addr→Prop):Wd:={ W with hid:=h }
mutual
theorem DR.show {h:Addr→Prop} (hs:∀ a,h a→W.hid a):∀ {d:D} {v:V},DR K W d v→DR K (W.show h) d v
 | _,_,.non=>.non
 | _,_,.bl b=>.bl b
 | _,_,.int i=>.int i
 | _,_,.str x=>.str x
 | _,_,.ref h=>.ref h
 | _,_,.lst r n h=>.lst r (fun z=>n (z.elim .inl (fun z=>.inr (hs _ z)))) (DRs.show hs h)
 | _,_,.scr r h=>.scr r (DRs.show hs h)
 | _,_,.tup r h=>.tup r (DRs.show hs h)
 | _,_,.gt r h=>.gt r (DRs.show hs h)
theorem DRs.show {h:Addr→Prop} (hs:∀ a,h a→W.hid a):∀ {ds:List D} {vs:List V},DRs K W ds vs→DRs K (W.show h) ds vs
 | _,_,.nil=>.nil
 | _,_,.cons h t=>.cons (h.show hs) (DRs.show hs t)
end
theorem zr0 (ok:Ok K W) {h:Addr→Prop} (hs:∀ a,h a→W.hid a):Ok K (W.show h) where
 len:=ok.len
 nd:=ok.nd
 rs:=ok.rs
 at_ k u e:=by
  refine bq fun bG=>?_
  obtain ⟨a,ho,h1,h2,h3⟩:=ok.at_ k u e
  refine bG (⟨a,ho,h1,h2,?_⟩)
  cases u with
  | lst ds=>obtain ⟨vs,e,q⟩:=h3;exact ⟨vs,e,q.show hs⟩
  | dK kvs=>obtain ⟨vs,e,q⟩:=h3;exact ⟨vs,e,Paired.mapP q fun _ _ ⟨e,q⟩=>⟨e,q.show hs⟩⟩
  | ins C fs=>obtain ⟨vs,e,q⟩:=h3;exact ⟨vs,e,Paired.mapP q fun _ _ ⟨e,q⟩=>⟨e,q.show hs⟩⟩
  | exc C=>exact h3
 hd0 a z:=ok.hd0 a (hs a z)
theorem zdf {o:HO} (hp:W.H p=none) (s:StepB p (W.hide p o) W'):Step W (W'.show W.hid) where
 ρ k a h:=s.ρ k a h
 live a z:=by
  rcases s.live a z with z | z
  ·exact .inl z
  ·have z:upd W.H p o a=none:=z
   by_cases e:a=p
   ·subst e;rw [z0l] at z;cases z
   ·rw [z0h e] at z;exact .inr z
 keep a u e n:=s.keep a u (z0j e hp) (by show upd W.H p o a=_;rw [z0h (z0j e hp)];exact e) n
 hid:=rfl
 still a n:=s.still a (by
  show upd W.H p o a≠none
  by_cases e:a=p
  ·subst e;rw [z0l];simp
  ·rw [z0h e];exact n)
theorem z5p (ok:Ok K W) (hp:W.hid p):¬ RL W p:=(ok.hd p hp).2
end
noncomputable def z50 (own:List Str) (cap:List (Str×Nat)) (Γ:G):G:=own.map (fun _=>none)++cap.map fun p=>(Γ[p.2]?).join
theorem EnvR.cap {K:PySem.W.Frag} {W:Wd} {Γ:G} {σ:St} (e:EnvR K W Γ σ) (own:List Str) (cap:List (Str×Nat)):EnvR K W (z50 own cap Γ) (z3t own cap σ) where
 len:=by simp [z50,z3t]
 at_ i d h:=by
  unfold z50 at h
  unfold z3t
  by_cases hi:i<own.length
  ·rw [List.getElem?_append_left (by simpa using hi)] at h
   simp [hi] at h
  ·rw [List.getElem?_append_right (by simpa using hi)] at h ⊢
   simp only [List.length_map,List.getElem?_map] at h ⊢
   cases hc:cap[i - own.length]? with
   | none=>rw [hc] at h;cases h
   | some p =>
    rw [hc] at h
    simp only [Option.map_some] at h ⊢
    cases hg:Γ[p.2]? with
    | none=>rw [hg] at h;cases h
    | some x =>
     rw [hg] at h
     cases x with
     | none=>cases h
     | some d' =>
      cases h
      obtain ⟨v,hv,r⟩:=e.at_ _ _ hg
      exact ⟨v,by rw [hv];rfl,r⟩
noncomputable def z1m (c:Ck) (g:GV) (tc:BV) (te:EV):List D→G→M→Option (List D×M)
 | [],_,μ=>some ([],μ)
 | d::r,Γ,μ=>(g d Γ μ).bind fun p=>(tc p.1 p.2).bind fun t=>if t.1=true then (te p.1 t.2).bind fun v=>chk (z2k c v.2) ((z1m c g tc te r p.1 v.2).bind fun q=>some (v.1::q.1,q.2)) else chk (z2k c t.2) (z1m c g tc te r p.1 t.2)
noncomputable def z2c:BV:=fun _ μ=>some (true,μ)
section
variable {X:Cx} {K:PySem.W.Frag} {N' own:List Str} {cap:List (Str×Nat)} {scope:Scope} {tg iter elt:Expr} {ifs:List Expr} {pos:Pos} {iv:IV} {g:GV} {tc:BV} {te:EV}
theorem zrx {t t':TT} (h:PIf X ifs t) (hi:∀ σ H Q,t' σ H Q→t σ H Q):PIf X ifs t':=fun pins s σ H Q I hw=>h pins s σ H Q I (hi _ _ _ hw)
theorem z1q:PIf X [] (tDB K z2c):=zrx zql fun σ H Q h=>by
 refine el4 h fun W Γ b μ' eH ok en e q=>?_;subst eH
 cases e
 exact q W rfl ok .refl
theorem z4e {c:Expr} (h:PT X c (tDB K tc)):PIf X [c] (tDB K tc):=zqk h
theorem zaf {W1:Wd} {J:It} {its:List D} {c:Ck} {Γ0:G} {σ0:St} {rs:List D} {μ':M} {p:Addr} {Z:Hp→Prop} (ok1:Ok K W1) (hp:W1.H p=none) (jr:JR K W1 J its c) (en:EnvR K W1 Γ0 σ0) (hl:its.length≤1000000)
  (e:z1m c g tc te its Γ0 W1.μ=some (rs,μ')) (hZ:∀ W' ys,W'.μ=μ'→Ok K W'→StepB p (W1.hide p (.lst [])) W'→W'.hid p→W'.H p=some (.lst ys)→DRs K W' rs ys→Z W'.H) :
  z3v J (tDG K g) (tDB K tc) (tD K te) p σ0 W1.H Z:=by
 obtain ⟨c1,ds,vs,r1,hj⟩:=jr
 obtain ⟨P,hP⟩:∃ P:Nat→St→Hp→Prop,∀ i σ2 H2,P i σ2 H2↔(i≤its.length∧∃ W2 Γ2 done z1w ys,W2.H=H2∧Ok K W2∧StepB p (W1.hide p (.lst [])) W2∧W2.hid p∧W2.H p=some (.lst ys)∧DRs K W2 done ys∧ys.length≤i∧EnvR K W2 Γ2 σ2∧z2k c W2.μ∧z1m c g tc te (its.drop i) Γ2 W2.μ=some (z1w,μ')∧done++z1w=rs):=⟨_,fun _ _ _=>Iff.rfl⟩
 refine ⟨fun i m σ2 H2=>m=its.length - i∧P i σ2 H2,?_,?_⟩
 ·exact ⟨its.length,by simp,(hP _ _ _).2 ⟨Nat.zero_le _,W1.hide p (.lst []),Γ0,[],rs,[],rfl,zat ok1 hp,⟨fun _ _ h=>h,fun _ h=>.inl h,fun _ _ _ h _=>h,rfl,fun _ h=>h⟩,.inl rfl,z0l,.nil,Nat.le_refl _,en.hide hp ok1,c1,e,rfl⟩⟩
 rintro i m σ2 H2 ⟨rfl,hi⟩
 refine bq fun hG=>?_
 obtain ⟨hi,W2,Γ2,done,z1w,ys,rfl,ok2,s2,hp2,hy2,rd,hyl,en2,c2,e2,ed⟩:=(hP _ _ _).1 hi
 have rj:DRs K W2 ds vs:=(r1.hide hp ok1).stepB (zat ok1 hp) (.inl rfl) ⟨[],z0l⟩ s2
 obtain ⟨hstop,hgo⟩:=hj W2 i ok2 c2 rj
 by_cases hlt:i<its.length
 ·have hd:its[i]?=some its[i]:=List.getElem?_eq_getElem hlt
  refine bq fun bG=>?_
  obtain ⟨h1,h2⟩:=hgo _ hd
  rw [List.drop_eq_getElem_cons hlt] at e2
  refine z05 e2 fun pg e3 e2=>?_
  refine z05 e2 fun pt e4 e2=>?_
  refine bG (hG (.inr ⟨h1,P (i+1),fun σ' H' hN=>⟨its.length - (i+1),by omega,rfl,hN⟩,fun x H' hy=>?_⟩))
  refine bq fun hF=>?_
  obtain ⟨W3,rfl,hμ3,ok3,s3,r3⟩:=h2 x H' hy
  refine hF ⟨W3,Γ2,its[i],pg.1,pg.2,rfl,ok3,en2.step ok2 s3,r3,by rw [hμ3];exact e3,fun W4 σ4 hμ4 ok4 s4 en4=>⟨W4,pg.1,pt.1,pt.2,rfl,ok4,en4,by rw [hμ4];exact e4,fun W5 hμ5 ok5 s5=>?_⟩⟩
  have s25:=s3.trans (s4.trans s5)
  split at e2
  ·rename_i ht
   refine z05 e2 fun pv e5 e2=>?_
   refine z4c e2 fun c5 e2=>?_
   refine z05 e2 fun pq e6 e2=>?_
   cases e2
   refine zpa (fun _=>?_) (fun n=>absurd ht n)
   refine ⟨W5,pg.1,pv.1,pv.2,rfl,ok5,en4.step ok4 s5,by rw [hμ5];exact e5,fun v W6 hμ6 ok6 s6 r6=>?_⟩
   have s26:=s25.trans s6
   have hp6:W6.hid p:=by rw [s26.hid];exact hp2
   have hy6:W6.H p=some (.lst ys):=s26.keep _ _ hy2 (z5p ok2 hp2)
   have rd6:=rd.step ok2 s26
   refine ⟨ys,hy6,z8a (by omega),(hP _ _ _).2 ⟨hlt,W6.re p (.lst (ys++[v])),pg.1,done++[pv.1],pq.1,ys++[v],rfl,zuc ok6 hp6 ⟨_,hy6⟩,(s2.trans s26.b).trans z2o,hp6,z0l,?_,by simp;omega,(((en4.step ok4 s5).step ok5 s6).stepB ok6 hp6 ⟨_,hy6⟩ z2o),by show z2k c W6.μ;rw [hμ6];exact c5,by show z1m c g tc te _ _ W6.μ=_;rw [hμ6];exact e6,by simpa using ed⟩⟩
   exact (rd6.append (.cons r6 .nil)).stepB ok6 hp6 ⟨_,hy6⟩ z2o
  ·rename_i ht
   refine z4c e2 fun c5 e2=>?_
   refine zpa (fun n=>absurd n ht) (fun _=>?_)
   exact (hP _ _ _).2 ⟨hlt,W5,pg.1,done,z1w,ys,rfl,ok5,s2.trans s25.b,by rw [s25.hid];exact hp2,s25.keep _ _ hy2 (z5p ok2 hp2),rd.step ok2 s25,by omega,en4.step ok4 s5,by rw [hμ5];exact c5,by rw [hμ5];exact e2,ed⟩
 ·have e':i=its.length:=by omega
  subst e'
  rw [List.drop_eq_nil_of_le (Nat.le_refl _)] at e2
  cases e2
  rw [List.append_nil] at ed
  subst ed
  exact hG (.inl ⟨hstop (Nat.le_refl _),hZ W2 ys rfl ok2 s2 hp2 hy2 rd⟩)
noncomputable def z10 (own:List Str) (cap:List (Str×Nat)) (iv:IV) (g:GV) (tc:BV) (te:EV):EV:=fun Γ μ=>(iv Γ μ).bind fun s=>if s.1.1.length≤1000000 then (z1m s.1.2 g tc te s.1.1 (z50 own cap Γ) s.2).bind fun q=>some (.lst q.1,q.2) else none
theorem z8s {W W1 W':Wd} {p:Addr} {rs:List D} {ys:List V} (s1:Step W W1) (hp:W1.H p=none) (ok1:Ok K W1) (ok':Ok K W') (s:StepB p (W1.hide p (.lst [])) W') (hp':W'.hid p) (hy:W'.H p=some (.lst ys)) (r:DRs K W' rs ys) :
  Ok K (W'.show W1.hid)∧Step W (W'.show W1.hid)∧DR K (W'.show W1.hid) (.lst rs) (.ref p):=by
 have hs:∀ a,W1.hid a→W'.hid a:=fun a z=>by rw [s.hid];exact .inr z
 refine ⟨zr0 ok' hs,s1.trans (zdf hp s),.lst hy (fun z=>?_) (r.show hs)⟩
 rcases z with z | z
 ·exact z5p ok' hp' z
 ·exact zaa ok1 hp z
theorem zer {W:Wd} {Γ:G} {σ:St} {d:D} {μ':M} (ok:Ok K W) (en:EnvR K W Γ σ) (e:z10 own cap iv g tc te Γ W.μ=some (d,μ')) {Z:Addr→Hp→Prop} (q:∀ v W',W'.μ=μ'→Ok K W'→Step W W'→DR K W' d v→∀ p,v=.ref p→Z p W'.H) :
  tDI K iv σ W.H fun J H1=>∀ p,H1 p=none→z3v J (tDG K g) (tDB K tc) (tD K te) p (z3t own cap σ) H1 (Z p):=by
 refine bq fun bG=>?_
 obtain ⟨⟨⟨its,c⟩,μ1⟩,e1,e⟩:=bnd e
 refine bG (⟨W,Γ,its,c,μ1,rfl,ok,en,e1,fun J W1 hμ1 ok1 s1 jr p hp=>?_⟩)
 split at e
 ·rename_i hl
  obtain ⟨⟨rs,μ2⟩,e2,e⟩:=bnd e
  cases e
  refine zaf ok1 hp jr ((en.step ok s1).cap own cap) hl (by rw [hμ1];exact e2) fun W' ys hμ' ok' s' hp' hy r=>?_
  refine bq fun bG=>?_
  obtain ⟨a1,a2,a3⟩:=z8s s1 hp ok1 ok' s' hp' hy r
  exact bG (q _ (W'.show W1.hid) hμ' a1 a2 a3 p rfl)
 ·cases e
theorem z47 (S:CompScope X N' own cap scope) (hi:PI X tg iter (tDI K iv))
  (hg:∀ cl C s₀ H₀ ex,PG (z0c X N' scope cl C s₀ H₀ ex) tg (tDG K g)) (ht:∀ cl C s₀ H₀ ex,PIf (z0c X N' scope cl C s₀ H₀ ex) ifs (tDB K tc)) (he:∀ cl C s₀ H₀ ex,PE (z0c X N' scope cl C s₀ H₀ ex) elt (tD K te))
  (hx:∀ e s,X.xe e s→False:=by exact fun _ _ z=>z) (hc:X.calm=true:=by rfl) (hs:∀ x,foldedSetIterable iter X.env x=pure x:=by intro _;rfl) :
  PE X (.ListComp elt [⟨tg,iter,ifs,0⟩] scope pos) (tD K (z10 own cap iv g tc te)):=z0n (zqt S hi hg ht he hx hc hs) fun σ H Q h=>by
 refine el4 h fun W Γ d μ' eH ok en e q=>?_;subst eH
 exact zer ok en e fun v W' h1 h2 h3 h4 p hv=>by subst hv;exact q _ W' h1 h2 h3 h4
theorem z2s {i:Nat} {y:Str} {py spos:Pos} (hN:X.N.Nodup) (hi':X.N[i]?=some y) (hy:X.env.scope.names.lookup y=some .local) (S:CompScope X N' own cap scope) (hi:PI X tg iter (tDI K iv))
  (hg:∀ cl C s₀ H₀ ex,PG (z0c X N' scope cl C s₀ H₀ ex) tg (tDG K g)) (ht:∀ cl C s₀ H₀ ex,PIf (z0c X N' scope cl C s₀ H₀ ex) ifs (tDB K tc)) (he:∀ cl C s₀ H₀ ex,PE (z0c X N' scope cl C s₀ H₀ ex) elt (tD K te))
  (hsw:swapsWith (.ListComp elt [⟨tg,iter,ifs,0⟩] scope pos) (some (.Name y py)) spos.line X.env=pure true:=by rfl)
  (hx:∀ e s,X.xe e s→False:=by exact fun _ _ z=>z) (hc:X.calm=true:=by rfl) (hs:∀ x,foldedSetIterable iter X.env x=pure x:=by intro _;rfl) :
  PS X (.Assign [.Name y py] (.ListComp elt [⟨tg,iter,ifs,0⟩] scope pos) spos) (tDS K (z0z (z10 own cap iv g tc te) (z00 i))):=z3h (zgf hN hi' hy S hi hg ht he hsw hx hc hs) fun D σ H h=>by
 refine el5 h fun W Γ o Γ' μ' eH ok en e q=>?_;subst eH
 refine z05 e fun p1 e1 e=>?_
 cases e
 exact zer (Z:=fun p H2=>D.nx (σ.set i (some (.ref p))) H2) ok en e1 fun v W' h1 h2 h3 h4 p hv=>by subst hv;exact q W' _ h1 h2 h3 ((en.step ok h3).set h4 i)
end
open PyProof.Rows (envOfC)
noncomputable def z66 (n m:Nat) (es:SV):List D→M→Option (D×M):=fun ds μ=>if ds.length=m then (es (ds.map some++List.replicate (n - ds.length) none) μ).bind fun o=>match o.1 with
  | .rt d=>some (d,o.2.2)
  | .nx=>some (.non,o.2.2)
  | _=>none
 else none
section
variable {P:Program} {w:World} {K:PySem.W.Frag} {mg:Str→Option Value} {base:Heap}
theorem zcm {W:Wd} {ds:List D} {vs:List V} {n:Nat} (r:DRs K W ds vs):EnvR K W (ds.map some++List.replicate (n - ds.length) none) (vs.map some++List.replicate (n - vs.length) none) where
 len:=by simp [r.length]
 at_ i d h:=by
  by_cases hi:i<ds.length
  ·rw [List.getElem?_append_left (by simpa using hi)] at h
   rw [List.getElem?_append_left (by simpa using r.length ▸ hi)]
   simp only [List.getElem?_map] at h ⊢
   cases hd:ds[i]? with
   | none=>rw [hd] at h;cases h
   | some d' =>
    rw [hd] at h
    cases h
    obtain ⟨v,hv,q⟩:=r.get hd
    exact ⟨v,by rw [hv];rfl,q⟩
  ·rw [List.getElem?_append_right (by simpa using hi)] at h
   simp [List.getElem?_replicate] at h
theorem z8z {x qual:Str} {st:Stmt} {f:Addr} {fd:FuncData} {N ps:List Str} {k:Nat} {es:SV} (F:Fun K x qual st f fd) (S:FnScope N ps (z06 st))
  (hb:∀ (cdv:Value) (A:Around) (outer:List Env) (s:Shared) (H:Hp) (E:XK),Room k (A.deeper (envOfC qual (z06 st) s.heap.objs.size f cdv))→PSs (z4a CX0 P w K mg base N qual (z06 st) f cdv A outer s H E).nox (z0i st) (tDS K es)) :
  FnOk P w K mg base CX0 (k+1) f fd ps (spM K (z66 N.length ps.length es)):=by
 refine F.ok S (fun vs H Q E h=>?_) (fun cdv A outer s H vs Q E hr h=>?_)
 ·obtain ⟨W,ds,d,μ',_,_,r,e,_⟩:=h
  unfold z66 at e
  split at e
  ·rename_i hl;rw [← r.length];exact hl
  ·cases e
 ·obtain ⟨W,ds,d,μ',rfl,ok,r,e,q⟩:=h
  refine ⟨_,hb cdv A outer s W.H E hr,?_⟩
  unfold z66 at e
  split at e
  ·obtain ⟨⟨o,Γ',μ2⟩,e1,e⟩:=bnd e
   refine ⟨W,_,o,Γ',μ2,rfl,ok,zcm r,e1,fun W' σ' hμ ok' s' en'=>?_⟩
   cases o with
   | rt z=>cases e;exact fun v rv=>q v W' hμ ok' s' rv
   | nx=>cases e;exact q _ W' hμ ok' s' .non
   | bk=>cases e
   | ct=>cases e
  ·cases e
end
section
variable {K:PySem.W.Frag} {W W':Wd} {n:Nat}
end
section
variable {X:Cx} {K:PySem.W.Frag} {a b c e:Expr} {ea eb ec:EV} {pos p:Pos}
theorem R2A.or {r r':R2} {f g h:D→D→M→Option (D×M)} (ra:R2A K r f) (rb:R2A K r' g) (hh:∀ x y μ z,h x y μ=some z→f x y μ=some z∨g x y μ=some z):R2A K (fun x y H Q=>r x y H Q∨r' x y H Q) h:=by
 intro W x y d e z μ' Q ok r1 r2 hf q
 rcases hh _ _ _ _ hf with hf | hf
 ·exact .inl (ra W x y d e z μ' Q ok r1 r2 hf q)
 ·exact .inr (rb W x y d e z μ' Q ok r1 r2 hf q)
theorem ra_cat:R2A K zxr zgy:=by
 intro W x y d e z μ' Q ok r1 r2 hf q
 refine z05 hf fun xs hx hf=>?_
 refine z05 hf fun ys hy hf=>?_
 split at hf
 ·rename_i hl
  cases hf
  obtain ⟨a,vs,rfl,ha,hv⟩:=zdb ok hx r1
  obtain ⟨b,us,rfl,hb,hu⟩:=zdb ok hy r2
  exact ⟨a,b,vs,us,rfl,rfl,ha,hb,z41 (by rw [← hv.length,← hu.length];omega),fun p hp=>q _ (W.lay p (.lst (vs++us))) rfl (z2f ok hp) (z0m hp) (z8o ok hp (hv.append hu))⟩
 ·cases hf
theorem zt7:R2A K zxn zxz:=by
 intro W x y d e z μ' Q ok r1 r2 hf q
 refine z05 hf fun xs hx hf=>?_
 split at hf
 ·split at hf
  ·rename_i hl
   cases hf
   cases r2
   obtain ⟨a,vs,rfl,ha,hv⟩:=zdb ok hx r1
   exact ⟨a,_,vs,rfl,rfl,ha,by omega,by omega,z41 (by rw [← hv.length];omega),fun p hp=>q _ (W.lay p _) rfl (z2f ok hp) (z0m hp) (z8o ok hp (hv.rep _))⟩
  ·cases hf
 ·cases hf
noncomputable def znv (x y:D) (μ:M):Option (D×M):=match x with
 | .tup xs=>(zol y).bind fun ys=>if xs≠[]∧xs.length+ys.length≤1000000 then some (.tup (xs++ys),μ) else none
 | _=>none
noncomputable instance {α:Type} {xs:List α}:Decidable (xs≠[]):=by cases xs <;> simp <;> infer_instance
theorem zqd:R2A K (ztg K) znv:=by
 intro W x y d e z μ' Q ok r1 r2 hf q
 unfold znv at hf
 split at hf
 ·rename_i xs
  refine z05 hf fun ys hy hf=>?_
  split at hf
  case isFalse=>cases hf
  rename_i hl
  cases hf
  have rr:=r1
  obtain ⟨a,vs,rfl,ha,hv⟩:=z5n (ds:=xs) rfl r1
  obtain ⟨b,us,rfl,hb,hu⟩:=z5n hy r2
  refine ⟨a,b,vs,us,rfl,rfl,ha,hb,fun z=>?_,z41 (by rw [← hv.length,← hu.length];omega),fun z=>?_,fun _ p hp=>q _ (W.lay p (.tup (vs++us))) rfl (z2f ok hp) (z0m hp) (zad ok hp (hv.append hu))⟩
  ·have:=hv.length
   rw [z] at this
   exact hl.1 (List.length_eq_zero_iff.mp this)
  ·have h0:=hu.length
   rw [z] at h0
   have h1:=List.length_eq_zero_iff.mp h0
   subst h1
   refine q _ W rfl ok .refl ?_
   rw [List.append_nil]
   exact rr
 ·cases hf
noncomputable def z0w (x y:D) (μ:M):Option (D×M):=match x with
 | .int i=>match y with
  | .int j=>some (.int (i+j),μ)
  | _=>none
 | .tup _=>znv x y μ
 | _=>zgy x y μ
theorem z18 (ha:PE X a (tD K ea)) (hb:PE X b (tD K eb)) (hK:X.K=K:=by rfl):PE X (.BinOp a .Add b pos) (tD K (v2 z0w ea eb)):=by
 subst hK
 refine zs1 (op_add.or (op_cat.or zqz)) ((zao (h:=fun i j=>.int (i+j)) fun _ _ _=>.int _).or (ra_cat.or zqd (h:=fun x y μ=>match x with | .tup _=>znv x y μ | _=>zgy x y μ) fun x y μ z h=>?_) fun x y μ z h=>?_) ha hb
 ·split at h
  ·exact .inr h
  ·exact .inl h
 ·unfold z0w at h
  split at h
  ·split at h
   ·exact .inl h
   ·cases h
  ·exact .inr h
  ·rename_i h1 h2
   refine .inr ?_
   split
   ·exact absurd rfl (h2 _)
   ·exact h
noncomputable def z1n (x y:D) (μ:M):Option (D×M):=match x with
 | .int i=>match y with
  | .int j=>if CMul i j then some (.int (i*j),μ) else none
  | _=>none
 | _=>zxz x y μ
theorem z3x (ha:PE X a (tD K ea)) (hb:PE X b (tD K eb)):PE X (.BinOp a .Mult b pos) (tD K (v2 z1n ea eb)):=by
 refine zs1 (op_mul.or zu5) ((zvt (C:=CMul) (h:=fun i j=>.int (i*j)) fun _ _ _=>.int _).or zt7 fun x y μ z h=>?_) ha hb
 unfold z1n at h
 split at h
 ·split at h
  ·exact .inl h
  ·cases h
 ·exact .inr h
noncomputable def z57 (f g:D→D→M→Option (D×M)) (ea eb ec:EV):EV:=fun Γ μ=>(ea Γ μ).bind fun p=>(eb Γ p.2).bind fun q=>(f p.1 q.1 q.2).bind fun t=>match t.1 with
 | .bl true=>(ec Γ t.2).bind fun r=>g q.1 r.1 r.2
 | .bl false=>some (.bl false,t.2)
 | _=>none
theorem zg6 {r r':R2} {f g:D→D→M→Option (D×M)} (ra:R2A K r f) (rb:R2A K r' g):∀ σ H Q,tD K (z57 f g ea eb ec) σ H Q→zom r r' (tD K ea) (tD K eb) (tD K ec) σ H Q:=fun σ H Q h=>by
 refine el4 h fun W Γ d μ' eH ok en e q=>?_;subst eH
 refine z05 e fun p1 e1 e=>?_
 refine z05 e fun p2 e2 e=>?_
 refine z05 e fun p3 e3 e=>?_
 refine ⟨W,Γ,p1.1,p1.2,rfl,ok,en,e1,fun x W1 hμ ok1 s1 r1=>⟨W1,Γ,p2.1,p2.2,rfl,ok1,en.step ok s1,by rw [hμ];exact e2,fun y W2 hμ2 ok2 s2 r2=>?_⟩⟩
 refine ra W2 x y _ _ _ _ _ ok2 (r1.step ok1 s2) r2 (by rw [hμ2];exact e3) fun v W3 hμ3 ok3 s3 r3=>?_
 split at e
 ·rename_i hp;rw [hp] at r3;cases r3
  refine z05 e fun p4 e4 e=>?_
  refine ⟨true,rfl,zx2 ⟨W3,Γ,p4.1,p4.2,rfl,ok3,((en.step ok s1).step ok1 s2).step ok2 s3,by rw [hμ3];exact e4,fun z W4 hμ4 ok4 s4 r4=>?_⟩⟩
  exact rb W4 y z _ _ _ _ _ ok4 ((r2.step ok2 s3).step ok3 s4) r4 (by rw [hμ4];exact e) fun v5 W5 hμ5 ok5 s5 r5=>q v5 W5 hμ5 ok5 (s1.trans (s2.trans (s3.trans (s4.trans s5)))) r5
 ·rename_i hp;rw [hp] at r3;cases r3;cases e
  exact ⟨false,rfl,zx3 (q _ W3 hμ3 ok3 (s1.trans (s2.trans s3)) (.bl _))⟩
 ·cases e
theorem zeq {op op':CmpOp} {r r':R2} {f g:D→D→M→Option (D×M)} (ho:OpR X (compareOp op) r) (ra:R2A K r f) (ho':OpR X (compareOp op') r') (rb:R2A K r' g) (ha:PE X a (tD K ea)) (hb:PE X b (tD K eb)) (hc:PE X c (tD K ec))
  (hm:lastMarks [op,op'] [b,c]=false:=by with_unfolding_all rfl):PT X (.Compare a [op,op'] [b,c] pos) (tDB K (vT (z57 f g ea eb ec))):=z78 (zmu ho ho' ha hb hc hm) (zhw (zg6 ra rb))
theorem zta:R2A K (rI0 fun i j=>.bl (decide (i<j))) fLt:=zao fun _ _ _=>.bl _
theorem ztc:R2A K (rI0 fun i j=>.bl (decide (i≤j))) fLe:=zao fun _ _ _=>.bl _
end
section
variable {X:Cx} {K:PySem.W.Frag} {ea eb:EV} {pos p:Pos}
noncomputable def zcn (ds:List D):List D:=ds.zipIdx.map fun x=>D.tup [.int (x.2:Nat),x.1]
theorem zkt {ds:List D} {i:Nat} {d:D} (h:(zcn ds)[i]?=some d):∃ x,ds[i]?=some x∧d=.tup [.int (i:Nat),x]:=by
 unfold zcn at h
 rw [List.getElem?_map] at h
 simp only [List.getElem?_zipIdx] at h
 cases hx:ds[i]? with
 | none=>rw [hx] at h;cases h
 | some x=>rw [hx] at h;simp at h;exact ⟨x,rfl,h.symm⟩
noncomputable def zx1 (ea:EV):IV:=fun Γ μ=>(ea Γ μ).bind fun p=>(lsC p.2 p.1).bind fun s=>some ((zcn s.1,s.2),p.2)
theorem zpr (ml:X.mg "enumerate" = none) {a:Expr} {elts:List Expr} {k:Nat} {tpos:Pos} (ha:PE X a (tD K ea)) (hg:Gl X "enumerate" := by rfl) (hs:starEach [a] X.env=[(false,eval a X.env)]:=by rfl) (hK:X.K=K:=by rfl) :
  PI X (.Tuple elts k tpos) (.Call (.Name "enumerate" p) [a] [] pos) (tDI K (zx1 ea)):=zd3 (iEn K ml ha hg hs hK) fun σ H R h=>by
 refine el5 h fun W Γ its c μ' eH ok en e q=>?_;subst eH
 refine z05 e fun p1 e1 e=>?_
 refine bq fun bG=>?_
 obtain ⟨⟨ds,c'⟩,e2,e⟩:=bnd e
 cases e
 refine bG (⟨W,Γ,p1.1,p1.2,rfl,ok,en,e1,fun v W1 hμ ok1 s1 r1=>?_⟩)
 refine bq fun bG=>?_
 obtain ⟨c0,a,rfl,hh⟩:=zjq ok1 (by rw [hμ];exact e2) r1
 obtain ⟨vs0,h0,_⟩:=hh W1 ok1 c0 r1
 refine bG (⟨a,rfl,⟨_,h0⟩,q (Ite K a) W1 hμ ok1 s1 ⟨c0,[p1.1],[.ref a],.cons r1 .nil,fun W2 i ok2 c2 r2=>?_⟩⟩)
 cases r2 with
 | cons r2 _ =>
  obtain ⟨vs,hs,hv⟩:=hh W2 ok2 c2 r2
  refine ⟨fun hi=>⟨vs,hs,by rw [← hv.length];simpa [zcn] using hi⟩,fun d hd=>?_⟩
  refine bq fun bG=>?_
  obtain ⟨x,hx,rfl⟩:=zkt hd
  obtain ⟨v,hv1,hv2⟩:=hv.get hx
  refine bG (⟨⟨vs,v,hs,hv1⟩,fun y H' hy=>?_⟩)
  obtain ⟨p,u,rfl,hp,rfl,hu⟩:=hy
  have:=hu vs hs
  rw [hv1] at this
  cases this
  exact ⟨W2.lay p _,rfl,rfl,z2f ok2 hp,z0m hp,zad ok2 hp (.cons (.int _) (.cons hv2 .nil))⟩
noncomputable def zen:List D→List D→List D
 | x::xs,y::ys=>.tup [x,y]::zen xs ys
 | _,_=>[]
theorem zem:∀ {xs ys:List D} {i:Nat} {d:D},(zen xs ys)[i]?=some d→∃ x y,xs[i]?=some x∧ys[i]?=some y∧d=.tup [x,y]
 | [],_,_,_,h=>by simp [zen] at h
 | _::_,[],_,_,h=>by simp [zen] at h
 | x::xs,y::ys,0,d,h=>by simp [zen] at h;exact ⟨x,y,rfl,rfl,h.symm⟩
 | x::xs,y::ys,i+1,d,h=>by simp only [zen,List.getElem?_cons_succ] at h ⊢;exact zem h
theorem zel:∀ {xs ys:List D} {i:Nat},(zen xs ys).length≤i→xs.length≤i∨ys.length≤i
 | [],_,_,_=>by simp
 | _::_,[],_,_=>by simp
 | x::xs,y::ys,0,h=>by simp [zen] at h
 | x::xs,y::ys,i+1,h=>by
  simp only [zen,List.length_cons,Nat.add_le_add_iff_right] at h ⊢
  exact zel h
end
noncomputable def z77 (c:Ck) (g:GV) (tc:BV) (te:EV):List D→G→M→Option (List D×G×M)
 | [],Γ,μ=>some ([],Γ,μ)
 | d::r,Γ,μ=>(g d Γ μ).bind fun p=>(tc p.1 p.2).bind fun t=>if t.1=true then (te p.1 t.2).bind fun v=>chk (z2k c v.2) ((z77 c g tc te r p.1 v.2).bind fun q=>some (v.1::q.1,q.2)) else chk (z2k c t.2) (z77 c g tc te r p.1 t.2)
noncomputable def z4b (c:Ck) (g:GV) (tc:BV) (iv2:IV) (g2:GV) (tc2:BV) (te:EV):List D→G→M→Option (List D×M)
 | [],_,μ=>some ([],μ)
 | d::r,Γ,μ=>(g d Γ μ).bind fun p=>(tc p.1 p.2).bind fun t=>if t.1=true then (iv2 p.1 t.2).bind fun s=>(z77 s.1.2 g2 tc2 te s.1.1 p.1 s.2).bind fun q=>chk (z2k c q.2.2) ((z4b c g tc iv2 g2 tc2 te r q.2.1 q.2.2).bind fun z=>some (q.1++z.1,z.2)) else chk (z2k c t.2) (z4b c g tc iv2 g2 tc2 te r p.1 t.2)
section
variable {X:Cx} {K:PySem.W.Frag} {N' own:List Str} {cap:List (Str×Nat)} {scope:Scope} {tg iter elt tg2 iter2:Expr} {ifs ifs2:List Expr} {pos:Pos} {iv iv2:IV} {g g2:GV} {tc tc2:BV} {te:EV}
theorem ze5 {W:Wd} {J:It} {its:List D} {c:Ck} {Γ0:G} {σ0:St} {done0 rs:List D} {ys0:List V} {Γ':G} {μ':M} {p:Addr} {Z:St→Hp→Prop} (ok:Ok K W) (hp:W.hid p) (hy:W.H p=some (.lst ys0)) (rd0:DRs K W done0 ys0) (jr:JR K W J its c) (en:EnvR K W Γ0 σ0)
  (e:z77 c g tc te its Γ0 W.μ=some (rs,Γ',μ')) (hl:done0.length+rs.length≤1000000) (hZ:∀ W' σ' ys,W'.μ=μ'→Ok K W'→StepB p W W'→W'.hid p→W'.H p=some (.lst ys)→DRs K W' (done0++rs) ys→EnvR K W' Γ' σ'→Z σ' W'.H) :
  zej J (tDG K g) (tDB K tc) (tD K te) p σ0 W.H Z:=by
 obtain ⟨c1,ds,vs,r1,hj⟩:=jr
 obtain ⟨P,hP⟩:∃ P:Nat→St→Hp→Prop,∀ i σ2 H2,P i σ2 H2↔(i≤its.length∧∃ W2 Γ2 done z1w ys,W2.H=H2∧Ok K W2∧StepB p W W2∧W2.hid p∧W2.H p=some (.lst ys)∧DRs K W2 done ys∧EnvR K W2 Γ2 σ2∧z2k c W2.μ∧z77 c g tc te (its.drop i) Γ2 W2.μ=some (z1w,Γ',μ')∧done++z1w=done0++rs):=⟨_,fun _ _ _=>Iff.rfl⟩
 refine ⟨fun i m σ2 H2=>m=its.length - i∧P i σ2 H2,?_,?_⟩
 ·exact ⟨its.length,by simp,(hP _ _ _).2 ⟨Nat.zero_le _,W,Γ0,done0,rs,ys0,rfl,ok,Step.refl.b,hp,hy,rd0,en,c1,e,rfl⟩⟩
 rintro i m σ2 H2 ⟨rfl,hi⟩
 refine bq fun hG=>?_
 obtain ⟨hi,W2,Γ2,done,z1w,ys,rfl,ok2,s2,hp2,hy2,rd,en2,c2,e2,ed⟩:=(hP _ _ _).1 hi
 have rj:DRs K W2 ds vs:=r1.stepB ok hp ⟨_,hy⟩ s2
 obtain ⟨hstop,hgo⟩:=hj W2 i ok2 c2 rj
 by_cases hlt:i<its.length
 ·have hd:its[i]?=some its[i]:=List.getElem?_eq_getElem hlt
  refine bq fun bG=>?_
  obtain ⟨h1,h2⟩:=hgo _ hd
  rw [List.drop_eq_getElem_cons hlt] at e2
  refine z05 e2 fun pg e3 e2=>?_
  refine z05 e2 fun pt e4 e2=>?_
  refine bG (hG (.inr ⟨h1,P (i+1),fun σ' H' hN=>⟨its.length - (i+1),by omega,rfl,hN⟩,fun x H' hy=>?_⟩))
  refine bq fun hF=>?_
  obtain ⟨W3,rfl,hμ3,ok3,s3,r3⟩:=h2 x H' hy
  refine hF ⟨W3,Γ2,its[i],pg.1,pg.2,rfl,ok3,en2.step ok2 s3,r3,by rw [hμ3];exact e3,fun W4 σ4 hμ4 ok4 s4 en4=>⟨W4,pg.1,pt.1,pt.2,rfl,ok4,en4,by rw [hμ4];exact e4,fun W5 hμ5 ok5 s5=>?_⟩⟩
  have s25:=s3.trans (s4.trans s5)
  split at e2
  ·rename_i ht
   refine z05 e2 fun pv e5 e2=>?_
   refine z4c e2 fun c5 e2=>?_
   refine bq fun bG=>?_
   obtain ⟨⟨q1,Γq,μq⟩,e6,e2⟩:=bnd e2
   cases e2
   refine bG (zpa (fun _=>?_) (fun n=>absurd ht n))
   refine ⟨W5,pg.1,pv.1,pv.2,rfl,ok5,en4.step ok4 s5,by rw [hμ5];exact e5,fun v W6 hμ6 ok6 s6 r6=>?_⟩
   have s26:=s25.trans s6
   have hp6:W6.hid p:=by rw [s26.hid];exact hp2
   have hy6:W6.H p=some (.lst ys):=s26.keep _ _ hy2 (z5p ok2 hp2)
   have rd6:=rd.step ok2 s26
   have hlen:ys.length<1000000:=by
    have h1:=congrArg List.length ed
    simp only [List.length_append,List.length_cons] at h1
    rw [← rd.length];omega
   refine ⟨ys,hy6,z8a (by omega),(hP _ _ _).2 ⟨hlt,W6.re p (.lst (ys++[v])),pg.1,done++[pv.1],q1,ys++[v],rfl,zuc ok6 hp6 ⟨_,hy6⟩,(s2.trans s26.b).trans z2o,hp6,z0l,?_,(((en4.step ok4 s5).step ok5 s6).stepB ok6 hp6 ⟨_,hy6⟩ z2o),by show z2k c W6.μ;rw [hμ6];exact c5,by show z77 c g tc te _ _ W6.μ=_;rw [hμ6];exact e6,by simpa using ed⟩⟩
   exact (rd6.append (.cons r6 .nil)).stepB ok6 hp6 ⟨_,hy6⟩ z2o
  ·rename_i ht
   refine z4c e2 fun c5 e2=>?_
   refine zpa (fun n=>absurd n ht) (fun _=>?_)
   exact (hP _ _ _).2 ⟨hlt,W5,pg.1,done,z1w,ys,rfl,ok5,s2.trans s25.b,by rw [s25.hid];exact hp2,s25.keep _ _ hy2 (z5p ok2 hp2),rd.step ok2 s25,en4.step ok4 s5,by rw [hμ5];exact c5,by rw [hμ5];exact e2,ed⟩
 ·have e':i=its.length:=by omega
  subst e'
  rw [List.drop_eq_nil_of_le (Nat.le_refl _)] at e2
  cases e2
  rw [List.append_nil] at ed
  subst ed
  exact hG (.inl ⟨hstop (Nat.le_refl _),hZ W2 σ2 ys rfl ok2 s2 hp2 hy2 rd en2⟩)
theorem zee {W1:Wd} {J:It} {its:List D} {c:Ck} {Γ0:G} {σ0:St} {rs:List D} {μ':M} {p:Addr} {Z:Hp→Prop} (ok1:Ok K W1) (hp:W1.H p=none) (jr:JR K W1 J its c) (en:EnvR K W1 Γ0 σ0) (hl:rs.length≤1000000)
  (e:z4b c g tc iv2 g2 tc2 te its Γ0 W1.μ=some (rs,μ')) (hZ:∀ W' ys,W'.μ=μ'→Ok K W'→StepB p (W1.hide p (.lst [])) W'→W'.hid p→W'.H p=some (.lst ys)→DRs K W' rs ys→Z W'.H) :
  z3u J (tDG K g) (tDB K tc) (tDI K iv2) (tDG K g2) (tDB K tc2) (tD K te) p σ0 W1.H Z:=by
 obtain ⟨c1,ds,vs,r1,hj⟩:=jr
 obtain ⟨P,hP⟩:∃ P:Nat→St→Hp→Prop,∀ i σ2 H2,P i σ2 H2↔(i≤its.length∧∃ W2 Γ2 done z1w ys,W2.H=H2∧Ok K W2∧StepB p (W1.hide p (.lst [])) W2∧W2.hid p∧W2.H p=some (.lst ys)∧DRs K W2 done ys∧EnvR K W2 Γ2 σ2∧z2k c W2.μ∧z4b c g tc iv2 g2 tc2 te (its.drop i) Γ2 W2.μ=some (z1w,μ')∧done++z1w=rs):=⟨_,fun _ _ _=>Iff.rfl⟩
 refine ⟨fun i m σ2 H2=>m=its.length - i∧P i σ2 H2,?_,?_⟩
 ·exact ⟨its.length,by simp,(hP _ _ _).2 ⟨Nat.zero_le _,W1.hide p (.lst []),Γ0,[],rs,[],rfl,zat ok1 hp,⟨fun _ _ h=>h,fun _ h=>.inl h,fun _ _ _ h _=>h,rfl,fun _ h=>h⟩,.inl rfl,z0l,.nil,en.hide hp ok1,c1,e,rfl⟩⟩
 rintro i m σ2 H2 ⟨rfl,hi⟩
 refine bq fun hG=>?_
 obtain ⟨hi,W2,Γ2,done,z1w,ys,rfl,ok2,s2,hp2,hy2,rd,en2,c2,e2,ed⟩:=(hP _ _ _).1 hi
 have rj:DRs K W2 ds vs:=(r1.hide hp ok1).stepB (zat ok1 hp) (.inl rfl) ⟨[],z0l⟩ s2
 obtain ⟨hstop,hgo⟩:=hj W2 i ok2 c2 rj
 by_cases hlt:i<its.length
 ·have hd:its[i]?=some its[i]:=List.getElem?_eq_getElem hlt
  refine bq fun bG=>?_
  obtain ⟨h1,h2⟩:=hgo _ hd
  rw [List.drop_eq_getElem_cons hlt] at e2
  refine z05 e2 fun pg e3 e2=>?_
  refine z05 e2 fun pt e4 e2=>?_
  refine bG (hG (.inr ⟨h1,P (i+1),fun σ' H' hN=>⟨its.length - (i+1),by omega,rfl,hN⟩,fun x H' hy=>?_⟩))
  refine bq fun hF=>?_
  obtain ⟨W3,rfl,hμ3,ok3,s3,r3⟩:=h2 x H' hy
  refine hF ⟨W3,Γ2,its[i],pg.1,pg.2,rfl,ok3,en2.step ok2 s3,r3,by rw [hμ3];exact e3,fun W4 σ4 hμ4 ok4 s4 en4=>⟨W4,pg.1,pt.1,pt.2,rfl,ok4,en4,by rw [hμ4];exact e4,fun W5 hμ5 ok5 s5=>?_⟩⟩
  have s25:=s3.trans (s4.trans s5)
  split at e2
  ·rename_i ht
   refine bq fun bG=>?_
   obtain ⟨⟨⟨its2,k2⟩,μi⟩,e5,e2⟩:=bnd e2
   obtain ⟨⟨q1,Γq,μq⟩,e6,e2⟩:=bnd e2
   refine z4c e2 fun c6 e2=>?_
   refine z05 e2 fun z e7 e2=>?_
   cases e2
   refine bG (zpa (fun _=>?_) (fun n=>absurd ht n))
   refine ⟨W5,pg.1,its2,k2,μi,rfl,ok5,en4.step ok4 s5,by rw [hμ5];exact e5,fun J2 W6 hμ6 ok6 s6 jr6=>?_⟩
   have s26:=s25.trans s6
   have hp6:W6.hid p:=by rw [s26.hid];exact hp2
   have hy6:W6.H p=some (.lst ys):=s26.keep _ _ hy2 (z5p ok2 hp2)
   have hlen:done.length+q1.length≤1000000:=by
    have h1:=congrArg List.length ed
    simp only [List.length_append] at h1
    omega
   refine ze5 ok6 hp6 hy6 (rd.step ok2 s26) jr6 ((en4.step ok4 s5).step ok5 s6) (by rw [hμ6];exact e6) hlen fun W7 σ7 ys7 hμ7 ok7 s7 hp7 hy7 rd7 en7=>?_
   exact (hP _ _ _).2 ⟨hlt,W7,Γq,done++q1,z.1,ys7,rfl,ok7,(s2.trans s26.b).trans s7,hp7,hy7,rd7,en7,by rw [hμ7];exact c6,by rw [hμ7];exact e7,by simpa using ed⟩
  ·rename_i ht
   refine z4c e2 fun c5 e2=>?_
   refine zpa (fun n=>absurd n ht) (fun _=>?_)
   exact (hP _ _ _).2 ⟨hlt,W5,pg.1,done,z1w,ys,rfl,ok5,s2.trans s25.b,by rw [s25.hid];exact hp2,s25.keep _ _ hy2 (z5p ok2 hp2),rd.step ok2 s25,en4.step ok4 s5,by rw [hμ5];exact c5,by rw [hμ5];exact e2,ed⟩
 ·have e':i=its.length:=by omega
  subst e'
  rw [List.drop_eq_nil_of_le (Nat.le_refl _)] at e2
  cases e2
  rw [List.append_nil] at ed
  subst ed
  exact hG (.inl ⟨hstop (Nat.le_refl _),hZ W2 ys rfl ok2 s2 hp2 hy2 rd⟩)
noncomputable def z9z (own:List Str) (cap:List (Str×Nat)) (iv:IV) (g:GV) (tc:BV) (iv2:IV) (g2:GV) (tc2:BV) (te:EV):EV:=fun Γ μ=>(iv Γ μ).bind fun s=>(z4b s.1.2 g tc iv2 g2 tc2 te s.1.1 (z50 own cap Γ) s.2).bind fun q=>if q.1.length≤1000000 then some (.lst q.1,q.2) else none
theorem zhz {W:Wd} {Γ:G} {σ:St} {d:D} {μ':M} (ok:Ok K W) (en:EnvR K W Γ σ) (e:z9z own cap iv g tc iv2 g2 tc2 te Γ W.μ=some (d,μ')) {Z:Addr→Hp→Prop} (q:∀ v W',W'.μ=μ'→Ok K W'→Step W W'→DR K W' d v→∀ p,v=.ref p→Z p W'.H) :
  tDI K iv σ W.H fun J H1=>∀ p,H1 p=none→z3u J (tDG K g) (tDB K tc) (tDI K iv2) (tDG K g2) (tDB K tc2) (tD K te) p (z3t own cap σ) H1 (Z p):=by
 refine bq fun bG=>?_
 obtain ⟨⟨⟨its,c⟩,μ1⟩,e1,e⟩:=bnd e
 refine bG (⟨W,Γ,its,c,μ1,rfl,ok,en,e1,fun J W1 hμ1 ok1 s1 jr p hp=>?_⟩)
 obtain ⟨⟨rs,μ2⟩,e2,e⟩:=bnd e
 split at e
 ·rename_i hl
  cases e
  refine zee ok1 hp jr ((en.step ok s1).cap own cap) hl (by rw [hμ1];exact e2) fun W' ys hμ' ok' s' hp' hy r=>?_
  refine bq fun bG=>?_
  obtain ⟨a1,a2,a3⟩:=z8s s1 hp ok1 ok' s' hp' hy r
  exact bG (q _ (W'.show W1.hid) hμ' a1 a2 a3 p rfl)
 ·cases e
theorem zd8 {i:Nat} {y:Str} {py spos:Pos} (hN:X.N.Nodup) (hi':X.N[i]?=some y) (hy:X.env.scope.names.lookup y=some .local) (S:CompScope X N' own cap scope) (hi:PI X tg iter (tDI K iv))
  (hg:∀ cl C s₀ H₀ ex,PG (z0c X N' scope cl C s₀ H₀ ex) tg (tDG K g)) (ht:∀ cl C s₀ H₀ ex,PIf (z0c X N' scope cl C s₀ H₀ ex) ifs (tDB K tc))
  (hi2:∀ cl C s₀ H₀ ex,PI (z0c X N' scope cl C s₀ H₀ ex) tg2 iter2 (tDI K iv2)) (hg2:∀ cl C s₀ H₀ ex,PG (z0c X N' scope cl C s₀ H₀ ex) tg2 (tDG K g2)) (ht2:∀ cl C s₀ H₀ ex,PIf (z0c X N' scope cl C s₀ H₀ ex) ifs2 (tDB K tc2))
  (he:∀ cl C s₀ H₀ ex,PE (z0c X N' scope cl C s₀ H₀ ex) elt (tD K te))
  (hsw:swapsWith (.ListComp elt [⟨tg,iter,ifs,0⟩,⟨tg2,iter2,ifs2,0⟩] scope pos) (some (.Name y py)) spos.line X.env=pure true:=by rfl)
  (hx:∀ e s,X.xe e s→False:=by exact fun _ _ z=>z) (hc:X.calm=true:=by rfl) (hs:∀ x,foldedSetIterable iter X.env x=pure x:=by intro _;rfl) (hs2:∀ cl C x,foldedSetIterable iter2 (compEnvC scope cl C X.env) x=pure x:=by intro _ _ _;rfl) :
  PS X (.Assign [.Name y py] (.ListComp elt [⟨tg,iter,ifs,0⟩,⟨tg2,iter2,ifs2,0⟩] scope pos) spos) (tDS K (z0z (z9z own cap iv g tc iv2 g2 tc2 te) (z00 i))):=z3h (zdn hN hi' hy S hi hg ht hi2 hg2 ht2 he hsw hx hc hs hs2) fun D σ H h=>by
 refine el5 h fun W Γ o Γ' μ' eH ok en e q=>?_;subst eH
 refine z05 e fun p1 e1 e=>?_
 cases e
 exact zhz (Z:=fun p H2=>D.nx (σ.set i (some (.ref p))) H2) ok en e1 fun v W' h1 h2 h3 h4 p hv=>by subst hv;exact q W' _ h1 h2 h3 ((en.step ok h3).set h4 i)
end
section
variable {n:Nat} {μ:M}
theorem zf0 {xs:List D}:py (n+1) μ (.lst xs)=(z0s (py n μ) xs).bind fun ys=>some (.list ys):=rfl
theorem zth {xs:List D}:py (n+1) μ (.tup xs)=(z0s (py n μ) xs).bind fun ys=>some (.tuple ys):=rfl
theorem bs {α β:Type} {a:α} {f:α→Option β}:(some a).bind f=f a:=rfl
theorem z2u {α β γ:Type} {f:β→Option γ} {g:α→β} {h:α→γ}:∀ {l:List α},(∀ x∈l,f (g x)=some (h x))→z0s f (l.map g)=some (l.map h)
 | [],_=>rfl
 | x::r,e=>by
  have e1:=e x (by simp)
  have e2:=z2u (l:=r) fun y hy=>e y (by simp [hy])
  simp only [List.map_cons,z0s,e1,e2,bs]
end
section
variable {Γ:G} {μ μ1 μ2:M} {ea eb:EV} {x y d:D} {f:D→D→M→Option (D×M)} {f1:D→M→Option (D×M)} {sa sb:SV} {i:Nat}
theorem zvg (h:Γ[i]?=some (some d)):z01 i Γ μ=some (d,μ):=by unfold z01;rw [h]
theorem e_2 (h1:ea Γ μ=some (x,μ1)) (h2:eb Γ μ1=some (y,μ2)):v2 f ea eb Γ μ=f x y μ2:=by unfold v2;rw [h1,bs,h2,bs]
theorem e_1 (h1:ea Γ μ=some (x,μ1)):v1 f1 ea Γ μ=f1 x μ1:=by unfold v1;rw [h1,bs]
end
noncomputable def zk1 (b:SV):Option (Out×G×M)→Option (Out×G×M)
 | some (.nx,Γ,μ)=>b Γ μ
 | x=>x
@[simp] theorem z1j {b:SV} {Γ:G} {μ:M}:zk1 b (some (.nx,Γ,μ))=b Γ μ:=rfl
@[simp] theorem kSeq_rt {b:SV} {d:D} {Γ:G} {μ:M}:zk1 b (some (.rt d,Γ,μ))=some (.rt d,Γ,μ):=rfl
@[simp] theorem kSeq_bk {b:SV} {Γ:G} {μ:M}:zk1 b (some (.bk,Γ,μ))=some (.bk,Γ,μ):=rfl
@[simp] theorem kSeq_ct {b:SV} {Γ:G} {μ:M}:zk1 b (some (.ct,Γ,μ))=some (.ct,Γ,μ):=rfl
@[simp] theorem z0t {a b:SV} {Γ:G} {μ:M}:z0u a b Γ μ=zk1 b (a Γ μ):=by
 unfold z0u zk1
 cases h:a Γ μ with
 | none=>rfl
 | some o=>obtain ⟨o1,Γ1,μ1⟩:=o;cases o1 <;> rfl
section
variable {Γ:G} {μ μ1:M} {ea eb ec:EV} {ba bb:BV} {el:LV} {sa sb:SV} {i j:Nat} {d x y:D} {ds:List D} {b:Bool}
@[simp] theorem vVar_eq:z01 i Γ μ=match Γ[i]? with
 | some (some d)=>some (d,μ)
 | _=>none:=rfl
@[simp] theorem vC_eq:vC d Γ μ=some (d,μ):=rfl
noncomputable def kV1 (f:D→M→Option (D×M)):Option (D×M)→Option (D×M)
 | some (x,μ)=>f x μ
 | none=>none
@[simp] theorem kV1_s {f:D→M→Option (D×M)}:kV1 f (some (x,μ))=f x μ:=rfl
@[simp] theorem v1_eq {f:D→M→Option (D×M)}:v1 f ea Γ μ=kV1 f (ea Γ μ):=by
 unfold v1 kV1;cases ea Γ μ <;> rfl
noncomputable def zr7 (f:D→D→M→Option (D×M)) (x:D):Option (D×M)→Option (D×M)
 | some (y,μ)=>f x y μ
 | none=>none
@[simp] theorem kV2b_s {f:D→D→M→Option (D×M)}:zr7 f x (some (y,μ))=f x y μ:=rfl
noncomputable def kV2 (f:D→D→M→Option (D×M)) (eb:EV) (Γ:G):Option (D×M)→Option (D×M)
 | some (x,μ)=>zr7 f x (eb Γ μ)
 | none=>none
@[simp] theorem kV2_s {f:D→D→M→Option (D×M)}:kV2 f eb Γ (some (x,μ))=zr7 f x (eb Γ μ):=rfl
@[simp] theorem v2_eq {f:D→D→M→Option (D×M)}:v2 f ea eb Γ μ=kV2 f eb Γ (ea Γ μ):=by
 unfold v2 kV2
 cases ea Γ μ with
 | none=>rfl
 | some p=>show (eb Γ p.2).bind _=zr7 f p.1 (eb Γ p.2);cases eb Γ p.2 <;> rfl
noncomputable def kT:Option (D×M)→Option (Bool×M)
 | some (.bl b,μ)=>some (b,μ)
 | _=>none
@[simp] theorem kT_s:kT (some (.bl b,μ))=some (b,μ):=rfl
@[simp] theorem zbn:vT ea Γ μ=kT (ea Γ μ):=by
 unfold vT kT
 cases ea Γ μ with
 | none=>rfl
 | some p=>obtain ⟨p1,p2⟩:=p;cases p1 <;> rfl
noncomputable def zwz (bb:BV) (Γ:G):Option (Bool×M)→Option (Bool×M)
 | some (c,μ)=>if c=true then bb Γ μ else some (false,μ)
 | none=>none
@[simp] theorem kAnd_s {c:Bool}:zwz bb Γ (some (c,μ))=if c=true then bb Γ μ else some (false,μ):=rfl
@[simp] theorem bAnd_eq:zrt ba bb Γ μ=zwz bb Γ (ba Γ μ):=by unfold zrt zwz;cases ba Γ μ <;> rfl
noncomputable def kOr (bb:BV) (Γ:G):Option (Bool×M)→Option (Bool×M)
 | some (c,μ)=>if c=true then some (true,μ) else bb Γ μ
 | none=>none
@[simp] theorem kOr_s {c:Bool}:kOr bb Γ (some (c,μ))=if c=true then some (true,μ) else bb Γ μ:=rfl
@[simp] theorem bOr_eq:bOr ba bb Γ μ=kOr bb Γ (ba Γ μ):=by unfold bOr kOr;cases ba Γ μ <;> rfl
noncomputable def zwx:Option (Bool×M)→Option (Bool×M)
 | some (c,μ)=>some (!c,μ)
 | none=>none
@[simp] theorem kNot_s {c:Bool}:zwx (some (c,μ))=some (!c,μ):=rfl
@[simp] theorem bNot_eq:zbg ba Γ μ=zwx (ba Γ μ):=by unfold zbg zwx;cases ba Γ μ <;> rfl
noncomputable def kIf (ea eb:EV) (Γ:G):Option (Bool×M)→Option (D×M)
 | some (c,μ)=>if c=true then ea Γ μ else eb Γ μ
 | none=>none
@[simp] theorem kIf_s {c:Bool}:kIf ea eb Γ (some (c,μ))=if c=true then ea Γ μ else eb Γ μ:=rfl
@[simp] theorem zog:vIf ba ea eb Γ μ=kIf ea eb Γ (ba Γ μ):=by unfold vIf kIf;cases ba Γ μ <;> rfl
noncomputable def zww (sa sb:SV) (Γ:G):Option (Bool×M)→Option (Out×G×M)
 | some (c,μ)=>if c=true then sa Γ μ else sb Γ μ
 | none=>none
@[simp] theorem kSIf_s {c:Bool}:zww sa sb Γ (some (c,μ))=if c=true then sa Γ μ else sb Γ μ:=rfl
@[simp] theorem z37:sIf ba sa sb Γ μ=zww sa sb Γ (ba Γ μ):=by unfold sIf zww;cases ba Γ μ <;> rfl
noncomputable def zr6 (eb:EV) (Γ:G):Option (D×M)→Option (D×M)
 | some (.bl c,μ)=>if c=true then eb Γ μ else some (.bl false,μ)
 | _=>none
@[simp] theorem kVAnd_s {c:Bool}:zr6 eb Γ (some (.bl c,μ))=if c=true then eb Γ μ else some (.bl false,μ):=rfl
@[simp] theorem vAnd_eq:zoh ea eb Γ μ=zr6 eb Γ (ea Γ μ):=by
 unfold zoh zr6
 cases ea Γ μ with
 | none=>rfl
 | some p =>
  obtain ⟨p1,p2⟩:=p
  cases p1 with
  | bl c=>cases c <;> rfl
  | _=>rfl
noncomputable def zvv (eb:EV) (Γ:G):Option (D×M)→Option (D×M)
 | some (.bl c,μ)=>if c=true then some (.bl true,μ) else eb Γ μ
 | _=>none
@[simp] theorem kVOr_s {c:Bool}:zvv eb Γ (some (.bl c,μ))=if c=true then some (.bl true,μ) else eb Γ μ:=rfl
@[simp] theorem zsn:vOr ea eb Γ μ=zvv eb Γ (ea Γ μ):=by
 unfold vOr zvv
 cases ea Γ μ with
 | none=>rfl
 | some p =>
  obtain ⟨p1,p2⟩:=p
  cases p1 with
  | bl c=>cases c <;> rfl
  | _=>rfl
@[simp] theorem lNil_eq:z0e Γ μ=some ([],μ):=rfl
noncomputable def zvy (x:D):Option (List D×M)→Option (List D×M)
 | some (r,μ)=>some (x::r,μ)
 | none=>none
@[simp] theorem kLc2_s {r:List D}:zvy x (some (r,μ))=some (x::r,μ):=rfl
noncomputable def kLc (el:LV) (Γ:G):Option (D×M)→Option (List D×M)
 | some (x,μ)=>zvy x (el Γ μ)
 | none=>none
@[simp] theorem kLc_s:kLc el Γ (some (x,μ))=zvy x (el Γ μ):=rfl
@[simp] theorem zng:z04 ea el Γ μ=kLc el Γ (ea Γ μ):=by
 unfold z04 kLc
 cases ea Γ μ with
 | none=>rfl
 | some p=>show (el Γ p.2).bind _=zvy p.1 (el Γ p.2);cases el Γ p.2 <;> rfl
noncomputable def kL (f:List D→M→Option (D×M)):Option (List D×M)→Option (D×M)
 | some (r,μ)=>f r μ
 | none=>none
@[simp] theorem kL_s {f:List D→M→Option (D×M)} {r:List D}:kL f (some (r,μ))=f r μ:=rfl
@[simp] theorem zw7 {f:List D→M→Option (D×M)}:vL f el Γ μ=kL f (el Γ μ):=by unfold vL kL;cases el Γ μ <;> rfl
@[simp] theorem sNx_eq:sNx Γ μ=some (.nx,Γ,μ):=rfl
noncomputable def kEx (Γ:G):Option (D×M)→Option (Out×G×M)
 | some (_,μ)=>some (.nx,Γ,μ)
 | none=>none
@[simp] theorem kEx_s:kEx Γ (some (x,μ))=some (.nx,Γ,μ):=rfl
@[simp] theorem z38:z2j ea Γ μ=kEx Γ (ea Γ μ):=by unfold z2j kEx;cases ea Γ μ <;> rfl
noncomputable def kRt (Γ:G):Option (D×M)→Option (Out×G×M)
 | some (x,μ)=>some (.rt x,Γ,μ)
 | none=>none
@[simp] theorem kRt_s:kRt Γ (some (x,μ))=some (.rt x,Γ,μ):=rfl
@[simp] theorem z6l:z2p ea Γ μ=kRt Γ (ea Γ μ):=by unfold z2p kRt;cases ea Γ μ <;> rfl
noncomputable def kG:Option (G×M)→Option (Out×G×M)
 | some (Γ,μ)=>some (.nx,Γ,μ)
 | none=>none
@[simp] theorem kG_s:kG (some (Γ,μ))=some (.nx,Γ,μ):=rfl
noncomputable def kAs (g:GV) (Γ:G):Option (D×M)→Option (Out×G×M)
 | some (x,μ)=>kG (g x Γ μ)
 | none=>none
@[simp] theorem kAs_s {g:GV}:kAs g Γ (some (x,μ))=kG (g x Γ μ):=rfl
@[simp] theorem z6m {g:GV}:z0z ea g Γ μ=kAs g Γ (ea Γ μ):=by
 unfold z0z kAs
 cases ea Γ μ with
 | none=>rfl
 | some p=>show (g p.1 Γ p.2).bind _=kG (g p.1 Γ p.2);cases g p.1 Γ p.2 <;> rfl
@[simp] theorem gvName_eq:z00 i d Γ μ=some (Γ.set i (some d),μ):=rfl
@[simp] theorem gvNil_eq:z23 [] Γ μ=some (Γ,μ):=rfl
noncomputable def kGs (gs:GsV) (ds:List D):Option (G×M)→Option (G×M)
 | some (Γ,μ)=>gs ds Γ μ
 | none=>none
@[simp] theorem kGs_s {gs:GsV}:kGs gs ds (some (Γ,μ))=gs ds Γ μ:=rfl
@[simp] theorem gvCons_eq {g:GV} {gs:GsV}:z0a g gs (d::ds) Γ μ=kGs gs ds (g d Γ μ):=by
 show (g d Γ μ).bind _=_
 unfold kGs;cases g d Γ μ <;> rfl
@[simp] theorem gvTup_eq {n:Nat} {gs:GsV}:z21 n gs (.tup ds) Γ μ=if ds.length=n then gs ds Γ μ else none:=rfl
noncomputable def kOn (μ:M) (k:Nat):Option (D×List D)→Option (D×M)
 | some (d,l)=>some (d,μ.set k (some (.lst l)))
 | none=>none
@[simp] theorem zr8 {l:List D}:kOn μ i (some (d,l))=some (d,μ.set i (some (.lst l))):=rfl
noncomputable def zuu (Γ:G):Option (D×M)→Option (G×M)
 | some (_,μ)=>some (Γ,μ)
 | none=>none
@[simp] theorem kSb3_s:zuu Γ (some (x,μ))=some (Γ,μ):=rfl
noncomputable def sbF (d:D) (j:Int) (ds:List D):Option (D×List D):=(ixN ds.length j).bind fun jj=>some (.non,ds.set jj d)
theorem zig {j:Int} {jj:Nat} (h:ixN ds.length j=some jj):sbF d j ds=some (.non,ds.set jj d):=by unfold sbF;rw [h];rfl
@[simp] theorem sbF_0:sbF d 0 (x::ds)=some (.non,d::ds):=by
 refine zig (jj:=0) ?_
 unfold ixN;rw [if_pos (by omega),if_pos (by simp only [List.length_cons];omega)];rfl
@[simp] theorem sbF_1:sbF d 1 (x::y::ds)=some (.non,x::d::ds):=by
 refine zig (jj:=1) ?_
 unfold ixN;rw [if_pos (by omega),if_pos (by simp only [List.length_cons];omega)];rfl
@[simp] theorem sbF_2 {z:D}:sbF d 2 (x::y::z::ds)=some (.non,x::y::d::ds):=by
 refine zig (jj:=2) ?_
 unfold ixN;rw [if_pos (by omega),if_pos (by simp only [List.length_cons];omega)];rfl
noncomputable def zvw (d:D) (Γ:G) (o:D):Option (D×M)→Option (G×M)
 | some (.int j,μ)=>zuu Γ (onL o μ (sbF d j))
 | _=>none
@[simp] theorem kSb2_s {j:Int}:zvw d Γ x (some (.int j,μ))=zuu Γ (onL x μ (sbF d j)):=rfl
noncomputable def kSb (d:D) (ei:EV) (Γ:G):Option (D×M)→Option (G×M)
 | some (o,μ)=>zvw d Γ o (ei Γ μ)
 | none=>none
@[simp] theorem kSb_s {ei:EV}:kSb d ei Γ (some (x,μ))=zvw d Γ x (ei Γ μ):=rfl
@[simp] theorem gvSub_eq {eo ei:EV}:zkb eo ei d Γ μ=kSb d ei Γ (eo Γ μ):=by
 unfold zkb kSb
 cases eo Γ μ with
 | none=>rfl
 | some p =>
  show (ei Γ p.2).bind _=zvw d Γ p.1 (ei Γ p.2)
  cases ei Γ p.2 with
  | none=>rfl
  | some q =>
   obtain ⟨q1,q2⟩:=q
   cases q1 with
   | int j =>
    show (onL p.1 q2 _).bind _=zuu Γ (onL p.1 q2 (sbF d j))
    have e:(fun ds=>(ixN ds.length j).bind fun jj=>some (D.non,ds.set jj d))=sbF d j:=rfl
    rw [e]
    unfold zuu;cases onL p.1 q2 (sbF d j) <;> rfl
   | _=>rfl
@[simp] theorem oNone_eq:z68 Γ μ=some (none,μ):=rfl
noncomputable def kTr (μ:M):Option Bool→Option (Bool×M)
 | some b=>some (b,μ)
 | none=>none
@[simp] theorem kTr_s:kTr μ (some b)=some (b,μ):=rfl
noncomputable def zut:Option (D×M)→Option (Bool×M)
 | some (x,μ)=>kTr μ (tru μ x)
 | none=>none
@[simp] theorem kTru_s:zut (some (x,μ))=kTr μ (tru μ x):=rfl
@[simp] theorem zl8:z5k ea Γ μ=zut (ea Γ μ):=by
 unfold z5k zut
 cases ea Γ μ with
 | none=>rfl
 | some p=>show (tru p.2 p.1).bind _=kTr p.2 (tru p.2 p.1);cases tru p.2 p.1 <;> rfl
noncomputable def zwy (g:GV) (body:SV) (Γ:G):Option ((List D×Ck)×M)→Option (Out×G×M)
 | some ((its,c),μ)=>z4d c g body its Γ μ
 | none=>none
@[simp] theorem z4n {g:GV} {c:Ck}:zwy g sa Γ (some ((ds,c),μ))=z4d c g sa ds Γ μ:=rfl
@[simp] theorem z2y {iv:IV} {g:GV}:z8y iv g sa Γ μ=zwy g sa Γ (iv Γ μ):=by unfold z8y zwy;cases iv Γ μ <;> rfl
noncomputable def kI2 (μ:M):Option (List D×Ck)→Option ((List D×Ck)×M)
 | some s=>some (s,μ)
 | none=>none
@[simp] theorem kI2_s {s:List D×Ck}:kI2 μ (some s)=some (s,μ):=rfl
noncomputable def kI:Option (D×M)→Option ((List D×Ck)×M)
 | some (x,μ)=>kI2 μ (lsC μ x)
 | none=>none
@[simp] theorem kI_s:kI (some (x,μ))=kI2 μ (lsC μ x):=rfl
@[simp] theorem ivL_eq:ivL ea Γ μ=kI (ea Γ μ):=by
 unfold ivL kI
 cases ea Γ μ with
 | none=>rfl
 | some p=>show (lsC p.2 p.1).bind _=kI2 p.2 (lsC p.2 p.1);cases lsC p.2 p.1 <;> rfl
noncomputable def kIR:Option (D×M)→Option ((List D×Ck)×M)
 | some (.int j,μ)=>if -1000000000≤j∧j≤1000000000 then some ((z2z 0 j.toNat,none),μ) else none
 | _=>none
@[simp] theorem zuv {j:Int}:kIR (some (.int j,μ))=if -1000000000≤j∧j≤1000000000 then some ((z2z 0 j.toNat,none),μ) else none:=rfl
@[simp] theorem zp9:ivR ea Γ μ=kIR (ea Γ μ):=by
 unfold ivR kIR
 cases ea Γ μ with
 | none=>rfl
 | some p=>obtain ⟨p1,p2⟩:=p;cases p1 <;> rfl
@[simp] theorem bYes_eq:z2c Γ μ=some (true,μ):=rfl
noncomputable def zvz (g:D→D→M→Option (D×M)) (ec:EV) (Γ:G) (y:D):Option (D×M)→Option (D×M)
 | some (.bl c,μ)=>if c=true then zr7 g y (ec Γ μ) else some (.bl false,μ)
 | _=>none
@[simp] theorem kCh3_s {g:D→D→M→Option (D×M)} {c:Bool}:zvz g ec Γ y (some (.bl c,μ))=if c=true then zr7 g y (ec Γ μ) else some (.bl false,μ):=rfl
noncomputable def zw0 (f g:D→D→M→Option (D×M)) (ec:EV) (Γ:G) (x:D):Option (D×M)→Option (D×M)
 | some (y,μ)=>zvz g ec Γ y (f x y μ)
 | none=>none
@[simp] theorem kCh2_s {f g:D→D→M→Option (D×M)}:zw0 f g ec Γ x (some (y,μ))=zvz g ec Γ y (f x y μ):=rfl
noncomputable def kCh (f g:D→D→M→Option (D×M)) (eb ec:EV) (Γ:G):Option (D×M)→Option (D×M)
 | some (x,μ)=>zw0 f g ec Γ x (eb Γ μ)
 | none=>none
@[simp] theorem kCh_s {f g:D→D→M→Option (D×M)}:kCh f g eb ec Γ (some (x,μ))=zw0 f g ec Γ x (eb Γ μ):=rfl
@[simp] theorem vChain_eq {f g:D→D→M→Option (D×M)}:z57 f g ea eb ec Γ μ=kCh f g eb ec Γ (ea Γ μ):=by
 unfold z57 kCh
 cases ea Γ μ with
 | none=>rfl
 | some p =>
  show (eb Γ p.2).bind _=zw0 f g ec Γ p.1 (eb Γ p.2)
  cases eb Γ p.2 with
  | none=>rfl
  | some q =>
   show (f p.1 q.1 q.2).bind _=zvz g ec Γ q.1 (f p.1 q.1 q.2)
   cases f p.1 q.1 q.2 with
   | none=>rfl
   | some t =>
    obtain ⟨t1,t2⟩:=t
    cases t1 with
    | bl c =>
     cases c with
     | true=>show (ec Γ t2).bind _=zr7 g q.1 (ec Γ t2);cases ec Γ t2 <;> rfl
     | false=>rfl
    | _=>rfl
noncomputable def kD (μ:M):Option D→Option (D×M)
 | some d=>some (d,μ)
 | none=>none
@[simp] theorem kD_s:kD μ (some d)=some (d,μ):=rfl
@[simp] theorem fI0_eq {g:Int→Int→D} {i j:Int}:fI0 g (.int i) (.int j) μ=some (g i j,μ):=rfl
@[simp] theorem fI_eq {C:Int→Int→Prop} [∀ i j,Decidable (C i j)] {g:Int→Int→D} {i j:Int}:fI C g (.int i) (.int j) μ=if C i j then some (g i j,μ) else none:=rfl
@[simp] theorem fNeg_eq {i:Int}:zns (.int i) μ=some (.int (-i),μ):=rfl
@[simp] theorem fNot_eq {b:Bool}:zs6 (.bl b) μ=some (.bl (!b),μ):=rfl
@[simp] theorem fPlus_int {i j:Int}:z0w (.int i) (.int j) μ=some (.int (i+j),μ):=rfl
@[simp] theorem fTimes_int {i j:Int}:z1n (.int i) (.int j) μ=if CMul i j then some (.int (i*j),μ) else none:=rfl
@[simp] theorem znt {b:Bool}:zgx (.bl b) μ=some (.int (if b then 1 else 0),μ):=rfl
@[simp] theorem zba {i j:Int}:eqD (.int i) (.int j) μ=some (decide (i=j)):=rfl
@[simp] theorem eqD_str {a b:Str}:eqD (.str a) (.str b) μ=if PyData.strOk a&&PyData.strOk b then some (decide (a=b)) else none:=rfl
@[simp] theorem lsOf_lst:z3s μ (.lst ds)=some ds:=rfl
@[simp] theorem lsOf_scr:z3s μ (.scr ds)=some ds:=rfl
@[simp] theorem lsOf_tup:z3s μ (.tup ds)=none:=rfl
@[simp] theorem tpOf_tup:zol (.tup ds)=some ds:=rfl
@[simp] theorem wlOf_lst:zhq μ (.lst ds)=some ds:=rfl
@[simp] theorem lsC_lst:lsC μ (.lst ds)=some (ds,none):=rfl
@[simp] theorem lsC_scr:lsC μ (.scr ds)=some (ds,none):=rfl
@[simp] theorem fLst_eq:z2m ds μ=if ds.length≤1000 then some (.lst ds,μ) else none:=rfl
@[simp] theorem fTup_eq:zac ds μ=if ds.length≤1000 then some (.tup ds,μ) else none:=rfl
@[simp] theorem fNew_eq:z8j ds μ=if ds.length≤1000 then some (.ref μ.length,μ++[some (.lst ds)]) else none:=rfl
@[simp] theorem zb7 {i:Int}:fIx (.lst ds) (.int i) μ=kD μ (atI ds i):=by
 show (atI ds i).bind _=_
 unfold kD;cases atI ds i <;> rfl
@[simp] theorem zrh {i:Int}:fIx (.scr ds) (.int i) μ=kD μ (atI ds i):=by
 show (atI ds i).bind _=_
 unfold kD;cases atI ds i <;> rfl
@[simp] theorem fIx_tup {i:Int}:fIx (.tup ds) (.int i) μ=kD μ (atI ds i):=by
 show (atI ds i).bind _=_
 unfold kD;cases atI ds i <;> rfl
@[simp] theorem z3e:z2b (.lst ds) μ=some (.int ds.length,μ):=rfl
@[simp] theorem fLen_tup:z2b (.tup ds) μ=some (.int ds.length,μ):=rfl
@[simp] theorem fCat_lst {es:List D}:z0w (.lst ds) (.lst es) μ=if ds.length+es.length≤1000000 then some (.lst (ds++es),μ) else none:=rfl
@[simp] theorem fSl_lst {lo hi:Option Int}:fSl (.lst ds) lo hi μ=some (.lst (znz ds lo hi),μ):=rfl
@[simp] theorem fSl_tup {lo hi:Option Int}:fSl (.tup ds) lo hi μ=if HT.sIx ds.length 0 lo=0∧HT.sIx ds.length ds.length hi=ds.length then none else some (.tup (znz ds lo hi),μ):=rfl
@[simp] theorem zes {b:Bool}:tru μ (.bl b)=some b:=rfl
@[simp] theorem tru_lst:tru μ (.lst ds)=some (!ds.isEmpty):=rfl
@[simp] theorem fRev_lst:zs5 (.lst ds) μ=some (.lst ds.reverse,μ):=rfl
theorem z6e {α:Type} {xs:List α} {j:Nat} {v:α} (h:xs[j]?=some v):atI xs (j:Int)=some v:=by
 have hlt:=(List.getElem?_eq_some_iff.mp h).1
 unfold atI ixN
 rw [if_pos (by omega),if_pos (by omega)]
 simpa using h
@[simp] theorem atI_0 {α:Type} {a:α} {l:List α}:atI (a::l) 0=some a:=z6e (j:=0) rfl
@[simp] theorem atI_1 {α:Type} {a b:α} {l:List α}:atI (a::b::l) 1=some b:=z6e (j:=1) rfl
@[simp] theorem atI_2 {α:Type} {a b c:α} {l:List α}:atI (a::b::c::l) 2=some c:=z6e (j:=2) rfl
@[simp] theorem atI_3 {α:Type} {a b c d:α} {l:List α}:atI (a::b::c::d::l) 3=some d:=z6e (j:=3) rfl
end
noncomputable def inI:D→Option Int
 | .int i=>some i
 | _=>none
noncomputable def inB:D→Option Bool
 | .bl b=>some b
 | _=>none
section
variable {K:PySem.W.Frag} {W:Wd}
theorem zb0:∀ {ds:List D} {vs:List V} {ns:List Int},z0s inI ds=some ns→DRs K W ds vs→vs=ns.map V.int
 | _,_,_,h,.nil=>by cases h;rfl
 | d::_,_,_,h,.cons r t=>by
  refine z05 h fun u h1 h=>?_
  refine z05 h fun us h2 h=>?_
  cases h
  cases d <;> cases h1
  cases r
  rw [zb0 h2 t];rfl
theorem zfu:∀ {ds:List D} {vs:List V} {ns:List Bool},z0s inB ds=some ns→DRs K W ds vs→vs=ns.map V.bl
 | _,_,_,h,.nil=>by cases h;rfl
 | d::_,_,_,h,.cons r t=>by
  refine z05 h fun u h1 h=>?_
  refine z05 h fun us h2 h=>?_
  cases h
  cases d <;> cases h1
  cases r
  rw [zfu h2 t];rfl
theorem all_ints (ns:List Int):z0s inI (ns.map D.int)=some ns:=by
 have:=z2u (f:=inI) (g:=D.int) (h:=id) (l:=ns) fun x _=>rfl
 simpa using this
theorem zd1 (ns:List Bool):z0s inB (ns.map D.bl)=some ns:=by
 have:=z2u (f:=inB) (g:=D.bl) (h:=id) (l:=ns) fun x _=>rfl
 simpa using this
end
noncomputable def mx:Int→List Int→Int
 | a,[]=>a
 | a,b::r=>mx (if b > a then b else a) r
theorem zug:∀ (r l:List Int) (a:Int),IsMax a l→IsMax (mx a r) (l++r)
 | [],l,a,h=>by simpa [mx] using h
 | b::r,l,a,h=>by
  have:=zug r (l++[b]) (if b > a then b else a) h.step
  simpa [mx] using this
theorem zgq {a b:Int} {l:List Int} (h:IsMax a l) (g:IsMax b l):a=b:=by
 have h1:=h.2 b g.1
 have h2:=g.2 a h.1
 omega
noncomputable def mxL:List Int→Option Int
 | []=>none
 | a::r=>some (mx a r)
theorem zp6 {l:List Int} {m:Int} (h:mxL l=some m):IsMax m l:=by
 cases l with
 | nil=>cases h
 | cons a r =>
  cases h
  exact zug r [a] a ⟨by simp,by simp⟩
section
variable {X:Cx} {K:PySem.W.Frag} {a b:Expr} {ea eb:EV} {pos p kp:Pos}
noncomputable def zgw (x y:D) (μ:M):Option (D×M):=match y with
 | .int j=>(z3s μ x).bind fun ds=>(z0s inI ds).bind fun ns=>some (.int ((mxL ns).getD j),μ)
 | _=>none
theorem zsh (mm:X.mg "max" = none) (ha:PE X a (tD K ea)) (hb:PE X b (tD K eb)) (hc:X.calm=true:=by rfl) (hg:Gl X "max" := by rfl) (hs:starEach [a] X.env=[(false,eval a X.env)]:=by rfl) (hK:X.K=K:=by rfl)
  (hall:(backToKw pos (keywordEach [⟨some "default",b,kp⟩] X.env)).all (·.1.isSome)=true:=by rfl) (hks:(backToKw pos (keywordEach [⟨some "default",b,kp⟩] X.env)).filterMap (·.1)=([Str.ofString "default"]:List Str):=by rfl)
  (hno:(backToKw pos (keywordEach [⟨some "default",b,kp⟩] X.env)).any (·.1.isNone)=false:=by rfl):PE X (.Call (.Name "max" p) [a] [⟨some "default",b,kp⟩] pos) (tD K (v2 zgw ea eb)):=z0n (zrm K mm ha hb hc hg hs hK hall hks hno) (z7t (by
 intro W x y d e z μ' Q ok r1 r2 hf q
 unfold zgw at hf
 split at hf
 ·cases r2
  refine z05 hf fun ds h1 hf=>?_
  refine z05 hf fun ns h2 hf=>?_
  cases hf
  obtain ⟨a,vs,rfl,hs,hv⟩:=z31 ok h1 r1
  have:=zb0 h2 hv
  subst this
  refine ⟨a,ns,_,rfl,rfl,hs,fun z=>?_,fun M hM=>?_⟩
  ·subst z;exact q _ W rfl ok .refl (.int _)
  ·cases hn:mxL ns with
   | none =>
    cases ns with
    | nil=>exact absurd hM.1 (by simp)
    | cons _ _=>cases hn
   | some m =>
    rw [zgq hM (zp6 hn)]
    have:=q (.int m) W rfl ok .refl (by rw [hn];exact .int _)
    exact this
 ·cases hf))
noncomputable def zri (x:D) (μ:M):Option (D×M):=(z3s μ x).bind fun ds=>(z0s inB ds).bind fun bs=>some (.bl (bs.all id),μ)
theorem zsk (mm:X.mg "all" = none) (ha:PE X a (tD K ea)) (hc:X.calm=true:=by rfl) (hg:Gl X "all" := by rfl) (hs:starEach [a] X.env=[(false,eval a X.env)]:=by rfl) (hK:X.K=K:=by rfl):PE X (.Call (.Name "all" p) [a] [] pos) (tD K (v1 zri ea)):=z0n (zyy K mm ha hc hg hs hK) (z4i (by
 intro W x d z μ' Q ok r1 hf q
 refine z05 hf fun ds h1 hf=>?_
 refine z05 hf fun ns h2 hf=>?_
 cases hf
 obtain ⟨a,vs,rfl,hs,hv⟩:=z31 ok h1 r1
 have:=zfu h2 hv
 subst this
 exact ⟨a,ns,rfl,hs,q _ W rfl ok .refl (.bl _)⟩))
end
theorem z3g {α:Type} {μ:M} {x:Option α}:chk (z2k none μ) x=x:=z1p trivial
section
variable {μ:M} {k:Nat} {ds:List D}
noncomputable def z9v:Option (Out×G×M)→Option (D×M)
 | some (.rt d,_,μ)=>some (d,μ)
 | some (.nx,_,μ)=>some (.non,μ)
 | _=>none
@[simp] theorem kRun_rt {d:D} {Γ:G}:z9v (some (.rt d,Γ,μ))=some (d,μ):=rfl
@[simp] theorem kRun_nx {Γ:G}:z9v (some (.nx,Γ,μ))=some (.non,μ):=rfl
@[simp] theorem z1x {n m:Nat} {es:SV}:z66 n m es ds μ=if ds.length=m then z9v (es (ds.map some++List.replicate (n - ds.length) none) μ) else none:=by
 unfold z66
 split
 ·unfold z9v
  cases es (ds.map some++List.replicate (n - ds.length) none) μ with
  | none=>rfl
  | some o=>obtain ⟨o1,o2,o3⟩:=o;cases o1 <;> rfl
 ·rfl
theorem z25 {x y:Option O} (h:μ[k]?=some x):(μ.set k y)[k]?=some y:=by
 have hlt:=(List.getElem?_eq_some_iff.mp h).1
 simp [hlt]
theorem z0v {j:Nat} {y:Option O} (h:j≠k):(μ.set k y)[j]?=μ[j]?:=List.getElem?_set_ne (Ne.symm h)
theorem z20 (h:μ[k]?=some (some (.lst ds))):z3s μ (.ref k)=some ds:=by simp only [z3s,h]
theorem z8k {i:Int} (h:μ[k]?=some (some (.lst ds))):fIx (.ref k) (.int i) μ=kD μ (atI ds i):=by
 simp only [fIx,z20 h]
 unfold kD;cases atI ds i <;> rfl
theorem z4w (h:μ[k]?=some (some (.lst ds))):z2b (.ref k) μ=some (.int ds.length,μ):=by simp only [z2b,z20 h]
theorem z4k {g:List D→Option (D×List D)} (h:μ[k]?=some (some (.lst ds))):onL (.ref k) μ g=kOn μ k (g ds):=by
 simp only [onL,h]
 unfold kOn;cases g ds <;> rfl
theorem z5t (h:μ[k]?=some (some (.lst ds))):lsC μ (.ref k)=some (ds,some (k,ds)):=by simp only [lsC,h]
@[simp] theorem ixN_0 {n:Nat}:ixN (n+1) 0=some 0:=by unfold ixN;rw [if_pos (by omega),if_pos (by omega)];rfl
@[simp] theorem ixN_1 {n:Nat}:ixN (n+2) 1=some 1:=by unfold ixN;rw [if_pos (by omega),if_pos (by omega)];rfl
@[simp] theorem ixN_2 {n:Nat}:ixN (n+3) 2=some 2:=by unfold ixN;rw [if_pos (by omega),if_pos (by omega)];rfl
end
section
variable {P:Program} {w:World} {K:PySem.W.Frag} {mg:Str→Option Value} {base:Heap} {f:Addr} {fd:FuncData} {k:Nat}
theorem zkg {ps:List Str}:FnOk P w K mg base CX0 k f fd ps (spM K fun _ _=>none) :=
 ⟨(fun vs H Q E h=>by obtain ⟨_,_,_,_,_,_,_,z,_⟩:=h;cases z),(fun A outer s H args us vs Q E _ _ _ _ h=>by obtain ⟨_,_,_,_,_,_,_,z,_⟩:=h;cases z)⟩
noncomputable def zmd (K:PySem.W.Frag):Sp:=fun vs H Q _=>∃ (a:Addr) (ns:List Int),vs=[.ref a]∧zw1 H∧SqL K H a (ns.map V.int)∧ns.length≤63∧∀ H',Q (.bl true) H'
noncomputable def W0 (H:Hp):Wd:=⟨[],[],H,fun _=>False⟩
theorem zwu {H:Hp}:Ok K (W0 H) where
 len:=rfl
 nd:=by simp [W0]
 rs a h:=by simp [W0] at h
 at_ k o h:=by simp [W0] at h
 hd0 a h:=h.elim
theorem zbb {W:Wd}:∀ ns:List Int,DRs K W (ns.map D.int) (ns.map V.int)
 | []=>.nil
 | n::r=>.cons (.int n) (zbb r)
theorem zul {g:List D→M→Option (D×M)} (F:FnOk P w K mg base CX0 k f fd ["script"] (spM K g)) (h:∀ ns:List Int,ns.length≤63→∃ μ',g [.scr (ns.map D.int)] []=some (.bl true,μ')):FnOk P w K mg base CX0 k f fd ["script"] (zmd K):=F.imp fun vs H Q E hh=>by
 obtain ⟨a,ns,rfl,hO,hS,hl,q⟩:=hh
 obtain ⟨μ',e⟩:=h ns hl
 have hF:SqF K H a (ns.map V.int):=by
  rcases hS with (hS | hS) | hS
  ·rcases hO a with z | ⟨o,xs,z⟩
   ·rw [z] at hS;cases hS
   ·rw [z] at hS;cases hS
  ·exact .inl hS
  ·exact .inr hS
 exact ⟨W0 H,[.scr (ns.map D.int)],.bl true,μ',rfl,zwu,.cons (.scr hF (zbb ns)) .nil,e,fun v W' _ _ _ r=>by cases r;exact q _⟩
end
theorem z8h {c:Ck} {g:GV} {body:SV} (Pv:Nat→G→M→Prop):∀ (its:List D) (i:Nat) (Γ:G) (μ:M),Pv i Γ μ →
  (∀ j d Γ μ,its[j]?=some d→Pv (i+j) Γ μ→∃ Γ1 μ1 Γ2 μ2,g d Γ μ=some (Γ1,μ1)∧body Γ1 μ1=some (.nx,Γ2,μ2)∧z2k c μ2∧Pv (i+j+1) Γ2 μ2)→∃ Γ' μ',z4d c g body its Γ μ=some (.nx,Γ',μ')∧Pv (i+its.length) Γ' μ'
 | [],i,Γ,μ,h,_=>⟨Γ,μ,rfl,h⟩
 | d::r,i,Γ,μ,h,hs=>by
  obtain ⟨Γ1,μ1,Γ2,μ2,h1,h2,h3,h4⟩:=hs 0 d Γ μ rfl h
  obtain ⟨Γ',μ',h5,h6⟩:=z8h Pv r (i+1) Γ2 μ2 h4 fun j d Γ μ hj hp=>by
   have:=hs (j+1) d Γ μ (by simpa using hj) (by rw [show i+(j+1)=i+1+j by omega];exact hp)
   rw [show i+(j+1)+1=i+1+j+1 by omega] at this
   exact this
  refine ⟨Γ',μ',?_,by rw [List.length_cons,show i+(r.length+1)=i+1+r.length by omega];exact h6⟩
  simp only [z4d,h1,bs,h2]
  rw [z1p h3,h5]
theorem zms {lo:Int} {n j:Nat} {d:D} (h:(z2z lo n)[j]?=some d):j<n∧d=.int (lo+j):=by
 have hlt:=(List.getElem?_eq_some_iff.mp h).1
 simp [z2z] at hlt
 simp [z2z,hlt] at h
 exact ⟨hlt,h.symm⟩
theorem zey {n j:Nat} {d:D} (h:(z2z 0 n)[j]?=some d):j<n∧d=.int (j:Int):=by
 refine bq fun bG=>?_
 obtain ⟨a,b⟩:=zms h
 exact bG (⟨a,by rw [b,Int.zero_add]⟩)
theorem zex {lo:Int} {n:Nat}:(z2z lo n).length=n:=by simp [z2z]
noncomputable def zvx:Option (List D×M)→Option (D×M)
 | some (rs,μ)=>some (.lst rs,μ)
 | none=>none
@[simp] theorem kLst_s {rs:List D} {μ:M}:zvx (some (rs,μ))=some (.lst rs,μ):=rfl
noncomputable def zra (own:List Str) (cap:List (Str×Nat)) (g:GV) (tc:BV) (te:EV) (Γ:G):Option ((List D×Ck)×M)→Option (D×M)
 | some ((its,c),μ)=>if its.length≤1000000 then zvx (z1m c g tc te its (z50 own cap Γ) μ) else none
 | none=>none
@[simp] theorem z8d {own:List Str} {cap:List (Str×Nat)} {g:GV} {tc:BV} {te:EV} {Γ:G} {its:List D} {c:Ck} {μ:M}:zra own cap g tc te Γ (some ((its,c),μ))=if its.length≤1000000 then zvx (z1m c g tc te its (z50 own cap Γ) μ) else none:=rfl
@[simp] theorem z63 {own:List Str} {cap:List (Str×Nat)} {iv:IV} {g:GV} {tc:BV} {te:EV} {Γ:G} {μ:M}:z10 own cap iv g tc te Γ μ=zra own cap g tc te Γ (iv Γ μ):=by
 unfold z10 zra
 cases iv Γ μ with
 | none=>rfl
 | some s =>
  obtain ⟨⟨its,c⟩,μ1⟩:=s
  show (if its.length≤1000000 then (z1m c g tc te its (z50 own cap Γ) μ1).bind _ else none)=if its.length≤1000000 then zvx (z1m c g tc te its (z50 own cap Γ) μ1) else none
  split
  ·cases z1m c g tc te its (z50 own cap Γ) μ1 <;> rfl
  ·rfl
noncomputable def znj:Option (List D×M)→Option (D×M)
 | some (rs,μ)=>if rs.length≤1000000 then some (.lst rs,μ) else none
 | none=>none
@[simp] theorem zr9 {rs:List D} {μ:M}:znj (some (rs,μ))=if rs.length≤1000000 then some (.lst rs,μ) else none:=rfl
noncomputable def zk2 (own:List Str) (cap:List (Str×Nat)) (g:GV) (tc:BV) (iv2:IV) (g2:GV) (tc2:BV) (te:EV) (Γ:G):Option ((List D×Ck)×M)→Option (D×M)
 | some ((its,c),μ)=>znj (z4b c g tc iv2 g2 tc2 te its (z50 own cap Γ) μ)
 | none=>none
@[simp] theorem znk {own:List Str} {cap:List (Str×Nat)} {iv2:IV} {g g2:GV} {tc tc2:BV} {te:EV} {Γ:G} {its:List D} {c:Ck} {μ:M}:zk2 own cap g tc iv2 g2 tc2 te Γ (some ((its,c),μ))=znj (z4b c g tc iv2 g2 tc2 te its (z50 own cap Γ) μ):=rfl
@[simp] theorem zhy {own:List Str} {cap:List (Str×Nat)} {iv iv2:IV} {g g2:GV} {tc tc2:BV} {te:EV} {Γ:G} {μ:M}:z9z own cap iv g tc iv2 g2 tc2 te Γ μ=zk2 own cap g tc iv2 g2 tc2 te Γ (iv Γ μ):=by
 unfold z9z zk2
 cases iv Γ μ with
 | none=>rfl
 | some s =>
  obtain ⟨⟨its,c⟩,μ1⟩:=s
  show (z4b c g tc iv2 g2 tc2 te its (z50 own cap Γ) μ1).bind _=znj (z4b c g tc iv2 g2 tc2 te its (z50 own cap Γ) μ1)
  cases z4b c g tc iv2 g2 tc2 te its (z50 own cap Γ) μ1 <;> rfl
section
variable {X:Cx} {K:PySem.W.Frag} {pos:Pos} {el:LV} {ea:EV}
end
section
variable {X:Cx} {K:PySem.W.Frag} {a b:Expr} {ea eb:EV} {p p2 pos kp kp2:Pos}
end
noncomputable def zbm (kvs:List (Key×D)) (k:Key):Option D:=(kvs.find? fun kv=>decide (kv.1=k)).map (·.2)
noncomputable def zdm (kvs:List (Key×D)) (k:Key) (v:D):List (Key×D) :=
 if (kvs.any fun kv=>decide (kv.1=k))=true then kvs.map (fun kv=>if kv.1=k then (kv.1,v) else kv) else kvs++[(k,v)]
noncomputable def zlu:D→Option Key
 | .int i=>some (.inl i)
 | .str x=>some (.inr x)
 | _=>none
noncomputable def z9y (μ:M):D→Option (List (Key×D))
 | .ref k=>match μ[k]? with
  | some (some (.dK kvs))=>some kvs
  | _=>none
 | _=>none
section
variable {K:PySem.W.Frag} {W:Wd}
theorem ze3 {d:D} {k:Key} {v:V} (h:zlu d=some k) (r:DR K W d v):v=kV k:=by
 cases d <;> simp only [zlu] at h <;> cases h <;> cases r <;> rfl
theorem z70 {d:D} {kvs:List (Key×D)} {v:V} (ok:Ok K W) (h:z9y W.μ d=some kvs) (r:DR K W d v) :
  ∃ k a vs,d=.ref k∧v=.ref a∧W.μ[k]?=some (some (.dK kvs))∧W.ρ[k]?=some a∧W.H a=some (.dK vs)∧KR K W kvs vs:=by
 cases d with
 | ref k =>
  simp only [z9y] at h
  split at h
  ·rename_i kvs' hk
   cases h
   cases r with
   | ref ha =>
    refine bq fun bG=>?_
    obtain ⟨a',ho,h1,h2,vs,rfl,r⟩:=ok.at_ k _ hk
    rw [ha] at h1
    cases h1
    exact bG (⟨k,_,vs,rfl,rfl,hk,ha,h2,r⟩)
  ·cases h
 | _=>simp [z9y] at h
theorem KR.len {kvs:List (Key×D)} {vs:List (Key×V)} (r:KR K W kvs vs):kvs.length=vs.length:=Paired.length r
theorem KR.any {kvs:List (Key×D)} {vs:List (Key×V)} (r:KR K W kvs vs) (k:Key):(kvs.any fun kv=>decide (kv.1=k))=vs.any fun kv=>decide (kv.1=k):=by
 unfold KR at r
 induction r with
 | nil=>rfl
 | cons h t ih=>rw [List.any_cons,List.any_cons,ih,h.1]
theorem KR.val {kvs:List (Key×D)} {vs:List (Key×V)} (r:KR K W kvs vs) (k:Key):(zbm kvs k).isSome=(zd5 vs k).isSome:=by
 unfold KR at r
 induction r with
 | nil=>rfl
 | @cons p q ps qs h t ih =>
  by_cases e:p.1=k
  ·rw [z7d (by rw [← h.1];exact e)]
   simp [zbm,List.find?_cons,e]
  ·rw [z7e (by rw [← h.1];exact e)]
   simp only [zbm,List.find?_cons,e,decide_false] at ih ⊢
   exact ih
theorem KR.snoc {kvs:List (Key×D)} {vs:List (Key×V)} (r:KR K W kvs vs) (k:Key) {d:D} {v:V} (rv:DR K W d v):KR K W (kvs++[(k,d)]) (vs++[(k,v)]):=Paired.snoc r ⟨rfl,rv⟩
theorem KR.repl {kvs:List (Key×D)} {vs:List (Key×V)} (r:KR K W kvs vs) (k:Key) {d:D} {v:V} (rv:DR K W d v) :
  KR K W (kvs.map fun kv=>if kv.1=k then (kv.1,d) else kv) (vs.map fun kv=>if kv.1=k then (kv.1,v) else kv):=by
 unfold KR at r ⊢
 induction r with
 | nil=>exact .nil
 | @cons p q ps qs h t ih =>
  refine .cons ?_ ih
  show (if p.1=k then (p.1,d) else p).1=(if q.1=k then (q.1,v) else q).1∧DR K W (if p.1=k then (p.1,d) else p).2 (if q.1=k then (q.1,v) else q).2
  by_cases e:p.1=k
  ·rw [if_pos e,if_pos (by rw [← h.1];exact e)];exact ⟨h.1,rv⟩
  ·rw [if_neg e,if_neg (by rw [← h.1];exact e)];exact h
theorem KR.put {kvs:List (Key×D)} {vs:List (Key×V)} (r:KR K W kvs vs) (k:Key) {d:D} {v:V} (rv:DR K W d v):KR K W (zdm kvs k d) (zf1 vs k v):=by
 unfold zdm zf1
 rw [r.any k]
 by_cases e:(vs.any fun kv=>decide (kv.1=k))=true
 ·rw [if_pos e,if_pos e];exact r.repl k rv
 ·rw [if_neg e,if_neg e];exact r.snoc k rv
theorem KR.vals {kvs:List (Key×D)} {vs:List (Key×V)} (r:KR K W kvs vs):DRs K W (kvs.map (·.2)) (vs.map (·.2)):=by
 unfold KR at r
 induction r with
 | nil=>exact .nil
 | cons h t ih=>exact .cons h.2 ih
theorem zos {k:Nat} {a:Addr} {kvs kvs':List (Key×D)} {vs':List (Key×V)} (ok:Ok K W) (hk:W.μ[k]?=some (some (.dK kvs))) (ha:W.ρ[k]?=some a) (hs:KR K W kvs' vs') :
  Ok K (W.put k a (.dK vs') (.dK kvs'))∧Step W (W.put k a (.dK vs') (.dK kvs')):=⟨zp5 ok hk ha ⟨vs',rfl,hs⟩,z4v hk ha⟩
theorem zdd {d:D} {kvs:List (Key×D)} {v:V} (ok:Ok K W) (h:z9y W.μ d=some kvs) (r:DR K W d v):tyV K "dict" v W.H:=by
 refine bq fun bG=>?_
 obtain ⟨k,a,vs,rfl,rfl,_,_,hh,_⟩:=z70 ok h r
 exact bG (.inr (.inr (.inl ⟨rfl,.inl ⟨vs,hh⟩⟩)))
end
section
variable {X:Cx} {K:PySem.W.Frag} {a b c e o i value:Expr} {ea eb eo ei:EV} {pos p apos pos' pos1:Pos} {k:Nat}
end
noncomputable def z5j (n:Nat) (c:Ck) (g:GV) (tc:BV) (tk tv:EV):List D→G→M→Option M
 | [],_,μ=>some μ
 | d::r,Γ,μ=>(g d Γ μ).bind fun p=>(tc p.1 p.2).bind fun t=>if t.1=true then (tk p.1 t.2).bind fun y=>(tv p.1 y.2).bind fun v=>(zlu y.1).bind fun k=>(z9y v.2 (.ref n)).bind fun kvs =>
   chk (kvs.length<1000000∧z2k c (v.2.set n (some (.dK (zdm kvs k v.1))))) (z5j n c g tc tk tv r p.1 (v.2.set n (some (.dK (zdm kvs k v.1))))) else chk (z2k c t.2) (z5j n c g tc tk tv r p.1 t.2)
section
variable {X:Cx} {K:PySem.W.Frag} {N' own:List Str} {cap:List (Str×Nat)} {scope:Scope} {tg iter kx vx:Expr} {ifs:List Expr} {pos:Pos} {iv:IV} {g:GV} {tc:BV} {tk tv:EV}
end
section
variable {X:Cx} {K:PySem.W.Frag} {a b c e o i value:Expr} {ea eb eo ei:EV} {pos p apos pos' pos1:Pos} {k:Nat}
noncomputable def zhx:EV:=fun _ μ=>some (.ref μ.length,μ++[some (.dK [])])
theorem zoc:PE X (.Dict [] [] pos) (tD K zhx):=z0n zn0 fun σ H Q h=>by
 refine el4 h fun W Γ d μ' eH ok en e q=>?_;subst eH
 cases e
 intro pa hp
 exact q _ (W.new pa (.dK []) (.dK [])) rfl (zf9 ok hp ⟨[],rfl,.nil⟩) (z2n ok hp) (zfp ok)
noncomputable def z5v (x y:D) (μ:M):Option (D×M):=(z9y μ x).bind fun kvs=>(zlu y).bind fun k=>(zbm kvs k).bind fun d=>some (d,μ)
theorem KR.at {W:Wd} {kvs:List (Key×D)} {vs:List (Key×V)} (r:KR K W kvs vs) {k:Key} {d:D} (h:zbm kvs k=some d):∃ v,zd5 vs k=some v∧DR K W d v:=by
 unfold KR at r
 induction r with
 | nil=>cases h
 | @cons p q ps qs hd t ih =>
  by_cases e:p.1=k
  ·have:zbm (p::ps) k=some p.2:=by simp [zbm,List.find?_cons,e]
   rw [this] at h
   cases h
   exact ⟨q.2,z7d (by rw [← hd.1];exact e),hd.2⟩
  ·have:zbm (p::ps) k=zbm ps k:=by simp [zbm,List.find?_cons,e]
   rw [this] at h
   obtain ⟨v,h1,h2⟩:=ih h
   exact ⟨v,by rw [z7e (by rw [← hd.1];exact e)];exact h1,h2⟩
theorem zep (hr:Room k X.A) (ha:PE X a (tD K ea)) (hb:PE X b (tD K eb)) (hs:zxi b:=by exact fun _ _=>rfl):PE X (.Subscript a b pos) (tD K (v2 z5v ea eb)) :=
 z0n (zqs (by have:=hr.units;omega) ha hb hs) fun σ H Q h=>by
  refine el4 h fun W Γ d μ' eH ok en e q=>?_;subst eH
  refine z05 e fun p1 e1 e=>?_
  refine z05 e fun p2 e2 e=>?_
  refine z05 e fun kvs e3 e=>?_
  refine z05 e fun ky e4 e=>?_
  refine z05 e fun d2 e5 e=>?_
  cases e
  refine ⟨W,Γ,p1.1,p1.2,rfl,ok,en,e1,fun x W1 hμ ok1 s1 r1=>⟨W1,Γ,p2.1,p2.2,rfl,ok1,en.step ok s1,by rw [hμ];exact e2,fun y W2 hμ2 ok2 s2 r2=>?_⟩⟩
  rw [← hμ2] at e3
  obtain ⟨n,a,vs,hd,rfl,hk,ha,hh,hs⟩:=z70 ok2 e3 (r1.step ok1 s2)
  have:=ze3 e4 r2
  subst this
  obtain ⟨v,h1,h2⟩:=hs.at e5
  exact ⟨a,v,rfl,by rw [← h1];exact DGet.k hh,q _ W2 hμ2 ok2 (s1.trans s2) h2⟩
noncomputable def zfn (x:D) (μ:M):Option (D×M):=(z9y μ x).bind fun kvs=>some (.lst (kvs.map (·.2)),μ)
theorem zpv (ml:X.mg "list" = none) (ho:PE X o (tD K eo)) (hc:X.calm=true:=by rfl) (hg:Gl X "list" := by rfl) (hbase:attributeBase o "values" X.env (eval o X.env)=eval o X.env:=by rfl) (hline:(apos.endLine==pos1.line)=true:=by rfl)
  (hs:starEach [.Call (.Attribute o "values" apos) [] [] pos1] X.env=[(false,eval (.Call (.Attribute o "values" apos) [] [] pos1) X.env)]:=by rfl) (hK:X.K=K:=by rfl) :
  PE X (.Call (.Name "list" p) [.Call (.Attribute o "values" apos) [] [] pos1] [] pos) (tD K (v1 zfn eo)):=by
 refine z0n (z67 (p:=p) (pos:=pos) (z7a (X:=X)) hg ml rfl (z0q (znw K ho hbase hline hK) z1g hs) (he:=hs)) fun σ H Q h=>?_
 refine el4 h fun W Γ d μ' eH ok en e q=>?_;subst eH
 refine z05 e fun p1 e1 e=>?_
 refine z05 e fun kvs e2 e=>?_
 cases e
 refine ⟨W,Γ,p1.1,p1.2,rfl,ok,en,e1,fun x W1 hμ ok1 s1 r1=>?_⟩
 rw [← hμ] at e2
 refine bq fun bG=>?_
 obtain ⟨k,a,vs,hd,rfl,hk,ha,hh,hs⟩:=z70 ok1 e2 r1
 refine bG (⟨zdd ok1 e2 r1,a,vs,rfl,rfl,hh,fun v hv=>?_⟩)
 refine ⟨v,a,vs,rfl,z0l,by rw [z0h (fun z=>by rw [z,hv] at hh;cases hh)];exact hh,hc,fun l hl=>?_⟩
 have ok2:=z2f (o:=vvO v a) ok1 hv
 have s2:=z0m (o:=vvO v a) hv
 have r2:=hs.vals.step ok1 s2
 exact q _ ((W1.lay v (vvO v a)).lay l (.lst (vs.map (·.2)))) hμ (z2f ok2 hl) ((s1.trans s2).trans (z0m hl)) (z8o ok2 hl r2)
noncomputable def z24 (eo ek ed:EV):EV:=fun Γ μ=>(eo Γ μ).bind fun p=>(z9y p.2 p.1).bind fun _=>(ek Γ p.2).bind fun q=>(ed Γ q.2).bind fun r=>(zlu q.1).bind fun k=>(z9y r.2 p.1).bind fun kvs=>match p.1 with
 | .ref n=>if kvs.length<1000000 then (match zbm kvs k with
  | some d=>some (d,r.2)
  | none=>some (r.1,r.2.set n (some (.dK (zdm kvs k r.1))))) else none
 | _=>none
theorem zah (ho:PE X o (tD K eo)) (ha:PE X a (tD K ea)) (hb:PE X b (tD K eb)) (hs:starEach [a,b] X.env=[(false,eval a X.env),(false,eval b X.env)]:=by rfl) (hs2:starEach [b] X.env=[(false,eval b X.env)]:=by rfl)
  (hbase:attributeBase o "setdefault" X.env (eval o X.env)=eval o X.env:=by rfl) (hline:(apos.endLine==pos.line)=true:=by rfl) (hK:X.K=K:=by rfl)
  (hfew:((backTo pos (starEach [a,b] X.env)).all (fun x=>!x.1)&&(backToKw pos (keywordEach [] X.env)).all (fun x=>x.1.isSome)
   && decide ([a,b].length+([]:List Keyword).length+(if ([]:List Keyword).isEmpty then 0 else 1)<30))=true:=by rfl) :
  PE X (.Call (.Attribute o "setdefault" apos) [a,b] [] pos) (tD K (z24 eo ea eb)):=z0n (zrl K ho ha hb hs hs2 hbase hline hK hfew) fun σ H Q h=>by
 refine el4 h fun W Γ d μ' eH ok en e q=>?_;subst eH
 refine z05 e fun p1 e1 e=>?_
 refine z05 e fun kv0 e0 e=>?_
 refine z05 e fun p2 e2 e=>?_
 refine z05 e fun p3 e3 e=>?_
 refine z05 e fun ky e4 e=>?_
 refine z05 e fun kvs e5 e=>?_
 refine ⟨W,Γ,p1.1,p1.2,rfl,ok,en,e1,fun x W1 hμ ok1 s1 r1=>⟨zdd ok1 (by rw [hμ];exact e0) r1,W1,Γ,p2.1,p2.2,rfl,ok1,en.step ok s1,by rw [hμ];exact e2,fun y W2 hμ2 ok2 s2 r2=>⟨W2,Γ,p3.1,p3.2,rfl,ok2,(en.step ok s1).step ok1 s2,by rw [hμ2];exact e3,fun z W3 hμ3 ok3 s3 r3=>?_⟩⟩⟩
 rw [← hμ3] at e5
 obtain ⟨n,a1,vs,hd,rfl,hk,ha1,hh,hs1⟩:=z70 ok3 e5 ((r1.step ok1 s2).step ok2 s3)
 have:=ze3 e4 (r2.step ok2 s3)
 subst this
 rw [hd] at e
 simp only at e
 split at e
 ·rename_i hl
  refine ⟨a1,vs,ky,z,rfl,rfl,hh,z8a (by rw [← hs1.len];omega),fun v hv=>?_,fun hv=>?_⟩
  ·split at e
   ·rename_i d0 hd0
    cases e
    refine bq fun bG=>?_
    obtain ⟨v',h1,h2⟩:=hs1.at hd0
    rw [hv] at h1
    cases h1
    exact bG (q _ W3 hμ3 ok3 ((s1.trans s2).trans s3) h2)
   ·rename_i hd0
    have:=hs1.val ky
    rw [hd0,hv] at this
    cases this
  ·split at e
   ·rename_i d0 hd0
    have:=hs1.val ky
    rw [hd0,hv] at this
    cases this
   ·cases e
    obtain ⟨o4,s4⟩:=zos (vs':=zf1 vs ky z) (kvs':=zdm kvs ky p3.1) ok3 hk ha1 (hs1.put ky r3)
    exact q _ (W3.put n a1 (.dK (zf1 vs ky z)) (.dK (zdm kvs ky p3.1))) (by show W3.μ.set _ _=_;rw [hμ3]) o4 (((s1.trans s2).trans s3).trans s4) (r3.step ok3 s4)
 ·cases e
end
end L3
namespace L2
open PySem PySem.W PySem.Spec PyProof.Rows
structure FlewH (P:Program) (w:World) (outer:List Env) (L:Addr) (H H':Hp) (s:Shared) (e:Addr) (C:Value) (B:Heap) (s':Shared):Prop where
 os:s'.os=s.os
 bare:AllBare s'.gens
 un:Un (frs outer) [] H H' s.heap s'.heap
 hok:HOk P w H' s'.heap
 trk:∀ b o,s'.heap.get? b=some o→H' b≠none→B.get? b=some o
 old:∀ b o,s.heap.get? b=some o→H b=none→b∉frs outer→B.get? b=some o
 thr:∀ b o,s.heap.get? b=some o→b∉frs outer→∃ o',B.get? b=some o'
 frf:∀ b∈frs outer,H b=none
 unt:H' e=none
 new:s.heap.get? e=none
 fly:∃ a0,Heap.HeldW B outer e C a0 L s'.heap
section
variable {P:Program} {w:World} {outer:List Env} {L:Addr} {H H':Hp} {s s':Shared} {e:Addr} {C:Value} {B:Heap}
theorem Flew.noted {h2:Heap} (F:Flew P w outer H H' s e C B s') (hs:s'.heap.UpToSlots h2) (fl:∃ a0,Heap.HeldW B outer e C a0 L h2):FlewH P w outer L H H' s e C B { s' with heap:=h2 }:=by
 refine bq fun bG=>?_
 obtain ⟨a0,fl⟩:=fl
 obtain ⟨u,k,t⟩:=F.to fl.1 hs
 exact bG (⟨F.os,F.bare,u,k,t,F.old,F.thr,F.frf,F.unt,F.new,a0,fl⟩)
theorem FlewH.to {h2:Heap} (F:FlewH P w outer L H H' s e C B s') (hB:B.StaysIn h2) (hs:s'.heap.UpToSlots h2):Un (frs outer) [] H H' s.heap h2∧HOk P w H' h2∧∀ b o,h2.get? b=some o→H' b≠none→B.get? b=some o:=by
 obtain ⟨a0,fl⟩:=F.fly
 have kp:∀ b o,s.heap.get? b=some o→H b=none→b∉frs outer→h2.get? b=some o:=fun b o x n hb=>hB b o (F.old b o x n hb)
 have sl:∀ b o,s.heap.get? b=some o→H b=none→b∈frs outer→∃ sl,h2.get? b=some { o with slots:=sl }:=fun b o x n hb=>by
  refine bq fun bG=>?_
  obtain ⟨sl,e1⟩:=F.un.slot b o x n hb (by simp)
  obtain ⟨_,o',e2,d⟩:=fl.2.2.1.mem hb
  rw [e1] at e2
  cases e2
  obtain ⟨sl',e3⟩:=hs b { o with slots:=sl } e1 d
  exact bG (⟨sl',e3⟩)
 refine ⟨⟨fun b o x n hb _=>kp b o x n hb,fun b o x n hb _=>sl b o x n hb,F.un.free,fun b o x _=>?_,F.un.tups,F.un.frzs,F.un.tbls⟩,fun a u eu=>?_,fun b o x n=>?_⟩
 ·by_cases hb:b∈frs outer
  ·obtain ⟨l,e1⟩:=sl b o x (F.frf b hb) hb
   exact ⟨_,e1⟩
  ·obtain ⟨o',e1⟩:=F.thr b o x hb
   exact ⟨o',hB b o' e1⟩
 ·refine (F.hok a u eu).stay (fun b v hb q=>hB b v (F.trk b v q ?_)) (fun _ q=>q) fun _ _ q=>q
  rcases hb with z | z
  ·rw [z,eu];simp
  ·rw [z];simp
 ·cases eu:H' b with
  | none=>exact absurd eu n
  | some u =>
   refine bq fun bG=>?_
   obtain ⟨o1,e1⟩:=(F.hok b u eu).there
   have e2:=F.trk b o1 e1 n
   have e3:=hB b o1 e2
   rw [x] at e3
   cases e3
   exact bG (e2)
theorem FlewH.next {h2:Heap} (F:FlewH P w outer L H H' s e C B s') (hs:s'.heap.UpToSlots h2) (fl:∃ a0,Heap.HeldW B outer e C a0 L h2):FlewH P w outer L H H' s e C B { s' with heap:=h2 }:=by
 refine bq fun bG=>?_
 obtain ⟨a0,fl⟩:=fl
 obtain ⟨u,k,t⟩:=F.to fl.1 hs
 exact bG (⟨F.os,F.bare,u,k,t,F.old,F.thr,F.frf,F.unt,F.new,a0,fl⟩)
theorem FlewH.lands {h2:Heap} (F:FlewH P w outer L H H' s e C B s') (hs:s'.heap.UpToSlots h2) (fl:∃ a0,Heap.FlyingW B outer e C a0 h2):Flew P w outer H H' s e C B { s' with heap:=h2 }:=by
 refine bq fun bG=>?_
 obtain ⟨a0,fl⟩:=fl
 obtain ⟨u,k,t⟩:=F.to fl.1 hs
 exact bG (⟨F.os,F.bare,u,k,t,F.old,F.thr,F.frf,F.unt,F.new,a0,fl⟩)
end
theorem z4j {M:Model} {A:Around} {E:Value→Shared→Prop} {s:Shared} {base:Heap} {l:List Env} {e L:Addr} {cls a0:Value} {Q:Unit→Shared→Prop} (R:Heap.HeldW base l e cls a0 L s.heap)
  (h:∀ h',Heap.HeldW base l e cls a0 L h'→s.heap.UpToSlots h'→Q () { s with heap:=h' }):wpAny M A (setFlight (.ref e) (some L)) Q E s:=by
 obtain ⟨hkb,hen,hl,oe,vs,T,oT,ts,he,hcls,hd,h1,hnT,hTe,hT,hdT,h3⟩:=R
 have hsz3:3<ts.size:=(Array.getElem?_eq_some_iff.mp h3).1
 have other:∀ b,b≠T→(s.heap.update T (Obj.mapFields (·.setIfInBounds 3 ((some L).elim Value.none fun f=>rawInt f)))).get? b=s.heap.get? b :=
  fun b hb=>Heap.get?_update_other _ _ (Ne.symm hb)
 have noRecord:∀ b o,s.heap.get? b=some o→(∀ vs,o.data≠.fields vs)→b≠T:=fun b o hb hnf q=>by
  rw [q,hT] at hb;injection hb with hb;subst hb;exact hnf ts hdT
 unfold setFlight
 refine wpAny_bind (wpAny_field he hd h1 ?_)
 rw [if_pos (show (Value.ref T != Value.none)=true from by simp)]
 refine wpAny_setField hT hdT hsz3 (h _ ⟨fun b o hbo=>(other b fun q=>by rw [q,hnT] at hbo;cases hbo).trans (hkb b o hbo),hen,
  hl.of_keeps fun b o hb hnf=>⟨o,(other b (noRecord b o hb hnf)).trans hb,rfl⟩,?_⟩ fun b o hb hnf=>⟨o.slots,(other b (noRecord b o hb hnf)).trans hb⟩)
 exact ⟨oe,vs,T,_,_,(other e (Ne.symm hTe)).trans he,hcls,hd,h1,hnT,hTe,Heap.get?_update_self _ hT (Obj.isFreed_of_fields (Obj.data_mapFields hdT _)),Obj.data_mapFields hdT _,by simp [hsz3]⟩
theorem zdu {M:Model} {A:Around} {E:Value→Shared→Prop} {s:Shared} {base h:Heap} {env:Env} {outer:List Env} {L e:Addr} {cls:Value} {args:List Value} {Q:Unit→Shared→Prop}
  (hfr:A.frames=some (env::outer)) (hf:env.frame=some L) (hkb:base.StaysIn h) (hl:h.FunFrames base (env::outer)) (hx:Heap.MadeExcOf h s.heap e cls args)
  (hQ:∀ h' a0,Heap.HeldW base (env::outer) e cls a0 L h'→s.heap.UpToSlots h'→Q () { s with heap:=h' }):wpAny M A (noteFrame (.ref e) env) Q E s:=by
 obtain ⟨t,he,htn,ht⟩:=hx.there
 have fresh:∀ b,h.get? b=none→base.get? b=none:=fun b hb=>by
  cases hq:base.get? b with
  | none=>rfl
  | some o'=>have:=hkb b o' hq;rw [hb] at this;cases this
 unfold noteFrame
 simp only [hf]
 refine wpAny_bind (wpAny_field he rfl (show (#[Value.ref t,.none,.none,.none,.bool false,.none]:Array Value)[1]?=some Value.none from rfl) ?_)
 rw [if_neg (show ¬ ((Value.none != Value.none)=true) from by decide)]
 refine wpAny_entryW (a0:=.ref t) hfr (hl.of_keeps fun b o hb _=>⟨o,hx.keeps b o hb,rfl⟩) hf he (fun b o hb=>hx.keeps b o (hkb b o hb)) (fresh e hx.new) rfl (by simp) rfl fun h' hN=>?_
 refine bq fun bG=>?_
 obtain ⟨k1,k2,k3,k4⟩:=hN
 exact bG (hQ h' _ ⟨k1,fresh e hx.new,k2,k3⟩ k4)
def Lv (X:Cx):Prop:=X.stack=X.env::X.outer∧X.env.frame=some X.env.locals
def FlX (X:Cx) (E:St→XK) (e:Value) (s':Shared):Prop:=∃ (a:Addr) (C:Value) (pins:List (Addr×Obj)) (σ:St) (H H':Hp) (s:Shared),e=.ref a∧Inv X pins σ H s∧E σ C none H' ∧
 ((H'=H∧∃ (D:Addr) (vs:List Value) (h':Heap),C=.ref D∧s'={ s with heap:=h' }∧Heap.MadeExcOf s.heap h' a C vs)∨(∃ B,Flew X.prog X.w X.stack H H' s a C B s')∨(∃ B,FlewH X.prog X.w X.stack X.env.locals H H' s a C B s'))
section
variable {X:Cx} {E:St→XK} {pins:List (Addr×Obj)} {σ:St} {H H':Hp} {s s':Shared} {a:Addr} {C:Value} {B:Heap}
theorem zgp {M:Model} {A:Around} {E':Value→Shared→Prop} {D:Addr} {vs:List Value} {h':Heap} {Q:Unit→Shared→Prop} (lv:Lv X) (hA:A.frames=X.A.frames) (I:Inv X pins σ H s) (hx:Heap.MadeExcOf s.heap h' a (.ref D) vs)
  (hQ:∀ B h2,FlewH X.prog X.w X.stack X.env.locals H H s a (.ref D) B { s with heap:=h2 }→Q () { s with heap:=h2 }):wpAny M A (noteFrame (.ref a) X.env) Q E' { s with heap:=h' }:=by
 obtain ⟨lv1,lv2⟩:=lv
 have fs:∀ b,b∈frs X.stack→H b=none:=I.stkFree
 have inn:∀ b o,s.heap.get? b=some o→b∉frs X.stack→(hideAll s.heap (frs X.stack)).get? b=some o:=fun b o e hb=>hideAll_get _ e hb
 have hin:∀ env∈X.stack,∀ a,env.frame=some a→a∈frs X.stack:=fun env he a ha=>List.mem_filterMap.mpr ⟨env,he,ha⟩
 have nfr:∀ b,H b≠none→b∉frs X.stack:=fun b n z=>n (fs b z)
 refine zdu (base:=hideAll s.heap (frs X.stack)) (env:=X.env) (outer:=X.outer) (by rw [hA,I.ok.frames,lv1]) lv2 (fun b o q=>of_hideAll _ q) (by rw [← lv1];exact funFrames_hide I.stack hin) hx fun h2 a0 fl ups=>hQ (hideAll s.heap (frs X.stack)) h2 ?_
 have hB:=fl.1
 have hkeep:∀ b o,s.heap.get? b=some o→b∉frs X.stack→h2.get? b=some o:=fun b o e hb=>hB b o (inn b o e hb)
 have hslot:∀ b o,s.heap.get? b=some o→b∈frs X.stack→∃ sl,h2.get? b=some { o with slots:=sl }:=fun b o e hb=>by
  refine bq fun bG=>?_
  obtain ⟨_,o',e2,d⟩:=I.stack.mem hb
  rw [e] at e2
  cases e2
  obtain ⟨sl',e3⟩:=ups b o (hx.keeps b o e) d
  exact bG (⟨sl',e3⟩)
 refine ⟨rfl,I.bare,⟨fun b o x n hb _=>hkeep b o x hb,fun b o x n hb _=>hslot b o x hb,fun b o x n _=>n,fun b o x _=>?_,fun _ _ z=>z,fun _ _ _ z=>z,fun _ ps z=>⟨#[],by simpa using z⟩⟩,fun b u eu=>?_,fun b o x n=>?_,fun b o x n hb=>inn b o x hb,fun b o x hb=>⟨o,inn b o x hb⟩,fs,?_,hx.new,a0,?_⟩
 ·by_cases hb:b∈frs X.stack
  ·obtain ⟨l,e1⟩:=hslot b o x hb;exact ⟨_,e1⟩
  ·exact ⟨o,hkeep b o x hb⟩
 ·refine (I.hok b u eu).stay (fun c v hb q=>hkeep c v q (nfr c ?_)) (fun _ q=>q) fun _ _ q=>q
  rcases hb with z | z
  ·rw [z,eu];simp
  ·rw [z];simp
 ·cases eu:H b with
  | none=>exact absurd eu n
  | some u =>
   refine bq fun bG=>?_
   obtain ⟨o1,e1⟩:=(I.hok b u eu).there
   have e2:=inn b o1 e1 (nfr b n)
   have e3:=hB b o1 e2
   rw [x] at e3
   cases e3
   exact bG (e2)
 ·cases eu:H a with
  | none=>rfl
  | some u =>
   obtain ⟨o1,e1⟩:=(I.hok a u eu).there
   rw [hx.new] at e1
   cases e1
 ·rw [← lv1] at fl;exact fl
theorem zkh {M:Model} {A:Around} {E':Value→Shared→Prop} {e:Value} {Q:Unit→Shared→Prop} (lv:Lv X) (hA:A.frames=X.A.frames) (h:FlX X E e s')
  (hQ:∀ a C pins σ H H' s B s2,e=.ref a→Inv X pins σ H s→E σ C none H'→FlewH X.prog X.w X.stack X.env.locals H H' s a C B s2→Q () s2):wpAny M A (noteFrame e X.env) Q E' s':=by
 obtain ⟨a,C,pins,σ,H,H',s,rfl,I,hE,h⟩:=h
 rcases h with ⟨rfl,D,vs,h',rfl,rfl,hx⟩ | ⟨B,F⟩ | ⟨B,F⟩
 ·exact zgp lv hA I hx fun B h2 F=>hQ _ _ _ _ _ _ _ _ _ rfl I hE F
 ·obtain ⟨a0,fl⟩:=F.fly
  have fl':Heap.FlyingW B (X.env::X.outer) a C a0 s'.heap:=by rw [← lv.1];exact fl
  refine wpAny_looks_onW (by rw [hA,I.ok.frames,lv.1]) lv.2 fl' fun h2 hh hs=>hQ _ _ _ _ _ _ _ _ _ rfl I hE (F.noted hs ⟨a0,by rw [lv.1];exact hh⟩)
 ·obtain ⟨a0,fl⟩:=F.fly
  exact wpAny_noteFrame_againW lv.2 fl.2.2.2 (hQ _ _ _ _ _ _ _ _ _ rfl I hE F)
theorem zrf (lv:Lv X):PassesOwn (model X.prog X.w) X.A X.env (FlX X E):=fun e s' h=>by
 refine zkh lv rfl h fun a C pins σ H H' s B s2 he I hE F=>?_
 subst he
 obtain ⟨a0,fl⟩:=F.fly
 obtain ⟨oe,vs,T,oT,ts,g1,_,g2,g3,_⟩:=id fl.2.2.2
 show wpAny _ _ (do
  if (← field (.ref a) 1)==.none then unsupported "frame.own-activation:exception-without-traceback"
  setFlight (.ref a) X.env.frame) _ _ _
 refine wpAny_bind (wpAny_field g1 g2 g3 ?_)
 rw [if_neg (show ¬ ((Value.ref T==Value.none)=true) from by simp),lv.2]
 first
  | exact wpAny_bind (wpAny_pure (z4j fl fun h2 hh hs=>⟨a,C,pins,σ,H,H',s,rfl,I,hE,.inr (.inr ⟨B,F.next hs ⟨a0,hh⟩⟩)⟩))
  | exact z4j fl fun h2 hh hs=>⟨a,C,pins,σ,H,H',s,rfl,I,hE,.inr (.inr ⟨B,F.next hs ⟨a0,hh⟩⟩)⟩
end
section
variable {P:Program} {w:World} {K:PySem.W.Frag} {mg:Str→Option Value} {base:Heap} {N:List Str} {qual:Str} {scope:Scope} {f:Addr} {cd:Value} {A:Around} {outer:List Env} {s:Shared} {H:Hp} {E:XK}
theorem zki {e:Value} {s':Shared} (h:FlX (z4a (CXr P w) P w K mg base N qual scope f cd A outer s H E) (fun _=>E) e s'):(z4a (CXr P w) P w K mg base N qual scope f cd A outer s H E).xe e s':=by
 obtain ⟨a,C,pins,σ,H1,H',s1,rfl,I,hE,h⟩:=h
 rcases h with ⟨rfl,D,vs,h',rfl,rfl,hx⟩ | ⟨B,F⟩ | ⟨B,F⟩
 ·exact zt5 I hx hE
 ·exact zqw (E':=E) (fun _ _ _ z=>z) pins σ H1 s1 _ s' I ⟨a,C,H',B,rfl,F,hE⟩
 ·obtain ⟨a0,fl⟩:=F.fly
  show wpAny (model P w) (A.deeper (envOfC qual scope s.heap.objs.size f cd)) (leaving (envOfC qual scope s.heap.objs.size f cd) (.ref a)) _ _ _
  unfold leaving
  refine wpAny_bind (wpAny_noteFrame_againW rfl fl.2.2.2 (wpAny_landsW fl fun h2 fl2 ups=>?_))
  have F2:=F.lands ups ⟨a0,fl2⟩
  have I2:=Flew.inv (X:=z4a (CXr P w) P w K mg base N qual scope f cd A outer s H E) F2 I
  have out:∀ b o,s.heap.get? b=some o→b∉frs outer→b∉frs (envOfC qual scope s.heap.objs.size f cd::outer):=fun b o e hb z=>by
   have z:b∈s.heap.objs.size::frs outer:=z
   rcases List.mem_cons.mp z with q | q
   ·rw [q] at e;exact Nat.lt_irrefl _ (Heap.lt_size e)
   ·exact hb q
  obtain ⟨f1,f2,⟨_,_,f3⟩,f4⟩:=id fl2
  refine ⟨a,C,H',B,rfl,⟨I2.os,F2.bare,⟨fun b o x n hb _=>I2.base.keep b o x n hb (by simp [z4a]),fun b o x n hb _=>I2.base.slot b o x n hb (by simp [z4a]),fun b o x n _=>I2.base.free b o x n (by simp [z4a]),fun b o x _=>I2.base.there b o x (by simp [z4a]),I2.base.tups,I2.base.frzs,I2.base.tbls⟩,F2.hok,F2.trk,
   fun b o x n hb=>F2.old b o (I.base.keep b o x n hb (by simp [z4a])) (I.base.free b o x n (by simp [z4a])) (out b o x hb),fun b o x hb=>?_,I.ok.frf,F2.unt,?_,a0,f1,f2,f3,f4⟩,hE⟩
  ·obtain ⟨o1,e1⟩:=I.base.there b o x (by simp [z4a])
   exact F2.thr b o1 e1 (out b o x hb)
  ·cases eo:s.heap.get? a with
   | none=>rfl
   | some o =>
    obtain ⟨o1,e1⟩:=I.base.there a o eo (by simp [z4a])
    rw [F2.new] at e1
    cases e1
end
noncomputable abbrev Cx.fl (X:Cx) (E:St→XK):Cx:=X.wish (FlX X E)
noncomputable abbrev zsm:List Value:=[.type "ValueError",.type "Exception",.type "BaseException",.type "object"]
def z3r (K:Frag) (C:Addr):Prop:=∃ bm N nm q bs hdct sn sub ab col dd k0 k1 k2 k3 k5,
  K.lookup C=some (excClassObj nm q C N bs bm hdct sn sub ab col dd k0 k1 k2 k3 k5 "ValueError.__new__")∧tailIn K zsm bm=true∧nsOkIn K N=true∧nsIn K N "__init__" = some none
theorem ze8 {K:Frag} {h:Heap} {C:Addr} {G:Prop} (X:K.In h) (q:z3r K C)
  (k:∀ bm N nm q bs hdct sn sub ab col dd k0 k1 k2 k3 k5 mN,h.get? C=some (excClassObj nm q C N bs bm hdct sn sub ab col dd k0 k1 k2 k3 k5 "ValueError.__new__")→h.Ns N mN→mN "__init__" = none→OwnTail h zsm bm→G):G:=by
 refine bq fun bG=>?_
 obtain ⟨bm,N,nm,q,bs,hdct,sn,sub,ab,col,dd,k0,k1,k2,k3,k5,ho,ht,hok,hni⟩:=q
 exact bG (k bm N nm q bs hdct sn sub ab col dd k0 k1 k2 k3 k5 _ (X _ _ ho) (.of_isNs (isNs_of_in X hok)) (nsMap_none_of_in X hok hni) (tail_of_in X ht))
theorem zry {h h':Heap} {N:Addr} {m:Str→Option Value} (hN:h.Ns N m) (b:∀ b o,h.get? b=some o→h'.get? b=some o):h'.Ns N m:=by
 refine bq fun bG=>?_
 obtain ⟨o,es,ep,ho,hd,hs,hf⟩:=hN
 exact bG (⟨o,es,ep,b _ _ ho,hd,hs,hf⟩)
section
variable {X:Cx} {E:St→XK} {e:Expr} {te:TE} {np cpos pos:Pos} {x:Str} {C:Addr}
theorem zf7 (he:PE (X.fl E) e te) (hg:Gl (X.fl E) x) (hm:X.mg x=some (.ref C)) (hC:z3r X.K C) (hc:X.calm=true) (hd:(x==("__debug__" : Str))=false:=by decide)
  (hs:starEach [e] X.env=[(false,eval e X.env)]:=by rfl):PS (X.fl E) (.Raise (some (.Call (.Name x np) [e] [] cpos)) none pos) (fun _ σ H=>te σ H fun _ H1=>E σ (.ref C) none H1):=by
 intro pins s σ H D I h
 have kb:X.K.In X.base:=I.ok.mod.kin
 refine ze8 kb hC fun tl N nm q bs hdct sn sub ab col dd k0 k1 k2 k3 k5 mN hCo hN hni T=>?_
 have hpl:(backTo cpos (starEach [e] X.env)).any (·.1)=false:=by rw [hs];rfl
 refine wpAny_Raise_call_subT (C:=C) (nm:=nm) (q:=q) (N:=N) (bs:=bs) (bm:=tl) (hdct:=hdct) (sn:=sn) (sub:=sub) (ab:=ab) (col:=col) (dd:=dd) (k0:=k0) (k1:=k1) (k2:=k2) (k3:=k3) (k5:=k5)
  PySem.F.excBase_ValueError (mN:=mN) (T.hasType PySem.F.excBase_ValueError.hasBase) (I.ok.hd hc) hpl hni (zaz I hg hm ⟨rfl,?_⟩ hd)
 show wpAny _ _ (evalArgs (.ref C) true (backTo cpos (starEach [e] X.env)) []) _ _ _
 have hpa:PA (X.fl E) [e] (z64 te zi8):=z0q he z1g (by show starEach [e] X.env=(false,eval e X.env)::starEach [] X.env;rw [hs];rfl)
 have hq:wpAny (model X.prog X.w) X.A (spliced (backTo cpos (starEach [e] X.env))) (AP (X.fl E) pins σ (fun vs H1=>vs.length=1∧E σ (.ref C) none H1)) (FlX X E) s:=hpa cpos pins s σ H (fun vs H1=>vs.length=1∧E σ (.ref C) none H1) I (by
  unfold z64 zi8
  have z:te σ H (fun v H1=>E σ (.ref C) none H1):=h
  simpa using z)
 rw [hs] at hq ⊢
 refine Calls.evalArgs_plain (thn hq fun us s2 hm=>?_)
 obtain ⟨vs,H2,I2,r,hl,hE⟩:=hm
 have base:∀ b o,X.base.get? b=some o→s2.heap.get? b=some o:=I2.bk
 exact ⟨rfl,by rw [← r.length,hl];decide,base _ _ hCo,zry hN base,T.keeps base,fun h' a hx=>⟨a,.ref C,pins,σ,H2,H2,s2,rfl,I2.unwish,hE,.inl ⟨rfl,C,us,h',rfl,rfl,hx⟩⟩⟩
end
noncomputable def DfX (P:Program) (w:World) (K:PySem.W.Frag) (mg:Str→Option Value) (base:Heap) (k:Nat) (x:Str) (ps:List Str) (sp:Sp):Prop :=
 ∃ f fd,FnOk P w K mg base (CXr P w) k f fd ps sp∧Binds K fd ps []∧PySem.W.keepIn K (.ref f)=true∧mg x=some (.ref f)
section
variable {X:Cx} {E:St→XK} {k:Nat} {x m:Str} {ps:List Str} {sp:Sp} {e o:Expr} {es:List Expr} {t:TA} {ta:TE} {p pos apos:Pos} {f C:Addr} {fd:FuncData}
theorem zq7 {pins:List (Addr×Obj)} {σ:St} {H:Hp} {s:Shared} {Q:VK} {us:List Value} {vs:List V} (F:FnOk X.prog X.w X.K X.mg X.base (CXr X.prog X.w) k f fd ps sp) (hr:Room k X.A) (hb:Binds X.K fd ps [])
  (I:Inv (X.fl E) pins σ H s) (r:Vals vs us) (h:sp vs H Q (E σ)):wpAny (model X.prog X.w) X.A (call (.ref f) us) (EP (X.fl E) pins σ Q) (FlX X E) s:=by
 have hl:us.length=ps.length:=by rw [← r.length];exact F.len _ _ _ _ h
 have hb':=hb s us I.kIn (by simpa using hl)
 simp only [List.append_nil] at hb'
 refine wpAny_call (codeAny_mono (F.run X.A X.stack s H ⟨us,[]⟩ us vs Q (E σ) hr I.env0 hb' r h) fun r s' hq=>?_)
 cases r with
 | error e =>
  obtain ⟨a,C,H',B,rfl,F,hE⟩:=hq
  exact ⟨a,C,pins,σ,H,H',s,rfl,I.unwish,hE,.inr (.inl ⟨B,F⟩)⟩
 | ok fl =>
  cases fl with
  | ret u=>exact I.after hq
  | next=>exact False.elim hq
  | brk=>exact False.elim hq
  | cont=>exact False.elim hq
theorem zty (D:DfX X.prog X.w X.K X.mg X.base k x ps sp) (hr:Room k X.A) (ha:PA (X.fl E) (e::es) t) (hg:Gl X x:=by rfl) (hdb:(x==("__debug__" : Str))=false:=by decide)
  (he:starEach (e::es) X.env=(false,eval e X.env)::starEach es X.env:=by rfl) (hpl:(backTo pos (starEach es X.env)).any (·.1)=false:=by rfl) :
  PE (X.fl E) (.Call (.Name x p) (e::es) [] pos) (fun σ H Q=>t σ H fun vs H1=>sp vs H1 Q (E σ)):=by
 obtain ⟨f,fd,F,hb,hk,hm⟩:=D
 intro pins s σ H Q I h
 refine wpAny_Call_Name_kw (zaz I hg hm ?_ hdb)
 refine PySem.W.callWith_K (h₀:=X.base) I.ok.mod.kin hk (thn (ha pos pins s σ H _ I h) fun us s1 ⟨vs,H1,I1,r,q⟩=>⟨I1.kIn,?_⟩) he hpl
 exact zq7 F hr hb I1 r q
end
theorem Fun.okX {P:Program} {w:World} {K:PySem.W.Frag} {mg:Str→Option Value} {base:Heap} {x qual:Str} {st:Stmt} {f:Addr} {fd:FuncData} {N ps:List Str} {k:Nat} {sp:Sp} (F:Fun K x qual st f fd) (S:FnScope N ps (z06 st)) (len:∀ vs H Q E,sp vs H Q E→vs.length=ps.length)
  (hbody:∀ (cdv:Value) (A:Around) (outer:List Env) (s:Shared) (H:Hp) (vs:List V) (Q:VK) (E:XK),Room k (A.deeper (envOfC qual (z06 st) s.heap.objs.size f cdv))→sp vs H Q E →
   ∃ t,PSs ((z4a (CXr P w) P w K mg base N qual (z06 st) f cdv A outer s H E).fl fun _=>E) (z0i st) t∧t { nx:=fun _ H'=>Q .non H',rt:=Q } (zak N vs) H):FnOk P w K mg base (CXr P w) (k+1) f fd ps sp:=by
 refine bq fun bG=>?_
 obtain ⟨oc,od,kV,doc,pm,an,cdv,ct,osl,rfl,lk,hcd⟩:=F.ex
 refine bG (zva lk hcd S len fun A outer s H vs Q E hr hsp=>?_)
 refine bq fun bG=>?_
 obtain ⟨t,h,q⟩:=hbody cdv A outer s H vs Q E hr hsp
 refine bG (⟨t,fun pins s σ H D I hw=>?_,q⟩)
 exact wpAny_mono (h pins s σ H D (I.wish _) hw) (fun _ _ z=>z.unwish) fun e s' z=>zki z
section
variable {P:Program} {w:World} {outer:List Env} {H H':Hp} {s s':Shared} {e D:Addr} {B:Heap}
end
section
variable {X:Cx} {body suite:List Stmt} {b₀:Stmt} {p hp pos:Pos} {n y:Str} {i:Nat} {C0:Addr} {tb:(St→XK)→TS} {ts:TS}
end
end L2
namespace L3
open PySem PySem.Spec L2
open PyProof.Rows (envOfC)
inductive Rs (α:Type) where
 | ok (a:α) | ex (C:Addr)
noncomputable abbrev EX:=G→M→Option (Rs D×M)
noncomputable abbrev BX:=G→M→Option (Rs Bool×M)
noncomputable abbrev LX:=G→M→Option (Rs (List D)×M)
noncomputable abbrev FX:=List D→M→Option (Rs D×M)
inductive OutX where
 | nx | bk | ct | rt (d:D) | ex (C:Addr)
noncomputable abbrev SX:=G→M→Option (OutX×G×M)
section
variable (K:PySem.W.Frag) (E:St→XK)
def zxy (E:XK) (Q:VK) (W':Wd):Rs D→Prop
 | .ok d=>∀ v,DR K W' d v→Q v W'.H
 | .ex C=>E (.ref C) none W'.H
def zx7 (E:XK) (Q:Bool→Hp→Prop) (W':Wd):Rs Bool→Prop
 | .ok b=>Q b W'.H
 | .ex C=>E (.ref C) none W'.H
def zyo (E:XK) (Q:List V→Hp→Prop) (W':Wd):Rs (List D)→Prop
 | .ok ds=>∀ vs,DRs K W' ds vs→Q vs W'.H
 | .ex C=>E (.ref C) none W'.H
def zyn (D:Ends) (W':Wd) (σ':St):OutX→Prop
 | .nx=>D.nx σ' W'.H
 | .bk=>D.bk σ' W'.H
 | .ct=>D.ct σ' W'.H
 | .rt d=>∀ v,DR K W' d v→D.rt v W'.H
 | .ex C=>E σ' (.ref C) none W'.H
def tX (ev:EX):TE:=fun σ H Q=>∃ (W:Wd) (Γ:G) (r:Rs D) (μ':M),W.H=H∧Ok K W∧EnvR K W Γ σ∧ev Γ W.μ=some (r,μ')∧∀ W',W'.μ=μ'→Ok K W'→Step W W'→zxy K (E σ) Q W' r
def tXB (ev:BX):TT:=fun σ H Q=>∃ (W:Wd) (Γ:G) (r:Rs Bool) (μ':M),W.H=H∧Ok K W∧EnvR K W Γ σ∧ev Γ W.μ=some (r,μ')∧∀ W',W'.μ=μ'→Ok K W'→Step W W'→zx7 (E σ) Q W' r
def tXL (ev:LX):TA:=fun σ H Q=>∃ (W:Wd) (Γ:G) (r:Rs (List D)) (μ':M),W.H=H∧Ok K W∧EnvR K W Γ σ∧ev Γ W.μ=some (r,μ')∧∀ W',W'.μ=μ'→Ok K W'→Step W W'→zyo K (E σ) Q W' r
def tXS (es:SX):TS:=fun D σ H=>∃ (W:Wd) (Γ:G) (out:OutX) (Γ':G) (μ':M),W.H=H∧Ok K W∧EnvR K W Γ σ∧es Γ W.μ=some (out,Γ',μ')∧∀ W' σ',W'.μ=μ'→Ok K W'→Step W W'→EnvR K W' Γ' σ'→zyn K E D W' σ' out
end
noncomputable def up (ev:EV):EX:=fun Γ μ=>(ev Γ μ).bind fun p=>some (.ok p.1,p.2)
noncomputable def upB (ev:BV):BX:=fun Γ μ=>(ev Γ μ).bind fun p=>some (.ok p.1,p.2)
noncomputable def upL (ev:LV):LX:=fun Γ μ=>(ev Γ μ).bind fun p=>some (.ok p.1,p.2)
noncomputable def upO:Out→OutX
 | .nx=>.nx
 | .bk=>.bk
 | .ct=>.ct
 | .rt d=>.rt d
noncomputable def upS (es:SV):SX:=fun Γ μ=>(es Γ μ).bind fun o=>some (upO o.1,o.2)
noncomputable def upF (f:List D→M→Option (D×M)):FX:=fun ds μ=>(f ds μ).bind fun p=>some (.ok p.1,p.2)
theorem zvp {X:Cx} {es:List Expr} {t:TA} (h:PA X.nox es t):PA X es t:=fun pos pins s σ H Q I hw =>
 wpAny_mono (h pos pins s σ H Q (I.wish _) hw) (fun _ _ ⟨v,H',I',r,q⟩=>⟨v,H',I'.unwish,r,q⟩) fun _ _ z=>False.elim z
theorem zvo {X:Cx} {tg:Expr} {t:TG} (h:PG X.nox tg t):PG X tg t:=fun pins s σ H v u Q I r hw =>
 wpAny_mono (h pins s σ H v u Q (I.wish _) r hw) (fun _ _ ⟨σ',H',I',q⟩=>⟨σ',H',I'.unwish,q⟩) fun _ _ z=>False.elim z
section
variable {X:Cx} {E:St→XK} {K:PySem.W.Frag} {e:Expr} {es:List Expr} {st:Stmt} {pos p:Pos} {ev:EV} {bv:BV} {lv:LV} {sv:SV}
theorem zpz:∀ σ H Q,tXB K E (upB bv) σ H Q→tDB K bv σ H Q:=fun σ H Q h=>by
 refine el4 h fun W Γ r μ' eH ok en e q=>?_;subst eH
 refine z05 e fun p e1 e=>?_
 cases e
 exact ⟨W,Γ,p.1,p.2,rfl,ok,en,e1,fun W' h1 h2 h3=>q W' h1 h2 h3⟩
theorem zpy:∀ σ H Q,tXL K E (upL lv) σ H Q→tDL K lv σ H Q:=fun σ H Q h=>by
 refine el4 h fun W Γ r μ' eH ok en e q=>?_;subst eH
 refine z05 e fun p e1 e=>?_
 cases e
 exact ⟨W,Γ,p.1,p.2,rfl,ok,en,e1,fun v W' h1 h2 h3 h4=>q W' h1 h2 h3 v h4⟩
theorem zi0:∀ D σ H,tXS K E (upS sv) D σ H→tDS K sv D σ H:=fun D σ H h=>by
 refine el5 h fun W Γ o Γ' μ' eH ok en e q=>?_;subst eH
 refine bq fun bG=>?_
 obtain ⟨⟨o1,Γ1,μ1⟩,e1,e⟩:=bnd e
 cases e
 refine bG (⟨W,Γ,o1,_,_,rfl,ok,en,e1,fun W' σ' h1 h2 h3 h4=>?_⟩)
 have:=q W' σ' h1 h2 h3 h4
 cases o1 <;> exact this
theorem zly (h:PT X.nox e (tDB K bv)):PT X e (tXB K E (upB bv)):=z78 h.nox zpz
theorem zg2 (h:PA X.nox es (tDL K lv)):PA X es (tXL K E (upL lv)):=zg0 (zvp h) zpy
noncomputable def zfh (ea:EX) (el:LX):LX:=fun Γ μ=>(ea Γ μ).bind fun p=>match p.1 with
 | .ok d=>(el Γ p.2).bind fun q=>match q.1 with
  | .ok ds=>some (.ok (d::ds),q.2)
  | .ex C=>some (.ex C,q.2)
 | .ex C=>some (.ex C,p.2)
theorem zpo {ea:EX} {el:LX} (ha:PE X e (tX K E ea)) (hr:PA X es (tXL K E el)) (hs:starEach (e::es) X.env=(false,eval e X.env)::starEach es X.env:=by rfl):PA X (e::es) (tXL K E (zfh ea el)):=zg0 (z0q ha hr hs) fun σ H Q h=>by
 refine el4 h fun W Γ r μ' eH ok en e q=>?_;subst eH
 refine bq fun bG=>?_
 obtain ⟨⟨p1,p2⟩,e1,e⟩:=bnd e
 refine bG (⟨W,Γ,p1,p2,rfl,ok,en,e1,fun W1 hμ ok1 s1=>?_⟩)
 cases p1 with
 | ex C=>cases e;exact q W1 hμ ok1 s1
 | ok d =>
  intro x rx
  obtain ⟨⟨q1,q2⟩,e2,e⟩:=bnd e
  refine ⟨W1,Γ,q1,q2,rfl,ok1,en.step ok s1,by rw [hμ];exact e2,fun W2 hμ2 ok2 s2=>?_⟩
  cases q1 with
  | ex C=>cases e;exact q W2 hμ2 ok2 (s1.trans s2)
  | ok ds =>
   cases e
   exact fun vs rvs=>q W2 hμ2 ok2 (s1.trans s2) (x::vs) (.cons (rx.step ok1 s2) rvs)
noncomputable def spX (K:PySem.W.Frag) (f:FX):Sp:=fun vs H Q E=>∃ (W:Wd) (ds:List D) (r:Rs D) (μ':M),W.H=H∧Ok K W∧DRs K W ds vs∧f ds W.μ=some (r,μ')∧∀ W',W'.μ=μ'→Ok K W'→Step W W'→zxy K E Q W' r
noncomputable def vLX (f:FX) (el:LX):EX:=fun Γ μ=>(el Γ μ).bind fun p=>match p.1 with
 | .ok ds=>f ds p.2
 | .ex C=>some (.ex C,p.2)
theorem zia {f:FX} {el:LX} {r:List V→Hp→VK→XK→Prop} (ra:∀ vs H Q E,spX K f vs H Q E→r vs H Q E):∀ σ H Q,tX K E (vLX f el) σ H Q→tXL K E el σ H fun vs H1=>r vs H1 Q (E σ):=fun σ H Q h=>by
 refine el4 h fun W Γ r μ' eH ok en e q=>?_;subst eH
 refine bq fun bG=>?_
 obtain ⟨⟨p1,p2⟩,e1,e⟩:=bnd e
 refine bG (⟨W,Γ,p1,p2,rfl,ok,en,e1,fun W1 hμ ok1 s1=>?_⟩)
 cases p1 with
 | ex C=>cases e;exact q W1 hμ ok1 s1
 | ok ds=>exact fun vs rv=>ra _ _ _ _ ⟨W1,ds,r,μ',rfl,ok1,rv,by rw [hμ];exact e,fun W2 hμ2 ok2 s2=>q W2 hμ2 ok2 (s1.trans s2)⟩
theorem zhg {x:Str} {ps:List Str} {f:FX} {k:Nat} {el:LX} (D:DfX X.prog X.w X.K X.mg X.base k x ps (spX K f)) (hr:Room k X.A) (ha:PA (X.fl E) (e::es) (tXL K E el)) (hg:Gl X x:=by rfl) (hdb:(x==("__debug__" : Str))=false:=by decide)
  (he:starEach (e::es) X.env=(false,eval e X.env)::starEach es X.env:=by rfl) (hpl:(backTo pos (starEach es X.env)).any (·.1)=false:=by rfl):PE (X.fl E) (.Call (.Name x p) (e::es) [] pos) (tX K E (vLX f el)) :=
 z0n (zty D hr ha hg hdb he hpl) (zia fun _ _ _ _ z=>z)
theorem zsu {f:List D→M→Option (D×M)}:∀ vs H Q E,spX K (upF f) vs H Q E→spM K f vs H Q E0:=fun vs H Q E h=>by
 refine bq fun bG=>?_
 obtain ⟨W,ds,r,μ',h1,h2,h3,e,q⟩:=h
 obtain ⟨⟨d,μ1⟩,e1,e⟩:=bnd e
 cases e
 exact bG (⟨W,ds,d,μ1,h1,h2,h3,e1,fun v W' a b c d=>q W' a b c v d⟩)
theorem zy3 {x:Str} {ps:List Str} {f:List D→M→Option (D×M)} {k:Nat} {el:LX} (D:Df X.prog X.w X.K X.mg X.base k x ps (spM K f)) (hr:Room k X.A) (ha:PA X (e::es) (tXL K E el)) (hg:Gl X x:=by rfl) (hdb:(x==("__debug__" : Str))=false:=by decide)
  (he:starEach (e::es) X.env=(false,eval e X.env)::starEach es X.env:=by rfl) (hpl:(backTo pos (starEach es X.env)).any (·.1)=false:=by rfl):PE X (.Call (.Name x p) (e::es) [] pos) (tX K E (vLX (upF f) el)) :=
 z0n (ztz D hr ha hg hdb he hpl) (zia (r:=fun vs H Q _=>spM K f vs H Q E0) zsu)
noncomputable def bTX (ev:EX):BX:=fun Γ μ=>(ev Γ μ).bind fun p=>match p.1 with
 | .ok (.bl b)=>some (.ok b,p.2)
 | .ok _=>none
 | .ex C=>some (.ex C,p.2)
theorem zsc {ev:EX} (h:PE X e (tX K E ev)) (he:∀ whole,isTrue e X.env whole=(do let v ← whole;standAt e.pos;holding [v] (truthy v)):=by intro _;rfl):PT X e (tXB K E (bTX ev)):=z78 (ztk h he) fun σ H Q h=>by
 refine el4 h fun W Γ r μ' eH ok en e q=>?_;subst eH
 refine bq fun bG=>?_
 obtain ⟨⟨p1,p2⟩,e1,e⟩:=bnd e
 refine bG (⟨W,Γ,p1,p2,rfl,ok,en,e1,fun W1 hμ ok1 s1=>?_⟩)
 cases p1 with
 | ex C=>cases e;exact q W1 hμ ok1 s1
 | ok d =>
  intro v rv
  cases d with
  | bl b=>cases e;cases rv;exact ⟨b,rfl,q W1 hμ ok1 s1⟩
  | _=>cases e
noncomputable def zo2 (t:BX):BX:=fun Γ μ=>(t Γ μ).bind fun p=>match p.1 with
 | .ok b=>some (.ok (!b),p.2)
 | .ex C=>some (.ex C,p.2)
theorem zsd {bx:BX} (h:PT X e (tXB K E bx)):PT X (.UnaryOp .Not e pos) (tXB K E (zo2 bx)):=z78 (zot h) fun σ H Q h=>by
 refine el4 h fun W Γ r μ' eH ok en e q=>?_;subst eH
 refine bq fun bG=>?_
 obtain ⟨⟨p1,p2⟩,e1,e⟩:=bnd e
 refine bG (⟨W,Γ,p1,p2,rfl,ok,en,e1,fun W1 hμ ok1 s1=>?_⟩)
 cases p1 with
 | ex C=>cases e;exact q W1 hμ ok1 s1
 | ok b=>cases e;exact q W1 hμ ok1 s1
end
open PyProof.Rows (envOfC)
section
variable {X:Cx} {E:St→XK} {K:PySem.W.Frag} {e:Expr} {es:List Expr} {st:Stmt} {z1w:List Stmt} {pos p:Pos} {sa sb:SX} {ex:EX}
noncomputable def z6k (a b:SX):SX:=fun Γ μ=>(a Γ μ).bind fun o=>match o.1 with
 | .nx=>b o.2.1 o.2.2
 | x=>some (x,o.2)
theorem zbj:PSs X [] (tXS K E (upS sNx)):=z8x z1f zi0
theorem z51 (h1:PS X st (tXS K E sa)):PSs X [st] (tXS K E sa):=zjc h1
theorem z7k (h1:PS X st (tXS K E sa)) (h2:PSs X z1w (tXS K E sb)):PSs X (st::z1w) (tXS K E (z6k sa sb)):=z8x (zf6 h1 h2) fun D σ H h=>by
 refine el5 h fun W Γ o Γ' μ' eH ok en e q=>?_;subst eH
 refine bq fun bG=>?_
 obtain ⟨⟨o1,Γ1,μ1⟩,e1,e⟩:=bnd e
 refine bG (⟨W,Γ,o1,Γ1,μ1,rfl,ok,en,e1,fun W1 σ1 hμ ok1 s1 en1=>?_⟩)
 cases o1 with
 | nx=>exact ⟨W1,Γ1,o,Γ',μ',rfl,ok1,en1,by rw [hμ];exact e,fun W2 σ2 hμ2 ok2 s2 en2=>q W2 σ2 hμ2 ok2 (s1.trans s2) en2⟩
 | bk=>cases e;exact q W1 σ1 hμ ok1 s1 en1
 | ct=>cases e;exact q W1 σ1 hμ ok1 s1 en1
 | rt d=>cases e;exact q W1 σ1 hμ ok1 s1 en1
 | ex C=>cases e;exact q W1 σ1 hμ ok1 s1 en1
noncomputable def zbr (ea:EX):SX:=fun Γ μ=>(ea Γ μ).bind fun p=>match p.1 with
 | .ok _=>some (.nx,Γ,p.2)
 | .ex C=>some (.ex C,Γ,p.2)
theorem zhf (he:PE X e (tX K E ex)) (hs:swapsWith e none pos.line X.env=pure false:=by rfl):PS X (.Expr e pos) (tXS K E (zbr ex)):=z3h (zjd he hs) fun D σ H h=>by
 refine el5 h fun W Γ o Γ' μ' eH ok en e q=>?_;subst eH
 refine bq fun bG=>?_
 obtain ⟨⟨p1,p2⟩,e1,e⟩:=bnd e
 refine bG (⟨W,Γ,p1,p2,rfl,ok,en,e1,fun W1 hμ ok1 s1=>?_⟩)
 cases p1 with
 | ex C=>cases e;exact q W1 σ hμ ok1 s1 (en.step ok s1)
 | ok d=>cases e;exact fun v rv=>q W1 σ hμ ok1 s1 (en.step ok s1)
noncomputable def zg9 (ea:EX):SX:=fun Γ μ=>(ea Γ μ).bind fun p=>match p.1 with
 | .ok d=>some (.rt d,Γ,p.2)
 | .ex C=>some (.ex C,Γ,p.2)
theorem zo6 (he:PE X e (tX K E ex)):PS X (.Return (some e) pos) (tXS K E (zg9 ex)):=z3h (zou he) fun D σ H h=>by
 refine el5 h fun W Γ o Γ' μ' eH ok en e q=>?_;subst eH
 refine bq fun bG=>?_
 obtain ⟨⟨p1,p2⟩,e1,e⟩:=bnd e
 refine bG (⟨W,Γ,p1,p2,rfl,ok,en,e1,fun W1 hμ ok1 s1=>?_⟩)
 cases p1 with
 | ex C=>cases e;exact q W1 σ hμ ok1 s1 (en.step ok s1)
 | ok d=>cases e;exact fun v rv=>q W1 σ hμ ok1 s1 (en.step ok s1) v rv
noncomputable def zih (t:BX) (a b:SX):SX:=fun Γ μ=>(t Γ μ).bind fun p=>match p.1 with
 | .ok c=>if c=true then a Γ p.2 else b Γ p.2
 | .ex C=>some (.ex C,Γ,p.2)
theorem zhe {c:Expr} {a b:List Stmt} {bc:BX} (hc:PT X c (tXB K E bc)) (ha:PSs X a (tXS K E sa)) (hb:PSs X b (tXS K E sb)):PS X (.If c a b pos) (tXS K E (zih bc sa sb)):=z3h (ztm hc ha hb) fun D σ H h=>by
 refine el5 h fun W Γ o Γ' μ' eH ok en e q=>?_;subst eH
 refine bq fun bG=>?_
 obtain ⟨⟨p1,p2⟩,e1,e⟩:=bnd e
 refine bG (⟨W,Γ,p1,p2,rfl,ok,en,e1,fun W1 hμ ok1 s1=>?_⟩)
 cases p1 with
 | ex C=>cases e;exact q W1 σ hμ ok1 s1 (en.step ok s1)
 | ok k =>
  cases k with
  | true =>
   simp only [zx7,if_true]
   exact ⟨W1,Γ,o,Γ',μ',rfl,ok1,en.step ok s1,by rw [hμ];exact e,fun W2 σ2 hμ2 ok2 s2 en2=>q W2 σ2 hμ2 ok2 (s1.trans s2) en2⟩
  | false =>
   simp only [zx7,Bool.false_eq_true,if_false]
   exact ⟨W1,Γ,o,Γ',μ',rfl,ok1,en.step ok s1,by rw [hμ];exact e,fun W2 σ2 hμ2 ok2 s2 en2=>q W2 σ2 hμ2 ok2 (s1.trans s2) en2⟩
noncomputable def zoe (c:BX) (body:SX):Nat→SX
 | 0,_,_=>none
 | n+1,Γ,μ=>(c Γ μ).bind fun p=>match p.1 with
  | .ok k=>if k=true then (body Γ p.2).bind fun o=>match o.1 with
    | .nx=>zoe c body n o.2.1 o.2.2
    | .ct=>zoe c body n o.2.1 o.2.2
    | .bk=>some (.nx,o.2)
    | .rt d=>some (.rt d,o.2)
    | .ex C=>some (.ex C,o.2)
   else some (.nx,Γ,p.2)
  | .ex C=>some (.ex C,Γ,p.2)
noncomputable def zs2 (c:Ck) (g:GV) (body:SX):List D→SX
 | [],Γ,μ=>some (.nx,Γ,μ)
 | d::r,Γ,μ=>(g d Γ μ).bind fun p=>(body p.1 p.2).bind fun o=>match o.1 with
  | .nx=>chk (z2k c o.2.2) (zs2 c g body r o.2.1 o.2.2)
  | .ct=>chk (z2k c o.2.2) (zs2 c g body r o.2.1 o.2.2)
  | .bk=>some (.nx,o.2)
  | .rt d=>some (.rt d,o.2)
  | .ex C=>some (.ex C,o.2)
noncomputable def zsy (iv:IV) (g:GV) (body:SX):SX:=fun Γ μ=>(iv Γ μ).bind fun s=>zs2 s.1.2 g body s.1.1 Γ s.2
theorem zse {tg iter:Expr} {body:List Stmt} {iv:IV} {g:GV} (hp:PassesOwn (model X.prog X.w) X.A X.env X.xe) (hc:X.calm=true) (hi:PI X tg iter (tDI K iv)) (hg:PG X tg (tDG K g)) (hb:PSs X body (tXS K E sb))
  (hs:∀ x,foldedSetIterable iter X.env x=pure x:=by intro _;rfl):PS X (.For tg iter body [] pos) (tXS K E (zsy iv g sb)):=z3h (zov hp hc hi hg hb hs) fun D σ H h=>by
 refine el5 h fun W Γ o Γ' μ' eH ok en e q=>?_;subst eH
 refine bq fun bG=>?_
 obtain ⟨⟨⟨its,c⟩,μ1⟩,e1,e⟩:=bnd e
 refine bG (⟨W,Γ,its,c,μ1,rfl,ok,en,e1,fun J W1 hμ1 ok1 s1 jr=>?_⟩)
 obtain ⟨c1,ds,vs,r1,hj⟩:=jr
 obtain ⟨P,hP⟩:∃ P:Nat→St→Hp→Prop,∀ i σ2 H2,P i σ2 H2↔(i≤its.length∧∃ W2 Γ2,W2.H=H2∧Ok K W2∧Step W1 W2∧EnvR K W2 Γ2 σ2∧z2k c W2.μ∧zs2 c g sb (its.drop i) Γ2 W2.μ=some (o,Γ',μ')):=⟨_,fun _ _ _=>Iff.rfl⟩
 refine ⟨fun i m σ2 H2=>m=its.length - i∧P i σ2 H2,⟨its.length,by simp,(hP _ _ _).2 ⟨Nat.zero_le _,W1,Γ,rfl,ok1,.refl,en.step ok s1,c1,by rw [hμ1];exact e⟩⟩,?_⟩
 rintro i m σ2 H2 ⟨rfl,hi⟩
 refine bq fun hG=>?_
 obtain ⟨hi,W2,Γ2,rfl,ok2,s2,en2,c2,e2⟩:=(hP _ _ _).1 hi
 obtain ⟨hstop,hgo⟩:=hj W2 i ok2 c2 (r1.step ok1 s2)
 by_cases hlt:i<its.length
 ·have hd:its[i]?=some its[i]:=List.getElem?_eq_getElem hlt
  refine bq fun bG=>?_
  obtain ⟨h1,h2⟩:=hgo _ hd
  rw [List.drop_eq_getElem_cons hlt] at e2
  refine z05 e2 fun p e3 e2=>?_
  obtain ⟨⟨o4,Γ4,μ4⟩,e4,e2⟩:=bnd e2
  refine bG (hG (.inr ⟨h1,P (i+1),fun σ' H' hN=>⟨its.length - (i+1),by omega,rfl,hN⟩,fun x H' hy=>?_⟩))
  refine bq fun hF=>?_
  obtain ⟨W3,rfl,hμ3,ok3,s3,r3⟩:=h2 x H' hy
  refine hF ⟨W3,Γ2,its[i],p.1,p.2,rfl,ok3,en2.step ok2 s3,r3,by rw [hμ3];exact e3,fun W4 σ4 hμ4 ok4 s4 en4=>⟨W4,p.1,o4,Γ4,μ4,rfl,ok4,en4,by rw [hμ4];exact e4,fun W5 σ5 hμ5 ok5 s5 en5=>?_⟩⟩
  have st:=s2.trans (s3.trans (s4.trans s5))
  cases o4 with
  | nx=>refine z4c e2 fun hc5 e2=>?_;exact (hP _ _ _).2 ⟨hlt,W5,Γ4,rfl,ok5,st,en5,by rw [hμ5];exact hc5,by rw [hμ5];exact e2⟩
  | ct=>refine z4c e2 fun hc5 e2=>?_;exact (hP _ _ _).2 ⟨hlt,W5,Γ4,rfl,ok5,st,en5,by rw [hμ5];exact hc5,by rw [hμ5];exact e2⟩
  | bk=>cases e2;exact q W5 σ5 hμ5 ok5 (s1.trans st) en5
  | rt d=>cases e2;exact q W5 σ5 hμ5 ok5 (s1.trans st) en5
  | ex C=>cases e2;exact q W5 σ5 hμ5 ok5 (s1.trans st) en5
 ·have e':i=its.length:=by omega
  subst e'
  rw [List.drop_eq_nil_of_le (Nat.le_refl _)] at e2
  cases e2
  exact hG (.inl ⟨hstop (Nat.le_refl _),q W2 σ2 rfl ok2 (s1.trans s2) en2⟩)
noncomputable def zoo (C:Addr) (ea:EV):SX:=fun Γ μ=>(ea Γ μ).bind fun p=>some (.ex C,Γ,p.2)
theorem zlz {ea:EV} {x:Str} {C:Addr} {np cpos:Pos} (he:PE (X.fl E).nox e (tD K ea)) (hm:X.mg x=some (.ref C)) (hC:z3r X.K C) (hg:Gl X x:=by rfl) (hc:X.calm=true:=by rfl) (hd:(x==("__debug__" : Str))=false:=by decide)
  (hs:starEach [e] X.env=[(false,eval e X.env)]:=by rfl):PS (X.fl E) (.Raise (some (.Call (.Name x np) [e] [] cpos)) none pos) (tXS K E (zoo C ea)):=z3h (zf7 (te:=tD K ea) (PE.nox he) hg hm hC hc hd hs) fun D σ H h=>by
 refine el5 h fun W Γ o Γ' μ' eH ok en e q=>?_;subst eH
 refine z05 e fun p1 e1 e=>?_
 cases e
 exact ⟨W,Γ,p1.1,p1.2,rfl,ok,en,e1,fun v W1 hμ ok1 s1 r1=>q W1 σ hμ ok1 s1 (en.step ok s1)⟩
end
noncomputable def zgd (n m:Nat) (es:SX):FX:=fun ds μ=>if ds.length=m then (es (ds.map some++List.replicate (n - ds.length) none) μ).bind fun o=>match o.1 with
  | .rt d=>some (.ok d,o.2.2)
  | .nx=>some (.ok .non,o.2.2)
  | .ex C=>some (.ex C,o.2.2)
  | _=>none
 else none
theorem zs3 {P:Program} {w:World} {K:PySem.W.Frag} {mg:Str→Option Value} {base:Heap} {x qual:Str} {st:Stmt} {f:Addr} {fd:FuncData} {N ps:List Str} {k:Nat} {es:SX} (F:Fun K x qual st f fd) (S:FnScope N ps (z06 st))
  (hb:∀ (cdv:Value) (A:Around) (outer:List Env) (s:Shared) (H:Hp) (E:XK),Room k (A.deeper (envOfC qual (z06 st) s.heap.objs.size f cdv))→PSs ((z4a (CXr P w) P w K mg base N qual (z06 st) f cdv A outer s H E).fl fun _=>E) (z0i st) (tXS K (fun _=>E) es)) :
  FnOk P w K mg base (CXr P w) (k+1) f fd ps (spX K (zgd N.length ps.length es)):=by
 refine F.okX S (fun vs H Q E h=>?_) (fun cdv A outer s H vs Q E hr h=>?_)
 ·obtain ⟨W,ds,r,μ',_,_,rr,e,_⟩:=h
  unfold zgd at e
  split at e
  ·rename_i hl;rw [← rr.length];exact hl
  ·cases e
 ·obtain ⟨W,ds,r,μ',rfl,ok,rr,e,q⟩:=h
  refine ⟨_,hb cdv A outer s W.H E hr,?_⟩
  unfold zgd at e
  split at e
  ·obtain ⟨⟨o,Γ',μ2⟩,e1,e⟩:=bnd e
   refine ⟨W,_,o,Γ',μ2,rfl,ok,zcm rr,e1,fun W' σ' hμ ok' s' en'=>?_⟩
   cases o with
   | rt z=>cases e;exact q W' hμ ok' s'
   | nx=>cases e;exact q W' hμ ok' s' _ .non
   | ex C=>cases e;exact q W' hμ ok' s'
   | bk=>cases e
   | ct=>cases e
  ·cases e
end L3
namespace L2
open PySem PySem.W PySem.Spec PyProof.Rows
def tCs (cs:List V):TA:=fun _ H Q=>Q cs H
section
variable {X:Cx} {a b e:Expr} {es:List Expr} {ta:TE} {p pos:Pos} {c:V} {cs:List V}
theorem zu1:PA X [] (tCs []):=z1g
theorem zvu (ha:PE X e (tC c)) (hr:PA X es (tCs cs)) (hs:starEach (e::es) X.env=(false,eval e X.env)::starEach es X.env:=by rfl):PA X (e::es) (tCs (c::cs)):=z0q ha hr hs
end
end L2
namespace L3
open PySem PySem.Spec L2
section
variable {X:Cx} {K:PySem.W.Frag} {a b e:Expr} {es:List Expr} {ea:EV} {p pos:Pos}
noncomputable def ze7 (cs:List String) (x:D) (μ:M):Option (D×M):=(tyD μ x).bind fun t=>some (.bl (cs.any (zic t)),μ)
theorem zo9 (cs:List String) (ml:X.mg "isinstance" = none) {k:Nat} {tpos:Pos} (ha:PE X a (tD K ea)) (hb:PA X es (tCs (cs.map V.ty))) (hc:cs.all clNames.contains=true:=by decide) (hl:cs.length≤100:=by decide) (hg:Gl X "isinstance" := by rfl)
  (hs:starEach [a,.Tuple es k tpos] X.env=[(false,eval a X.env),(false,eval (.Tuple es k tpos) X.env)]:=by rfl) (hs2:starEach [.Tuple es k tpos] X.env=[(false,eval (.Tuple es k tpos) X.env)]:=by rfl) (hK:X.K=K:=by rfl) :
  PE X (.Call (.Name "isinstance" p) [a,.Tuple es k tpos] [] pos) (tD K (v1 (ze7 cs) ea)):=z0n (zxd K ml ha (zox hb) hg hs hs2 hK) (z4i (by
 intro W x d z μ' Q ok r1 hf q
 refine z05 hf fun t ht hf=>?_
 cases hf
 refine ⟨z41 (by simp;omega),fun p hp=>?_⟩
 have ok2:=z2f (o:=.tup (cs.map V.ty)) ok hp
 have s2:=z0m (W:=W) (o:=.tup (cs.map V.ty)) hp
 refine ⟨x,t,p,cs,rfl,.inl (.inl z0l),?_,hc,q _ (W.lay p _) rfl ok2 s2 (.bl _)⟩
 exact zok (W:=W.lay p (.tup (cs.map V.ty))) ok2 ht (r1.step ok s2)))
end
theorem zvn {X:Cx} {tg iter:Expr} {t:TI} (h:PI X.nox tg iter t):PI X tg iter t:=fun pins s σ H R I hw =>
 wpAny_mono (h pins s σ H R (I.wish _) hw) (fun v s1 z=>wpAny_mono z (fun itv s2 ⟨it,fp,tn,J,H2,e,I2,T,st2,f2,q⟩=>⟨it,fp,tn,J,H2,e,I2.unwish,T,st2,f2,q⟩) fun _ _ z=>False.elim z) fun _ _ z=>False.elim z
section
variable {X:Cx} {E:St→XK} {K:PySem.W.Frag} {e e2:Expr} {es:List Expr} {st:List Stmt} {pos p:Pos} {sv:SV}
theorem zo5 (h:PSs X.nox st (tDS K sv)):PSs X st (tXS K E (upS sv)):=z8x h.nox zi0
noncomputable def zvs:List EV→G→M→Option M
 | [],_,μ=>some μ
 | ea::r,Γ,μ=>(ea Γ μ).bind fun p=>match p.1 with
  | .int i=>if i.natAbs.log2<1920 then zvs r Γ p.2 else none
  | _=>none
def tJ (K:PySem.W.Frag) (l:List EV):St→Hp→(Hp→Prop)→Prop:=fun σ H Q=>∃ (W:Wd) (Γ:G) (μ':M),W.H=H∧Ok K W∧EnvR K W Γ σ∧zvs l Γ W.μ=some μ'∧∀ W',W'.μ=μ'→Ok K W'→Step W W'→Q W'.H
theorem zpn {t t':St→Hp→(Hp→Prop)→Prop} (h:PJ X es t) (hi:∀ σ H Q,t' σ H Q→t σ H Q):PJ X es t':=fun pins s σ H Q acc n a b I hw=>h pins s σ H Q acc n a b I (hi _ _ _ hw)
theorem pj0:PJ X [] (tJ K []):=zpn ztp fun σ H Q h=>by
 refine bq fun bG=>?_
 obtain ⟨W,Γ,μ',rfl,ok,en,e,q⟩:=h
 cases e
 exact bG (q W rfl ok .refl)
theorem zln {x:Str} {j:Nat} {l:List EV} (hx:x.length≤2000) (hr:PJ X es (tJ K l)):PJ X (.Constant (.str x) j p::es) (tJ K l):=zto hx hr
theorem zqj {ea:EV} {l:List EV} (he:PE X e (tD K ea)) (hr:PJ X es (tJ K l)):PJ X (.FormattedValue e (-1) none p::es) (tJ K (ea::l)):=zpn (ztq he hr) fun σ H Q h=>by
 refine bq fun bG=>?_
 obtain ⟨W,Γ,μ',rfl,ok,en,e,q⟩:=h
 refine z05 e fun p1 e1 e=>?_
 refine bG (⟨W,Γ,p1.1,p1.2,rfl,ok,en,e1,fun v W1 hμ ok1 s1 r1=>?_⟩)
 split at e
 ·rename_i i hi
  split at e
  ·rename_i hl
   rw [hi] at r1
   cases r1
   exact ⟨i,rfl,hl,W1,Γ,μ',rfl,ok1,en.step ok s1,by rw [hμ];exact e,fun W2 hμ2 ok2 s2=>q W2 hμ2 ok2 (s1.trans s2)⟩
  ·cases e
 ·cases e
def zwb (K:PySem.W.Frag) (l:List EV):TE:=fun σ H Q=>∃ (W:Wd) (Γ:G) (μ':M),W.H=H∧Ok K W∧EnvR K W Γ σ∧zvs l Γ W.μ=some μ'∧∀ v W',W'.μ=μ'→Ok K W'→Step W W'→Q v W'.H
theorem zm3 {l:List EV} (h:PJ X (e::e2::es) (tJ K l)) (hl:(e::e2::es).length≤400:=by decide):PE X (.JoinedStr (e::e2::es) pos) (zwb K l):=z0n (zqq h hl) fun σ H Q h=>by
 refine bq fun bG=>?_
 obtain ⟨W,Γ,μ',rfl,ok,en,e,q⟩:=h
 exact bG (⟨W,Γ,μ',rfl,ok,en,e,fun W' h1 h2 h3 z=>q _ W' h1 h2 h3⟩)
noncomputable def z5o (C:Addr) (l:List EV):SX:=fun Γ μ=>(zvs l Γ μ).bind fun μ'=>some (.ex C,Γ,μ')
theorem z61 {l:List EV} {x:Str} {C:Addr} {np cpos:Pos} (he:PE (X.fl E).nox e (zwb K l)) (hm:X.mg x=some (.ref C)) (hC:z3r X.K C) (hg:Gl X x:=by rfl) (hc:X.calm=true:=by rfl) (hd:(x==("__debug__" : Str))=false:=by decide)
  (hs:starEach [e] X.env=[(false,eval e X.env)]:=by rfl):PS (X.fl E) (.Raise (some (.Call (.Name x np) [e] [] cpos)) none pos) (tXS K E (z5o C l)):=z3h (zf7 (te:=zwb K l) (PE.nox he) hg hm hC hc hd hs) fun D σ H h=>by
 refine el5 h fun W Γ o Γ' μ' eH ok en e q=>?_;subst eH
 refine z05 e fun μ1 e1 e=>?_
 cases e
 exact ⟨W,Γ,_,rfl,ok,en,e1,fun v W1 hμ ok1 s1=>q W1 σ hμ ok1 s1 (en.step ok s1)⟩
end
end L3
namespace L2
open PySem PySem.W PySem.Spec PySem.Calls PyProof.Rows PySem.SeqAt
section
variable {X:Cx} {a o:Expr} {ta to:TE} {p pos:Pos}
end
end L2
namespace L3
open PySem PySem.Spec L2
section
variable {X:Cx} {K:PySem.W.Frag} {a:Expr} {ea:EV} {p pos:Pos}
end
class Enc (α:Type) where
 d:α→D
 p:α→PyData
 k:Nat
 py_eq:∀ (a:α) (μ:M) (n:Nat),k<n→py n μ (d a)=some (p a)
 lay:∀ a,(p a).canLay0=true
 dep:∀ a,(p a).depth≤k
 eqv:∀ a b,PyData.eqv (p a) (p b)=true↔a=b
noncomputable instance encInt:Enc Int where
 d i:=.int i
 p i:=.int i
 k:=0
 py_eq a μ n h:=by cases n with | zero=>omega | succ n=>rfl
 lay a:=rfl
 dep a:=by simp [PyData.depth]
 eqv a b:=by simp [PyData.eqv]
noncomputable instance encBool:Enc Bool where
 d i:=.bl i
 p i:=.bool i
 k:=0
 py_eq a μ n h:=by cases n with | zero=>omega | succ n=>rfl
 lay a:=rfl
 dep a:=by simp [PyData.depth]
 eqv a b:=by cases a <;> cases b <;> simp [PyData.eqv]
section
variable {α β γ:Type} [Enc α] [Enc β] [Enc γ]
theorem z6z {μ:M} {n:Nat} (h:Enc.k α<n):∀ l:List α,z0s (py n μ) (l.map Enc.d)=some (l.map Enc.p)
 | []=>rfl
 | a::r=>by simp only [List.map_cons,z0s,Enc.py_eq a μ n h,z6z h r,Option.bind_some]
theorem zjs:∀ l:List α,PyData.canLayAll0 (l.map Enc.p)=true
 | []=>rfl
 | a::r=>by simp only [List.map_cons,PyData.canLayAll0,Enc.lay a,zjs r,Bool.and_self]
theorem zku:∀ l:List α,PyData.depthAll (l.map Enc.p)≤Enc.k α
 | []=>by simp [PyData.depthAll]
 | a::r=>by
  have h1:=Enc.dep a
  have h2:=zku r
  simp only [List.map_cons,PyData.depthAll]
  omega
theorem zkq:∀ l m:List α,PyData.eqvAll (l.map Enc.p) (m.map Enc.p)=true↔l=m
 | [],[]=>by simp [PyData.eqvAll]
 | [],_::_=>by simp [PyData.eqvAll]
 | _::_,[]=>by simp [PyData.eqvAll]
 | a::r,b::s=>by
  have h1:=Enc.eqv a b
  have h2:=zkq r s
  simp only [List.map_cons,PyData.eqvAll,Bool.and_eq_true,h1,h2,List.cons.injEq]
noncomputable instance encList:Enc (List α) where
 d l:=.lst (l.map Enc.d)
 p l:=.list (l.map Enc.p)
 k:=Enc.k α+1
 py_eq l μ n h:=by
  cases n with
  | zero=>omega
  | succ n=>rw [zf0,z6z (by omega)];rfl
 lay l:=by simp only [PyData.canLay0];exact zjs l
 dep l:=by
  have:=zku l
  simp only [PyData.depth];omega
 eqv l m:=by simp only [PyData.eqv];exact zkq l m
structure Tri (α β γ:Type) where
 a:α
 b:β
 c:γ
 deriving DecidableEq
noncomputable instance encTri:Enc (Tri α β γ) where
 d t:=.tup [Enc.d t.a,Enc.d t.b,Enc.d t.c]
 p t:=.tuple [Enc.p t.a,Enc.p t.b,Enc.p t.c]
 k:=max (Enc.k α) (max (Enc.k β) (Enc.k γ))+1
 py_eq a μ n h:=by
  cases n with
  | zero=>exact absurd h (Nat.not_lt_zero _)
  | succ n =>
   have h:=Nat.lt_of_succ_lt_succ h
   have h1:=Nat.lt_of_le_of_lt (Nat.le_max_left (Enc.k α) _) h
   have h0:=Nat.lt_of_le_of_lt (Nat.le_max_right (Enc.k α) _) h
   have h2:=Nat.lt_of_le_of_lt (Nat.le_max_left (Enc.k β) _) h0
   have h3:=Nat.lt_of_le_of_lt (Nat.le_max_right (Enc.k β) _) h0
   rw [zth,z0s,Enc.py_eq a.a μ n h1,bs,z0s,Enc.py_eq a.b μ n h2,bs,z0s,Enc.py_eq a.c μ n h3]
   rfl
 lay a:=by
  show ((Enc.p a.a).canLay0&&((Enc.p a.b).canLay0&&((Enc.p a.c).canLay0&&true)))=true
  rw [Enc.lay,Enc.lay,Enc.lay];rfl
 dep a:=Nat.succ_le_succ (Nat.max_le.mpr ⟨Nat.le_trans (Enc.dep a.a) (Nat.le_max_left _ _),Nat.max_le.mpr ⟨Nat.le_trans (Enc.dep a.b) (Nat.le_trans (Nat.le_max_left _ _) (Nat.le_max_right _ _)),Nat.max_le.mpr ⟨Nat.le_trans (Enc.dep a.c) (Nat.le_trans (Nat.le_max_right _ _) (Nat.le_max_right _ _)),Nat.zero_le _⟩⟩⟩)
 eqv a b:=by
  obtain ⟨a1,a2,a3⟩:=a
  obtain ⟨b1,b2,b3⟩:=b
  show (PyData.eqv (Enc.p a1) (Enc.p b1)&&(PyData.eqv (Enc.p a2) (Enc.p b2)&&(PyData.eqv (Enc.p a3) (Enc.p b3)&&true)))=true↔_
  rw [Bool.and_true,Bool.and_eq_true,Bool.and_eq_true,Enc.eqv,Enc.eqv,Enc.eqv,Tri.mk.injEq]
end
section
variable {μ:M} {x y:D} {a b:PyData}
noncomputable def isInt:D→Bool
 | .int _=>true
 | _=>false
noncomputable def ze4:D→Bool
 | .str _=>true
 | _=>false
theorem zpe (h:(isInt x&&isInt y)=false) (h2:(ze4 x&&ze4 y)=false):eqD x y μ=(py 65 μ x).bind fun d=>(py 65 μ y).bind fun e=>if (d.canLay0&&e.canLay0&&decide (d.depth≤64))=true then some (PyData.eqv d e) else none:=by
 cases x <;> cases y <;> first | rfl | (simp [isInt] at h;done) | (simp [ze4] at h2;done)
def Rds (μ:M) (x:D) (α:Type) [Enc α] (a:α):Prop:=py 65 μ x=some (Enc.p a)
variable {α:Type} [Enc α] [DecidableEq α] {s t:α}
theorem zea (hk:Enc.k α≤64) (h1:Rds μ x α s) (h2:Rds μ y α t) (h:(isInt x&&isInt y)=false) (h':(ze4 x&&ze4 y)=false):eqD x y μ=some (decide (s=t)):=by
 rw [zpe h h',h1,h2]
 have l1:=Enc.lay s
 have l2:=Enc.lay t
 have l3:=Enc.dep s
 simp only [Option.bind_some,l1,l2,Bool.and_self,Bool.true_and]
 rw [if_pos (by simp;omega)]
 congr 1
 have:=Enc.eqv s t
 by_cases e:s=t
 ·rw [this.mpr e,decide_eq_true e]
 ·rw [decide_eq_false e]
  cases hq:PyData.eqv (Enc.p s) (Enc.p t) with
  | false=>rfl
  | true=>exact absurd (this.mp hq) e
end
theorem zqb {α:Type} [Enc α] {μ:M} (hk:Enc.k α≤64) (a:α):Rds μ (Enc.d a) α a:=Enc.py_eq a μ 65 (by omega)
theorem zja {n:Nat} {μ:M} {k:Nat} {ds:List D} (h:μ[k]?=some (some (.lst ds))):py (n+1) μ (.ref k)=(z0s (py n μ) ds).bind fun ys=>some (.list ys):=by
 simp only [py,h]
theorem zj9 {n:Nat} {μ:M} {ds:List D}:py (n+1) μ (.scr ds)=(z0s (py n μ) ds).bind fun ys=>some (.list ys):=rfl
theorem ziy {α:Type} [Enc α] {μ:M} {k:Nat} {l:List α} (hk:Enc.k α≤63) (h:μ[k]?=some (some (.lst (l.map Enc.d)))):Rds μ (.ref k) (List α) l:=by
 unfold Rds
 rw [zja h,z6z (by omega)];rfl
section
variable {Γ:G} {μ:M}
@[simp] theorem up_s {ev:EV} {d:D} {μ1:M} (h:ev Γ μ=some (d,μ1)):up ev Γ μ=some (.ok d,μ1):=by unfold up;rw [h];rfl
theorem zma {ev:BV} {b:Bool} {μ1:M} (h:ev Γ μ=some (b,μ1)):upB ev Γ μ=some (.ok b,μ1):=by unfold upB;rw [h];rfl
theorem zi1 {ev:LV} {ds:List D} {μ1:M} (h:ev Γ μ=some (ds,μ1)):upL ev Γ μ=some (.ok ds,μ1):=by unfold upL;rw [h];rfl
theorem zdc {es:SV} {o:Out} {Γ1:G} {μ1:M} (h:es Γ μ=some (o,Γ1,μ1)):upS es Γ μ=some (upO o,Γ1,μ1):=by unfold upS;rw [h];rfl
theorem z7w {a b:SX} {Γ1:G} {μ1:M} (h:a Γ μ=some (.nx,Γ1,μ1)):z6k a b Γ μ=b Γ1 μ1:=by unfold z6k;rw [h];rfl
theorem zk7 {t:BX} {a b:SX} {μ1:M} (h:t Γ μ=some (.ok false,μ1)):zih t a b Γ μ=b Γ μ1:=by unfold zih;rw [h];rfl
theorem zg5 {f:FX} {el:LX} {ds:List D} {μ1:M} (h:el Γ μ=some (.ok ds,μ1)):vLX f el Γ μ=f ds μ1:=by unfold vLX;rw [h];rfl
theorem zko {ea:EX} {d:D} {μ1:M} (h:ea Γ μ=some (.ok d,μ1)):zbr ea Γ μ=some (.nx,Γ,μ1):=by unfold zbr;rw [h];rfl
theorem zop {ea:EX} {d:D} {μ1:M} (h:ea Γ μ=some (.ok d,μ1)):zg9 ea Γ μ=some (.rt d,Γ,μ1):=by unfold zg9;rw [h];rfl
theorem zan {n m:Nat} {es:SX} {ds:List D} {d:D} {Γ1:G} {μ1:M} (hl:ds.length=m) (h:es (ds.map some++List.replicate (n - ds.length) none) μ=some (.rt d,Γ1,μ1)):zgd n m es ds μ=some (.ok d,μ1):=by
 unfold zgd;rw [if_pos hl,h];rfl
theorem zix {n m:Nat} {es:SX} {ds:List D} {Γ1:G} {μ1:M} (hl:ds.length=m) (h:es (ds.map some++List.replicate (n - ds.length) none) μ=some (.nx,Γ1,μ1)):zgd n m es ds μ=some (.ok .non,μ1):=by
 unfold zgd;rw [if_pos hl,h];rfl
end
structure Kp (k:Nat) (μ μ':M):Prop where
 len:μ.length≤μ'.length
 at_:∀ j,j<μ.length→j≠k→μ'[j]?=μ[j]?
theorem Kp.refl {k:Nat} {μ:M}:Kp k μ μ:=⟨Nat.le_refl _,fun _ _ _=>rfl⟩
theorem Kp.trans {k:Nat} {μ μ1 μ2:M} (h:Kp k μ μ1) (g:Kp k μ1 μ2):Kp k μ μ2:=⟨Nat.le_trans h.len g.len,fun j hj n=>(g.at_ j (Nat.lt_of_lt_of_le hj h.len) n).trans (h.at_ j hj n)⟩
theorem Kp.get {k j:Nat} {μ μ':M} {o:Option O} (h:Kp k μ μ') (e:μ[j]?=some o) (n:j≠k):μ'[j]?=some o:=(h.at_ j (List.getElem?_eq_some_iff.mp e).1 n).trans e
theorem zp7 {k:Nat} {μ:M} {o:Option O}:Kp k μ (μ.set k o):=⟨by simp,fun j hj n=>List.getElem?_set_ne (Ne.symm n)⟩
theorem Kp.setN {k j:Nat} {μ μ':M} {o:Option O} (h:Kp k μ μ') (hj:μ.length≤j):Kp k μ (μ'.set j o):=⟨by simpa using h.len,fun i hi n=>by
 rw [List.getElem?_set_ne (by omega)];exact h.at_ i hi n⟩
structure Gr (μ μ':M):Prop where
 len:μ.length≤μ'.length
 at_:∀ j,j<μ.length→μ'[j]?=μ[j]?
theorem Gr.refl {μ:M}:Gr μ μ:=⟨Nat.le_refl _,fun _ _=>rfl⟩
theorem Gr.trans {μ μ1 μ2:M} (h:Gr μ μ1) (g:Gr μ1 μ2):Gr μ μ2:=⟨Nat.le_trans h.len g.len,fun j hj=>(g.at_ j (Nat.lt_of_lt_of_le hj h.len)).trans (h.at_ j hj)⟩
theorem Gr.get {j:Nat} {μ μ':M} {o:Option O} (h:Gr μ μ') (e:μ[j]?=some o):μ'[j]?=some o:=(h.at_ j (List.getElem?_eq_some_iff.mp e).1).trans e
theorem z32 {μ ex:M}:Gr μ (μ++ex):=⟨by simp,fun j hj=>List.getElem?_append_left hj⟩
theorem Gr.kp {k:Nat} {μ μ':M} (h:Gr μ μ'):Kp k μ μ':=⟨h.len,fun j hj _=>h.at_ j hj⟩
end L3
namespace L2
open PySem PySem.Spec PyProof.Rows
end L2
namespace L3
open PySem PySem.Spec L2
section
variable {K:PySem.W.Frag} {W:Wd}
end
section
variable {X:Cx} {K:PySem.W.Frag} {o e value:Expr} {es:List Expr} {f m:Str} {pos pos' tpos apos p:Pos} {eo ev:EV} {el:LV} {C:Addr}
end
noncomputable def dn (f:FX):List D→M→Option (D×M):=fun ds μ=>(f ds μ).bind fun p=>match p.1 with
 | .ok d=>some (d,p.2)
 | .ex _=>none
section
variable {P:Program} {w:World} {K:PySem.W.Frag} {mg:Str→Option Value} {base:Heap} {k:Nat} {f:Addr} {fd:FuncData} {ps:List Str} {g:FX}
theorem zon:∀ vs H Q E E',spM K (dn g) vs H Q E→spX K g vs H Q E':=fun vs H Q E E' h=>by
 obtain ⟨W,ds,d,μ',h1,h2,h3,e,q⟩:=h
 obtain ⟨⟨r,μ1⟩,e1,e⟩:=bnd e
 cases r with
 | ok d' =>
  have e:some (d',μ1)=some (d,μ'):=e
  obtain ⟨rfl,rfl⟩:d'=d∧μ1=μ':=by cases e;exact ⟨rfl,rfl⟩
  exact ⟨W,ds,.ok d',μ1,h1,h2,h3,e1,fun W' a b c v rv=>q v W' a b c rv⟩
 | ex C=>cases e
theorem zx6 (F:FnOk P w K mg base (CXr P w) k f fd ps (spX K g)):FnOk P w K mg base CX0 k f fd ps (spM K (dn g)):=by
 refine ⟨fun vs H Q E h=>F.len vs H Q E (zon vs H Q E E h),fun A outer s H args us vs Q E hr he hb hv hs=>?_⟩
 refine codeAny_mono (F.run A outer s H args us vs Q (fun _ _ _=>False) hr he hb hv (zon vs H Q E _ hs)) fun r s' h=>?_
 cases r with
 | ok fl=>cases fl <;> exact h
 | error e =>
  refine bq fun bG=>?_
  obtain ⟨a,C,H',B,_,_,z⟩:=h
  exact bG (z.elim)
theorem Df.dn {x:Str} (D:DfX P w K mg base k x ps (spX K g)):Df P w K mg base k x ps (spM K (L3.dn g)):=let ⟨f,fd,F,r⟩:=D;⟨f,fd,zx6 F,r⟩
end
section
variable {X:Cx} {E:St→XK} {K:PySem.W.Frag} {o e:Expr} {es:List Expr} {m:Str} {pos apos:Pos} {eo:EX} {el:LX} {C:Addr} {g:FX} {k:Nat} {ps:List Str}
end
end L3
namespace L2
open PySem PySem.W PySem.Spec PyProof.Rows
section
variable {X:Cx} {a o:Expr} {ta to:TE} {p pos:Pos}
theorem zme {ms ns:List Int} (h1:ms.Perm ns) (h2:ms.Pairwise (·≤·)):ms=ns.mergeSort (fun a b=>decide (a≤b)):=by
 have h3:(ns.mergeSort (fun a b=>decide (a≤b))).Pairwise (fun a b=>decide (a≤b)=true):=List.pairwise_mergeSort (fun a b c=>by simp;omega) (fun a b=>by simp;omega) ns
 have h3:(ns.mergeSort (fun a b=>decide (a≤b))).Pairwise (fun a b:Int=>a≤b):=h3.imp fun h=>by simpa using h
 exact List.Perm.eq_of_pairwise (le:=fun a b:Int=>a≤b) (fun a b _ _ h h'=>Int.le_antisymm h h') h2 h3 (h1.trans (List.mergeSort_perm ns _).symm)
theorem zct:z60 X (.builtin "sorted") (fun xs H Q=>∃ (p:Addr) (ns:List Int),xs=[.ref p]∧SqL X.K H p (ns.map V.int)∧ns.length<64∧∀ (l:Addr),H l=none→Q (.ref l) (upd H l (.lst ((ns.mergeSort (fun a b=>decide (a≤b))).map V.int)))):=by
 intro pins s σ H xs us Q I r h
 refine bq fun bG=>?_
 obtain ⟨p,ns,rfl,hq,h64,q⟩:=h
 obtain ⟨u,rfl,ru⟩:=z96 r
 cases ru
 obtain ⟨its,rv,pl,hz⟩:=I.list hq
 have hl:=rv.length
 simp only [List.length_map] at hl
 refine bG (sorted_ints pl.isList (z6s rv) (by omega) fun out ms hm hp ho=>?_)
 obtain ⟨e,he⟩:=sortedAll_at s.heap its out
 have hb:H (s.heap.objs.size+1)=none:=I.hok.fresh (Nat.le_succ _)
 have em:=zme hp ho
 refine ⟨.ref (s.heap.objs.size+1),_,I.laid (t':=s.toks) (a:=s.heap.objs.size+1) (o:=.lst (ms.map V.int)) (fun b o hb=>sortedAll_old hb) (Nat.le_succ _) ?_,rfl,by rw [em];exact q _ hb⟩
 refine ⟨by rw [List.length_map,hp.length_eq];rw [List.length_map] at hz;exact hz,out.toList,e,z7q hm,?_⟩
 exact he
theorem zvh (K:PySem.W.Frag) (mm:X.mg "sorted" = none) (ha:PE X a ta) (hg:Gl X "sorted" := by rfl) (hs:starEach [a] X.env=[(false,eval a X.env)]:=by rfl) (hK:X.K=K:=by rfl) :
  PE X (.Call (.Name "sorted" p) [a] [] pos) (fun σ H Q=>ta σ H fun x H1=>∃ (q:Addr) (ns:List Int),[x]=[.ref q]∧SqL K H1 q (ns.map V.int)∧ns.length<64∧∀ l,H1 l=none→Q (.ref l) (upd H1 l (.lst ((ns.mergeSort (fun a b=>decide (a≤b))).map V.int)))):=by
 subst hK
 exact z39 zct hg mm rfl (z0q ha z1g hs) (he:=hs)
end
end L2
namespace L3
open PySem PySem.Spec L2
section
variable {X:Cx} {K:PySem.W.Frag} {a b o:Expr} {ea eb eo:EV} {p pos apos:Pos}
noncomputable def zmf (ns:List Int):List Int:=ns.mergeSort (fun a b=>decide (a≤b))
noncomputable def z8i (x:D) (μ:M):Option (D×M):=(z3s μ x).bind fun ds=>(z0s inI ds).bind fun ns=>if ns.length<64 then some (.lst ((zmf ns).map D.int),μ) else none
theorem zm1 (mm:X.mg "sorted" = none) (ha:PE X a (tD K ea)) (hg:Gl X "sorted" := by rfl) (hs:starEach [a] X.env=[(false,eval a X.env)]:=by rfl) (hK:X.K=K:=by rfl):PE X (.Call (.Name "sorted" p) [a] [] pos) (tD K (v1 z8i ea)):=z0n (zvh K mm ha hg hs hK) (z4i (by
 intro W x d z μ' Q ok r1 hf q
 refine z05 hf fun ds h1 hf=>?_
 refine z05 hf fun ns h2 hf=>?_
 split at hf
 ·rename_i h64
  cases hf
  obtain ⟨a,vs,rfl,hs,hv⟩:=z31 ok h1 r1
  have:=zb0 h2 hv
  subst this
  exact ⟨a,ns,rfl,hs,h64,fun p hp=>q _ (W.lay p _) rfl (z2f ok hp) (z0m hp) (z8o ok hp (zbb _))⟩
 ·cases hf))
end
end L3
namespace L2
open PySem PySem.W PySem.Spec PyProof.Rows
section
variable {prog:Program} {w:World} {A:Around} {R:Result→Shared→Prop} {I:Addr} {fp wr:List Addr} {n:Nat} {P:Nat→Value→Prop} {St:Nat→Heap→Prop}
end
section
variable {prog:Program} {w:World} {A:Around} {E:Value→Shared→Prop} {s:Shared}
end
section
variable {X:Cx} {a b:Expr} {ta tb:TE} {p pos:Pos}
end
end L2
namespace L3
open PySem PySem.Spec L2
section
variable {X:Cx} {K:PySem.W.Frag} {a b:Expr} {ea eb:EV} {p pos:Pos}
end
section
variable {K:PySem.W.Frag} {W W1 W':Wd} {p:Addr} {x:O} {h:Addr→Prop}
end
section
variable {X:Cx} {K:PySem.W.Frag} {N' own:List Str} {cap:List (Str×Nat)} {scope:Scope} {tg iter elt:Expr} {ifs:List Expr} {pos:Pos} {iv:IV} {g:GV} {tc:BV} {te:EV}
end
end L3
namespace L2
open PySem PySem.W PySem.Spec PyProof.Rows
section
variable {X:Cx} {k:Nat} {x:Str} {ps:List Str} {sp:Sp} {e:Expr} {es:List Expr} {t:TA} {p pos:Pos} {f:Addr} {fd:FuncData}
end
end L2
namespace L3
open PySem PySem.Spec L2
open PyProof.Rows (envOfC)
section
variable {P:Program} {w:World} {K:PySem.W.Frag} {mg:Str→Option Value} {base:Heap}
end
section
variable {X:Cx} {K:PySem.W.Frag} {e:Expr} {es:List Expr} {p pos:Pos}
end
end L3
namespace L2
open PySem PyProof.Rows
section
open PySem.SeqAt
open PySem.AutoSeq1 (wpAny_loadPart')
open PySem.MeetsSeq PySem.MeetsSeq2 PySem.MeetsSeq3
end
end L2
namespace L3
open PySem PySem.Spec L2
section
variable {X:Cx} {K:PySem.W.Frag} {a b:Expr} {ea eb:EV} {pos p p2 pos2:Pos} {k:Nat} {P:Program} {w:World} {mg:Str→Option Value} {base:Heap}
noncomputable def z5u (x:D) (μ:M):Option (D×M):=(z3s μ x).bind fun ds=>(z0s inI ds).bind fun ns=>if ns.length≤4000 then some (.int (z4z ns),μ) else none
theorem zm4 (ml:X.mg "len" = none) (ms:X.mg "set" = none) (ha:PE X a (tD K ea)) (hc:X.calm=true:=by rfl) (hg:Gl X "set" := by rfl) (hg2:Gl X "len" := by rfl) (hs:starEach [a] X.env=[(false,eval a X.env)]:=by rfl)
  (hs2:starEach [.Call (.Name "set" p2) [a] [] pos2] X.env=[(false,eval (.Call (.Name "set" p2) [a] [] pos2) X.env)]:=by rfl) (hK:X.K=K:=by rfl) :
  PE X (.Call (.Name "len" p) [.Call (.Name "set" p2) [a] [] pos2] [] pos) (tD K (v1 z5u ea)):=z0n (zxc ml (zyq K ms ha hc hg hs hK) hg2 hs2) (z4i (r:=fun x H1 Q=>∃ (q:Addr) (ns:List Int),[x]=[.ref q]∧SqL K H1 q (ns.map V.int)∧ns.length≤4000∧∀ d,H1 d=none→∃ (d':Addr) (S:Int→Bool) (n:Nat),[V.ref d]=[.ref d']∧(upd H1 d (.set (zeb ns) (z4z ns))) d'=some (.set S n)∧Q (.int (n:Int)) (upd H1 d (.set (zeb ns) (z4z ns)))) (by
 intro W x d z μ' Q ok r1 hf q
 refine z05 hf fun ds h1 hf=>?_
 refine z05 hf fun ns h2 hf=>?_
 split at hf
 ·rename_i hl
  cases hf
  obtain ⟨a,vs,rfl,hs,hv⟩:=z31 ok h1 r1
  have:=zb0 h2 hv
  subst this
  exact ⟨a,ns,rfl,hs,hl,fun d hd=>⟨d,zeb ns,z4z ns,rfl,by simp [upd],q _ (W.lay d (.set (zeb ns) (z4z ns))) rfl (z2f ok hd) (z0m hd) (.int _)⟩⟩
 ·cases hf))
end
end L3
namespace L2
open PySem PySem.Spec PyProof.Rows
theorem slot_long_next:Slot "longrange_iterator" "__next__" "longrange_iterator.__next__" :=
 .of (owner := "longrange_iterator") (n := "__next__") (by rw [typeLookup_type,builtinLookup_eq_fast];kernel_rfl) (by decide +kernel) (by decide +kernel) (by decide +kernel)
  (by first | exact .inl (by decide +kernel) | exact .inr (by decide +kernel)) (by rw [isSubtype_type];kernel_rfl)
theorem z8m:entryFor table "longrange_iterator.__next__" = some Builtin.«longrange_iterator.__next__»:=entryFor_of_tree (by kernel_rfl)
theorem za4:Manifest.owners.lookup (String.ofList ['r','o','t','a','r','e','t','i','_','e','g','n','a','r','g','n','o','l'].reverse)=some Manifest.sig_longrange_iterator:=by kernel_rfl
theorem z7b (a:Value):argsOk "longrange_iterator.__next__" ⟨[a],[]⟩:=by
 unfold argsOk;rw [signature?_of (id := "longrange_iterator.__next__") (n:=['_','_','t','x','e','n','_','_']) (o:=['r','o','t','a','r','e','t','i','_','e','g','n','a','r','g','n','o','l']) (by kernel_rfl) za4];kernel_rfl
theorem z58:Slot "longrange_iterator" "__iter__" "longrange_iterator.__iter__" :=
 .of (owner := "longrange_iterator") (n := "__iter__") (by rw [typeLookup_type,builtinLookup_eq_fast];kernel_rfl) (by decide +kernel) (by decide +kernel) (by decide +kernel)
  (by first | exact .inl (by decide +kernel) | exact .inr (by decide +kernel)) (by rw [isSubtype_type];kernel_rfl)
theorem z7c (a:Value):argsOk "longrange_iterator.__iter__" ⟨[a],[]⟩:=by
 unfold argsOk;rw [signature?_of (id := "longrange_iterator.__iter__") (n:=['_','_','r','e','t','i','_','_']) (o:=['r','o','t','a','r','e','t','i','_','e','g','n','a','r','g','n','o','l']) (by kernel_rfl) za4];kernel_rfl
theorem z8n:entryFor table "longrange_iterator.__iter__" = some Builtin.«dict_keyiterator.__iter__» :=
 entryFor_alias (id' := "dict_keyiterator.__iter__") (by kernel_rfl) (by first | rfl | decide +kernel | (unfold String.splitOn;simp +decide [String.splitOnAux])) (by decide +kernel) (by kernel_rfl)
def zlf (h:Heap) (it:Addr):Prop:=h.get? it=some { cls:=.type "longrange_iterator",dict:=none,data:=.fields #[rawInt 0,rawInt 0,rawInt 1],slots:=#[] }
section
variable {prog:Program} {w:World} {A:Around} {E:Value→Shared→Prop} {s:Shared}
theorem z6i {r:Addr} {b:Int} {t u v:Tok} {Q:Value→Shared→Prop} (hr:IsRange s.heap r 0 b 1 t u v) (hb:b < -(2 ^ 62)) (hsmall:Builtin.Range.small 0 b 1=false)
  (hQ:Q (.ref s.heap.objs.size) { s with heap:=s.heap.push { cls:=.type "longrange_iterator",data:=.fields #[rawInt 0,rawInt 0,rawInt 1] } }) :
  wpAny (model prog w) A (pyIter (.ref r)) Q E s:=by
 have hT:s.TypeIs (.ref r) "range" := ⟨_,hr,rfl⟩
 refine wpAny_pyIter_slot hT F.slot_range_iter (call_meets F.slot_range_iter hT F.entry_range_iter (F.args_range_iter_1 _)
  (AutoRange.range___iter___range_0 r 0 b 1 t u v (by unfold Builtin.Range.small at hsmall;rw [hsmall];rfl)) ⟨hr,?_⟩)
 unfold Builtin.Range.small at hsmall
 have hz:Builtin.Range.rangeSize 0 b 1=0:=by rw [rangeSize_one];split <;> omega
 simp only [hsmall,Bool.false_eq_true,if_false]
 rw [hz]
 exact ⟨"longrange_iterator",_,⟨_,Heap.get?_push_size _ rfl,rfl⟩,slot_long_next.lookup,hQ⟩
theorem z4g {it:Addr} {Q:Value→Shared→Prop} (hit:zlf s.heap it) (h:Q (.ref it) s):wpAny (model prog w) A (pyIter (.ref it)) Q E s:=by
 have hT:s.TypeIs (.ref it) "longrange_iterator" := ⟨_,hit,rfl⟩
 refine wpAny_pyIter_slot hT z58 (wpAny_call_entry z58 hT z8n ?_ (z7c _))
 show wpAny _ _ (ret (.ref it)) _ _ s
 exact wpAny_pure ⟨_,rfl, "longrange_iterator",_,hT,slot_long_next.lookup,h⟩
theorem z4f {it:Addr} {Q:Option Value→Shared→Prop} (hh:A.handled=none) (hit:zlf s.heap it)
  (hQ:∀ h',Heap.ExtBut it s.heap h'→Q none { s with heap:=h' }):wpAny (model prog w) A (pyNext (.ref it)) Q E s:=by
 have hT:s.TypeIs (.ref it) "longrange_iterator" := ⟨_,hit,rfl⟩
 unfold pyNext
 refine wpAny_bind (wpAny_attempt (wpAny_callSpecial?_slot (name:=Str.ofString "__next__") hT slot_long_next
  (wpAny_call_entry slot_long_next hT z8m ?_ (z7b _))))
 unfold Builtin.«longrange_iterator.__next__»
 wp_walk
 simp only [raiseNew]
 refine wpAny_bind (wpAny_handled ?_)
 first | rw [show A.in1.handled=none from hh] | rw [hh]
 refine wpAny_bind (wpAny_pure (wpAny_throw ?_))
 refine wpAny_bind (wpAny_isInstance (T := "StopIteration") (b:=true) ⟨_,Heap.get?_push_size _ rfl,rfl⟩ isSubtype_stop ?_)
 exact wpAny_pure (hQ _ (((Heap.ExtBut.refl it s.heap).push _).push _))
end
theorem zi4 {P:Program} {w:World} {K:PySem.W.Frag} {tg:Expr} (it:Addr):Turn P w K tg (Itr 0 0) [it] it (fun _ h=>zlf h it) where
 mem:=by simp
 obj:=fun i h st b hb=>by
  have e:b=it:=by simpa using hb
  subst e
  exact ⟨_,st,fun v z=>by
   have z':Data.fields _=Data.cell v:=z
   cases z'⟩
 keep:=fun i h h' st k=>k it (by simp) _ st
 item:=by
  intro X hP hw hK hc i pins s σ H E I hf st hg
  exact absurd (show i<0 from hg) (Nat.not_lt_zero _)
 done:=by
  intro X hP hw hK hc i pins s σ H E I hf st hg
  subst hP hw hK
  refine bq fun bG=>?_
  obtain ⟨f0,f1,f2,f3,f4,f5⟩:=hf it (by simp)
  exact bG (z4f (I.ok.hd hc) st fun h' eb=>⟨rfl,I.turned (t':=s.toks) (fun b o hb e=>eb b o hb e) f0 f1 f3 f4 f5⟩)
 self:=fun _ _ _ _ _ st h=>z4g st h
section
variable {X:Cx} {tg:Expr}
theorem zj0 {pins:List (Addr×Obj)} {σ:St} {H:Hp} {s:Shared} {R:It→Hp→Prop} {E:Value→Shared→Prop} {hi:Int} {t u v:Tok} {tk:Nat} (I:Inv X pins σ H s) (h3:hi < -(2 ^ 62)) (hs:Builtin.Range.small 0 hi 1=false)
  (q:R (Itr 0 0) H):wpAny (model X.prog X.w) X.A (pyIter (.ref s.heap.objs.size)) (PIE X pins σ tg R) E { s with heap:=s.heap.push { cls:=.type "range",data:=.fields #[.int 0 t,.int hi u,.int 1 v] },toks:=tk }:=by
 refine z6i (IsRange.new ..) h3 hs ?_
 have I1:Inv X pins σ H { s with heap:=s.heap.push { cls:=.type "range",data:=.fields #[.int 0 t,.int hi u,.int 1 v] },toks:=tk }:=I.kept fun b o e=>Heap.get?_push_of_some _ e
 refine ⟨(s.heap.push { cls:=.type "range",data:=.fields #[.int 0 t,.int hi u,.int 1 v] }).objs.size,[(s.heap.push { cls:=.type "range",data:=.fields #[.int 0 t,.int hi u,.int 1 v] }).objs.size],_,_,H,rfl,
  I1.kept (t':=tk) fun b o e=>Heap.get?_push_of_some _ e,zi4 _,?_,fun b hb=>?_,q⟩
 ·exact Heap.get?_push_size _ rfl
 ·have e:b=(s.heap.push { cls:=.type "range",data:=.fields #[.int 0 t,.int hi u,.int 1 v] }).objs.size:=by simpa using hb
  subst e
  exact I1.fpOk (Nat.le_refl _) (I1.hok.fresh (Nat.le_refl _))
theorem ziz {pins:List (Addr×Obj)} {σ:St} {H:Hp} {s:Shared} {R:It→Hp→Prop} {E:Value→Shared→Prop} {hi:Int} {t u v:Tok} {tk:Nat} (I:Inv X pins σ H s) (h3:hi < -(2 ^ 62)) (hs:Builtin.Range.small 0 hi 1=true)
  (q:R (Itr 0 0) H):wpAny (model X.prog X.w) X.A (pyIter (.ref s.heap.objs.size)) (PIE X pins σ tg R) E { s with heap:=s.heap.push { cls:=.type "range",data:=.fields #[.int 0 t,.int hi u,.int 1 v] },toks:=tk }:=by
 refine wpAny_pyIter_range (IsRange.new ..) hs ?_
 have I1:Inv X pins σ H { s with heap:=s.heap.push { cls:=.type "range",data:=.fields #[.int 0 t,.int hi u,.int 1 v] },toks:=tk }:=I.kept fun b o e=>Heap.get?_push_of_some _ e
 refine ⟨(s.heap.push { cls:=.type "range",data:=.fields #[.int 0 t,.int hi u,.int 1 v] }).objs.size,[(s.heap.push { cls:=.type "range",data:=.fields #[.int 0 t,.int hi u,.int 1 v] }).objs.size],_,_,H,rfl,
  I1.kept (t':=tk) fun b o e=>Heap.get?_push_of_some _ e,za0 _ 0 0,?_,fun b hb=>?_,q⟩
 ·have e1:(0:Int)+((0:Nat):Int)*1=0:=by simp
  have e2:(((0:Nat):Nat):Int) - ((0:Nat):Int)=Builtin.Range.rangeSize 0 hi 1:=by rw [rangeSize_one];split <;> omega
  show IsRangeIter _ _ (0+((0:Nat):Int)*1) (((0:Nat):Int) - ((0:Nat):Int)) 1
  rw [e1,e2]
  exact Heap.get?_push_size _ rfl
 ·have e:b=(s.heap.push { cls:=.type "range",data:=.fields #[.int 0 t,.int hi u,.int 1 v] }).objs.size:=by simpa using hb
  subst e
  exact I1.fpOk (Nat.le_refl _) (I1.hok.fresh (Nat.le_refl _))
def zx4 (ta:TA):TI:=fun σ H R=>ta σ H fun vs H1=>∃ j:Int,vs=[.int j]∧j<2 ^ 62∧R (Itr 0 j.toNat) H1
theorem zjf {a:Expr} {ta:TA} {p pos:Pos} (hg:Gl X "range") (hm:X.mg "range" = none) (ha:PA X [a] ta) (hs:starEach [a] X.env=[(false,eval a X.env)]:=by rfl):PI X tg (.Call (.Name "range" p) [a] [] pos) (zx4 ta):=by
 intro pins s σ H R I h
 refine Call_ (z76 I hg hm boot_range (PyProof.Rows.callWith_type1 (thn (ha pos pins s σ H _ I h) fun us s1 hm=>?_) hs rfl))
 obtain ⟨vs,H1,I1,r1,q1⟩:=hm
 obtain ⟨j,e,q2,q⟩:=q1
 subst e
 cases r1 with
 | cons r rr =>
  cases rr
  obtain ⟨t,rfl⟩:=r
  by_cases hj:-(2 ^ 62)≤j
  ·exact call_range_1 (zez I1 (by omega) (by omega) hj q2 (by simpa using q))
  ·have e0:j.toNat=0:=by omega
   rw [e0] at q
   cases hsm:Builtin.Range.small 0 j 1 with
   | false=>exact call_range_1 (zj0 I1 (by omega) hsm q)
   | true=>exact call_range_1 (ziz I1 (by omega) hsm q)
end
end L2
namespace L3
open PySem PySem.Spec L2
section
variable {X:Cx} {K:PySem.W.Frag} {ea:EV} {pos:Pos}
noncomputable def zv2 (ea:EV):IV:=fun Γ μ=>(ea Γ μ).bind fun p=>match p.1 with
 | .int j=>if j≤1000000000 then some ((z2z 0 j.toNat,none),p.2) else none
 | _=>none
theorem zhi (mr:X.mg "range" = none) {tg a:Expr} {p:Pos} (ha:PE X a (tD K ea)) (hg:Gl X "range" := by rfl) (hs:starEach [a] X.env=[(false,eval a X.env)]:=by rfl):PI X tg (.Call (.Name "range" p) [a] [] pos) (tDI K (zv2 ea)):=zd3 (zjf hg mr (z0q ha z1g hs) hs) fun σ H R h=>by
 refine el5 h fun W Γ its c μ' eH ok en e q=>?_;subst eH
 refine z05 e fun p1 e1 e=>?_
 split at e
 ·rename_i j hj
  split at e
  ·rename_i hb
   cases e
   refine ⟨W,Γ,p1.1,p1.2,rfl,ok,en,e1,fun v W1 hμ ok1 s1 r1=>?_⟩
   rw [hj] at r1
   cases r1
   exact ⟨j,rfl,by omega,q _ W1 hμ ok1 s1 zfi⟩
  ·cases e
 ·cases e
theorem zv1 {Γ:G} {μ μ1:M} {j:Int} (h:ea Γ μ=some (.int j,μ1)) (hj:j≤1000000000):zv2 ea Γ μ=some ((z2z 0 j.toNat,none),μ1):=by
 unfold zv2;rw [h];show (if j≤1000000000 then _ else _)=_;rw [if_pos hj]
end
noncomputable def Wd.ice (W:Wd) (k:Nat) (d:Addr) (u:HO):Wd:=⟨W.ρ,W.μ.set k none,upd W.H d u,W.hid⟩
section
variable {K:PySem.W.Frag} {W:Wd} {k:Nat} {d:Addr} {x:O} {u:HO}
theorem zt3 {a:Addr} (h:RL (W.ice k d u) a):∃ j o,j≠k∧W.μ[j]?=some (some o)∧W.ρ[j]?=some a:=by
 obtain ⟨j,o,h1,h2⟩:=h
 have h1:(W.μ.set k none)[j]?=some (some o):=h1
 by_cases e:j=k
 ·subst e
  rw [List.getElem?_set] at h1
  simp at h1
 ·rw [List.getElem?_set_ne (Ne.symm e)] at h1
  exact ⟨j,o,e,h1,h2⟩
theorem z7f (hk:W.μ[k]?=some (some x)) (ha:W.ρ[k]?=some d):Step W (W.ice k d u) where
 ρ _ _ h:=h
 live a h:=let ⟨j,o,_,h1,h2⟩:=zt3 h;.inl ⟨j,o,h1,h2⟩
 keep a o e n:=by
  show upd W.H d u a=_
  have hne:a≠d:=fun z=>n ⟨k,x,hk,by rw [z];exact ha⟩
  rw [z0h hne];exact e
 hid:=rfl
 still a h:=by
  show upd W.H d u a≠none
  by_cases z:a=d
  ·subst z;rw [z0l];simp
  ·rw [z0h z];exact h
theorem zue (ok:Ok K W) (hk:W.μ[k]?=some (some x)) (ha:W.ρ[k]?=some d):Ok K (W.ice k d u) where
 len:=by show W.ρ.length=(W.μ.set k none).length;rw [List.length_set];exact ok.len
 nd:=ok.nd
 rs a m:=(z7f (u:=u) hk ha).still a (ok.rs a m)
 at_ j o e:=by
  have e:(W.μ.set k none)[j]?=some (some o):=e
  have hj:j≠k:=fun z=>by subst z;rw [List.getElem?_set] at e;simp at e
  rw [List.getElem?_set_ne (Ne.symm hj)] at e
  obtain ⟨a,ho,h1,h2,h3⟩:=ok.at_ j o e
  have hne:a≠d:=fun z=>by
   subst z
   obtain ⟨l1,g1⟩:=List.getElem?_eq_some_iff.mp h1
   obtain ⟨l2,g2⟩:=List.getElem?_eq_some_iff.mp ha
   have hn:=List.pairwise_iff_getElem.mp ok.nd
   rcases Nat.lt_trichotomy j k with z | z | z
   ·exact hn j k l1 l2 z (g1.trans g2.symm)
   ·exact hj z
   ·exact hn k j l2 l1 z (g2.trans g1.symm)
  refine ⟨a,ho,h1,by show upd W.H d u a=_;rw [z0h hne];exact h2,?_⟩
  have st:=z7f (W:=W) (u:=u) hk ha
  cases o with
  | lst ds=>obtain ⟨vs,e,q⟩:=h3;exact ⟨vs,e,q.step ok st⟩
  | dK kvs=>obtain ⟨vs,e,q⟩:=h3;exact ⟨vs,e,Paired.mapP q fun _ _ ⟨e,q⟩=>⟨e,q.step ok st⟩⟩
  | ins C fs=>obtain ⟨vs,e,q⟩:=h3;exact ⟨vs,e,Paired.mapP q fun _ _ ⟨e,q⟩=>⟨e,q.step ok st⟩⟩
  | exc C=>exact h3
 hd0 a z:=⟨(z7f (u:=u) hk ha).still a (ok.hd0 a z).1,(ok.hd0 a z).2⟩
end
noncomputable def zjy:Key→D
 | .inl i=>.int i
 | .inr x=>.str x
theorem znh {K:PySem.W.Frag} {W:Wd} (k:Key):DR K W (zjy k) (kV k):=by
 cases k with
 | inl i=>exact .int i
 | inr x=>exact .str x
theorem KR.get {K:PySem.W.Frag} {W:Wd} {kvs:List (Key×D)} {vs:List (Key×V)} (r:KR K W kvs vs):∀ {i:Nat} {k:Key} {d:D} {k':Key} {v:V},kvs[i]?=some (k,d)→vs[i]?=some (k',v)→k=k'∧DR K W d v:=by
 induction r with
 | nil=>intro i k d k' v h;simp at h
 | @cons a b l r hd tl ih =>
  intro i k d k' v h h2
  cases i with
  | zero =>
   simp at h h2
   subst h h2
   exact hd
  | succ i=>exact ih (by simpa using h) (by simpa using h2)
noncomputable def zaj (own:List Str) (cap:List (Str×Nat)) (eo:EV) (g:GV) (tc:BV) (tk tv:EV):EV:=fun Γ μ=>(eo Γ μ).bind fun s=>(z9y s.2 s.1).bind fun kvs=>match s.1 with
 | .ref n=>chk (kvs.length≤1000000) ((z5j s.2.length none g tc tk tv (kvs.map fun kv=>.tup [zjy kv.1,kv.2]) (z50 own cap Γ) (s.2.set n none++[some (.dK [])])).bind fun μ'=>some (.ref s.2.length,μ'))
 | _=>none
section
variable {X:Cx} {K:PySem.W.Frag} {N' own:List Str} {cap:List (Str×Nat)} {scope:Scope} {kx vx o:Expr} {ifs elts:List Expr} {pos apos cpos tpos:Pos} {eo:EV} {g:GV} {tc:BV} {tk tv:EV} {n:Nat}
theorem zco {W1:Wd} {J:It} {its:List D} {c:Ck} {Γ0:G} {σ0:St} {μ':M} {p:Addr} {Z:Hp→Prop} (ok1:Ok K W1) (hp:W1.H p=none) (jr:z2k c W1.μ∧∀ (W2:Wd) (i:Nat),Ok K W2→z2k c W2.μ→Step W1 W2→(its.length≤i→J.stop i W2.H)∧∀ d,its[i]?=some d→J.go i W2.H∧∀ x H',J.yld i W2.H x H'→∃ W3,W3.H=H'∧W3.μ=W2.μ∧Ok K W3∧Step W2 W3∧DR K W3 d x) (en:EnvR K W1 Γ0 σ0)
  (c0:z2k c (W1.μ++[some (.dK [])])) (e:z5j W1.μ.length c g tc tk tv its Γ0 (W1.μ++[some (.dK [])])=some μ') (hZ:∀ W',W'.μ=μ'→Ok K W'→Step W1 W'→DR K W' (.ref W1.μ.length) (.ref p)→Z W'.H) :
  z4x J (tDG K g) (tDB K tc) (tD K tk) (tD K tv) p σ0 W1.H Z:=by
 obtain ⟨c1,hj⟩:=jr
 have ok0:=zf9 (x:=.dK []) (o:=.dK []) ok1 hp ⟨[],rfl,.nil⟩
 have s0:=z2n (K:=K) (x:=.dK []) (o:=.dK []) ok1 hp
 have r0:=zfp (K:=K) (W:=W1) (p:=p) (o:=.dK []) (x:=.dK []) ok1
 obtain ⟨P,hP⟩:∃ P:Nat→St→Hp→Prop,∀ i σ2 H2,P i σ2 H2↔(i≤its.length∧∃ W2 Γ2,W2.H=H2∧Ok K W2∧Step (W1.new p (.dK []) (.dK [])) W2∧EnvR K W2 Γ2 σ2∧z2k c W2.μ∧z5j W1.μ.length c g tc tk tv (its.drop i) Γ2 W2.μ=some μ'):=⟨_,fun _ _ _=>Iff.rfl⟩
 refine ⟨fun i m σ2 H2=>m=its.length - i∧P i σ2 H2,?_,?_⟩
 ·exact ⟨its.length,by simp,(hP _ _ _).2 ⟨Nat.zero_le _,W1.new p (.dK []) (.dK []),Γ0,rfl,ok0,.refl,en.step ok1 s0,c0,e⟩⟩
 rintro i m σ2 H2 ⟨rfl,hi⟩
 refine bq fun hG=>?_
 obtain ⟨hi,W2,Γ2,rfl,ok2,s2,en2,c2,e2⟩:=(hP _ _ _).1 hi
 obtain ⟨hstop,hgo⟩:=hj W2 i ok2 c2 (s0.trans s2)
 by_cases hlt:i<its.length
 ·have hd:its[i]?=some its[i]:=List.getElem?_eq_getElem hlt
  refine bq fun bG=>?_
  obtain ⟨h1,h2⟩:=hgo _ hd
  rw [List.drop_eq_getElem_cons hlt] at e2
  refine z05 e2 fun pg e3 e2=>?_
  refine z05 e2 fun pt e4 e2=>?_
  refine bG (hG (.inr ⟨h1,P (i+1),fun σ' H' hN=>⟨its.length - (i+1),by omega,rfl,hN⟩,fun x H' hy=>?_⟩))
  refine bq fun hF=>?_
  obtain ⟨W3,rfl,hμ3,ok3,s3,r3⟩:=h2 x H' hy
  refine hF ⟨W3,Γ2,its[i],pg.1,pg.2,rfl,ok3,en2.step ok2 s3,r3,by rw [hμ3];exact e3,fun W4 σ4 hμ4 ok4 s4 en4=>⟨W4,pg.1,pt.1,pt.2,rfl,ok4,en4,by rw [hμ4];exact e4,fun W5 hμ5 ok5 s5=>?_⟩⟩
  have s25:=s3.trans (s4.trans s5)
  split at e2
  ·rename_i ht
   refine z05 e2 fun py e5 e2=>?_
   refine z05 e2 fun pv e6 e2=>?_
   refine z05 e2 fun k e7 e2=>?_
   refine z05 e2 fun kvs e8 e2=>?_
   refine bq fun bG=>?_
   obtain ⟨⟨hl,c5⟩,e2⟩:=zbf e2
   refine bG (zpa (fun _=>?_) (fun n=>absurd ht n))
   refine ⟨W5,pg.1,py.1,py.2,rfl,ok5,en4.step ok4 s5,by rw [hμ5];exact e5,fun y W6 hμ6 ok6 s6 r6=>⟨W6,pg.1,pv.1,pv.2,rfl,ok6,(en4.step ok4 s5).step ok5 s6,by rw [hμ6];exact e6,fun v W7 hμ7 ok7 s7 r7=>?_⟩⟩
   have s27:=(s25.trans s6).trans s7
   rw [← hμ7] at e8
   have rp:DR K W7 (.ref W1.μ.length) (.ref p):=(r0.step ok0 s2).step ok2 s27
   obtain ⟨n,a,us,hd,hv,hk,ha,hh,hs⟩:=z70 ok7 e8 rp
   cases hd
   cases hv
   obtain ⟨o8,s8⟩:=zos (vs':=zf1 us k v) (kvs':=zdm kvs k pv.1) ok7 hk ha (hs.put k r7)
   exact ⟨us,k,hh,z8a (by rw [← hs.len];omega),ze3 e7 (r6.step ok6 s7),(hP _ _ _).2 ⟨hlt,W7.put W1.μ.length p (.dK (zf1 us k v)) (.dK (zdm kvs k pv.1)),pg.1,rfl,o8,(s2.trans s27).trans s8,(((en4.step ok4 s5).step ok5 s6).step ok6 s7).step ok7 s8,by show z2k c (W7.μ.set _ _);rw [hμ7];exact c5,by show z5j _ c g tc tk tv _ _ (W7.μ.set _ _)=_;rw [hμ7];exact e2⟩⟩
  ·rename_i ht
   refine z4c e2 fun c5 e2=>?_
   refine zpa (fun n=>absurd n ht) (fun _=>?_)
   exact (hP _ _ _).2 ⟨hlt,W5,pg.1,rfl,ok5,s2.trans s25,en4.step ok4 s5,by rw [hμ5];exact c5,by rw [hμ5];exact e2⟩
 ·have e':i=its.length:=by omega
  subst e'
  rw [List.drop_eq_nil_of_le (Nat.le_refl _)] at e2
  cases e2
  exact hG (.inl ⟨hstop (Nat.le_refl _),hZ W2 rfl ok2 (s0.trans s2) (r0.step ok0 s2)⟩)
theorem zm6 (S:CompScope X N' own cap scope) (ho:PE X o (tD K eo))
  (hg:∀ cl C s₀ H₀ ex,PG (z0c X N' scope cl C s₀ H₀ ex) (.Tuple elts n tpos) (tDG K g)) (ht:∀ cl C s₀ H₀ ex,PIf (z0c X N' scope cl C s₀ H₀ ex) ifs (tDB K tc)) (hk:∀ cl C s₀ H₀ ex,PE (z0c X N' scope cl C s₀ H₀ ex) kx (tD K tk)) (hv:∀ cl C s₀ H₀ ex,PE (z0c X N' scope cl C s₀ H₀ ex) vx (tD K tv))
  (hx:∀ e s,X.xe e s→False:=by exact fun _ _ z=>z) (hc:X.calm=true:=by rfl) (hs:∀ x,foldedSetIterable (.Call (.Attribute o "items" apos) [] [] cpos) X.env x=pure x:=by intro _;rfl)
  (hbase:attributeBase o "items" X.env (eval o X.env)=eval o X.env:=by rfl) (hline:(apos.endLine==cpos.line)=true:=by rfl) (hK:X.K=K:=by rfl) :
  PE X (.DictComp kx vx [⟨.Tuple elts n tpos,.Call (.Attribute o "items" apos) [] [] cpos,ifs,0⟩] scope pos) (tD K (zaj own cap eo g tc tk tv)):=z0n (zn1 S (zmw (zrk K ho hbase hline hK)) hg ht hk hv hx hc hs) fun σ H Q h=>by
 refine el4 h fun W Γ d μ' eH ok en e q=>?_;subst eH
 refine z05 e fun p1 e1 e=>?_
 refine z05 e fun kvs e2 e=>?_
 refine ⟨W,Γ,p1.1,p1.2,rfl,ok,en,e1,fun x W1 hμ1 ok1 s1 r1=>?_⟩
 rw [← hμ1] at e2
 refine bq fun bG=>?_
 obtain ⟨k,a,vs,hd,rfl,hk1,ha1,hh,hs1⟩:=z70 ok1 e2 r1
 rw [hd] at e
 refine z4c e fun hl e=>?_
 refine z05 e fun μ2 e3 e=>?_
 cases e
 refine bG (⟨zdd ok1 e2 r1,a,vs,rfl,rfl,hh,fun v hv=>?_⟩)
 have hav:a≠v:=fun z=>by rw [z,hv] at hh;cases hh
 refine ⟨v,a,vs,rfl,z0l,by rw [z0h hav];exact hh,fun ob p hp=>?_⟩
 have okL:=z2f (o:=viO v a) ok1 hv
 have stL:=z0m (W:=W1) (o:=viO v a) hv
 have hkL:(W1.lay v (viO v a)).μ[k]?=some (some (.dK kvs)):=hk1
 have haL:(W1.lay v (viO v a)).ρ[k]?=some a:=ha1
 have okI:=zue (u:=.frz ob (.dK vs)) okL hkL haL
 have stI:=z7f (W:=W1.lay v (viO v a)) (u:=.frz ob (.dK vs)) hkL haL
 have krI:KR K ((W1.lay v (viO v a)).ice k a (.frz ob (.dK vs))) kvs vs:=Paired.mapP hs1 fun _ _ ⟨e,q⟩=>⟨e,(q.step ok1 stL).step okL stI⟩
 have hfI:((W1.lay v (viO v a)).ice k a (.frz ob (.dK vs))).H a=some (.frz ob (.dK vs)):=z0l
 generalize hWI:(W1.lay v (viO v a)).ice k a (.frz ob (.dK vs))=WI at okI stI krI hfI
 have hμI:WI.μ=p1.2.set k none:=by rw [← hWI];show W1.μ.set k none=_;rw [hμ1]
 have hHI:WI.H=upd (upd W1.H v (viO v a)) a (.frz ob (.dK vs)):=by rw [← hWI];rfl
 have hlen:p1.2.length=WI.μ.length:=by rw [hμI,List.length_set]
 have stA:=(s1.trans stL).trans stI
 rw [← hHI] at hp ⊢
 refine zco (c:=none) (its:=kvs.map fun kv=>.tup [zjy kv.1,kv.2]) (Γ0:=z50 own cap Γ) okI hp ⟨trivial,fun W2 i ok2 _ s2=>?_⟩ ((en.step ok stA).cap own cap) trivial (μ':=μ') (by rw [← hlen,hμI];exact e3) fun W' h1 h2 h3 h4=>?_
 ·have hf2:W2.H a=some (.frz ob (.dK vs)):=s2.keep _ _ hfI (okI.nofrz hfI)
  have kr2:KR K W2 kvs vs:=Paired.mapP krI fun _ _ ⟨e,q⟩=>⟨e,q.step okI s2⟩
  refine ⟨fun hi=>⟨hf2,by rw [List.length_map,krI.len] at hi;exact hi⟩,fun dd hdd=>?_⟩
  rw [List.getElem?_map] at hdd
  cases hkv:kvs[i]? with
  | none=>rw [hkv] at hdd;cases hdd
  | some kv =>
   rw [hkv] at hdd
   simp at hdd
   subst hdd
   have hi:i<vs.length:=by rw [← krI.len];exact (List.getElem?_eq_some_iff.mp hkv).1
   refine ⟨⟨hf2,hi⟩,fun x H' hy=>?_⟩
   refine bq fun bG=>?_
   obtain ⟨pp,kk,vv,rfl,hpn,rfl,hvs⟩:=hy
   obtain ⟨ek,rv⟩:=kr2.get (k:=kv.1) (d:=kv.2) hkv hvs
   refine bG (⟨W2.lay pp (.tup [kV kk,vv]),rfl,rfl,z2f ok2 hpn,z0m hpn,?_⟩)
   rw [ek]
   exact zad ok2 hpn (.cons (znh kk) (.cons rv .nil))
 ·refine q _ W' h1 h2 (stA.trans h3) ?_
  rw [hlen]
  exact h4
end
end L3
namespace L2
open PySem PySem.Spec PyProof.Rows
section
open PySem.SeqAt
open PySem.AutoSeq1 (wpAny_loadPart')
open PySem.MeetsSeq PySem.MeetsSeq2 PySem.MeetsSeq3 PySem.SeqRoads2
theorem z8q (l:Addr) (items:Array Value) (n:Nat) (dd:Option Addr) (sl:Array (Option Value)) (x:Value) (e:Nat→Bool) (k:Nat) :
  ∀ i:Nat,items.size - i=k→Meets (Builtin.«list.__contains__.loop» ⟨[.ref l,x,rawInt i],[]⟩)
   (fun A R s=>s.heap.get? l=some { cls:=.type "list",dict:=dd,data:=.seq items n,slots:=sl }∧(∀ j (h:j<items.size),EqAt A.in1 s items[j] x (e j))∧R (.ok (.ret (.bool (((List.range items.size).drop i).any e)))) s):=by
 induction k with
 | zero =>
  intro i hk prog w A R s h
  obtain ⟨hp,g,d,tk,os⟩:=s;obtain ⟨hl,he,h⟩:=h
  wp_walk using wpAny_loadPart' hl
  have hi:items[((i:Nat):Int).toNat]?=none:=by simp;omega
  have hd:(List.range items.size).drop i=[]:=by simp;omega
  rw [hd] at h
  rw [hi]
  wp_walk
  exact h
 | succ k ih =>
  intro i hk prog w A R s h
  obtain ⟨hp,g,d,tk,os⟩:=s;obtain ⟨hl,he,h⟩:=h
  wp_walk using wpAny_loadPart' hl
  have hlt:i<items.size:=by omega
  have hi:items[((i:Nat):Int).toNat]?=some items[i]:=by simp [hlt]
  have hd:(List.range items.size).drop i=i::(List.range items.size).drop (i+1):=by simp [List.drop_eq_getElem_cons,hlt]
  rw [hd,List.any_cons] at h
  rw [hi]
  refine wpAny_bind (he i hlt prog w _ _ ?_)
  cases hb:e i with
  | true =>
   rw [hb] at h
   wp_walk
   exact h
  | false =>
   rw [hb] at h
   have hc:((i:Int)+1)=((i+1:Nat):Int):=by push_cast;rfl
   wp_walk
   rw [hc]
   exact ⟨plainId_quiet plain_contains_loop _,codeAny_builtin entry_contains_loop (by
    rw [Around.under_plainId plain_contains_loop _]
    exact ih (i+1) (by omega) prog w A R _ ⟨hl,he,by simpa using h⟩)⟩
theorem z8b (l:Addr) (items:Array Value) (n:Nat) (dd:Option Addr) (sl:Array (Option Value)) (x:Value) (e:Nat→Bool) :
  Meets (Builtin.«list.__contains__» ⟨[.ref l,x],[]⟩)
   (fun A R s=>s.heap.get? l=some { cls:=.type "list",dict:=dd,data:=.seq items n,slots:=sl }∧(∀ j (h:j<items.size),EqAt A.in1 s items[j] x (e j))∧R (.ok (.ret (.bool ((List.range items.size).any e)))) s):=by
 intro prog w A R s h
 obtain ⟨hp,g,d,tk,os⟩:=s;obtain ⟨hl,he,h⟩:=h
 wp_walk using wpAny_loadPart' hl
 exact ⟨plainId_quiet plain_contains_loop _,codeAny_builtin entry_contains_loop (by
  rw [Around.under_plainId plain_contains_loop _]
  exact z8q l items n dd sl x e _ 0 rfl prog w A R _ ⟨hl,he,by simpa using h⟩)⟩
theorem zk6 {prog:Program} {w:World} {A:Around} {E:Value→Shared→Prop} {s:Shared} {l:Addr} {items:Array Value} {x:Value} {Q:Value→Shared→Prop} (e:Nat→Bool) (hl:s.heap.IsList l items) (he:∀ j (h:j<items.size),EqAt A.in1 s items[j] x (e j))
  (h:Q (.bool ((List.range items.size).any e)) s):wpAny (model prog w) A (compareOp .In x (.ref l)) Q E s:=by
 obtain ⟨⟨cls,dd,data,sl⟩,ho,hc,n,hd⟩:=id hl
 simp only at hc hd
 subst hc hd
 exact in_meets ⟨_,ho,rfl⟩ F.slot_list_contains F.entry_list_contains (F.args_list_contains_2 _ _) (z8b l items n dd sl x e) ⟨ho,he,_,rfl,h⟩
end
theorem zjr:∀ {ds:List PyData} {i:Nat} {d:PyData},PyData.canLayAll0 ds=true→ds[i]?=some d→d.canLay0=true
 | [],i,d,_,h=>by simp at h
 | a::r,0,d,hl,h=>by simp [PyData.canLayAll0] at hl;simp at h;subst h;exact hl.1
 | a::r,i+1,d,hl,h=>by simp [PyData.canLayAll0] at hl;simp at h;exact zjr hl.2 h
theorem zua {X:Cx} (hu:X.A.units+64<cLine):OpR X (compareOp .In) (fun x y H Q=>∃ p xs ds d,y=.ref p∧SqL X.K H p xs∧Dps X.K H xs ds∧Dp X.K H x d∧(PyData.canLayAll0 ds&&d.canLay0&&decide (d.depth≤60))=true∧Q (.bl (ds.any fun e=>PyData.eqv e d)) H):=by
 intro pins s σ H x y v u Q I rx ry h
 refine bq fun bG=>?_
 obtain ⟨p,xs,ds,d,rfl,hq,hs,hd,hc,q⟩:=h
 simp only [Bool.and_eq_true,decide_eq_true_eq] at hc
 cases ry
 obtain ⟨its,rv,pl,hz⟩:=I.list hq
 obtain ⟨as,r1⟩:=hd.reads I rx
 have hl:=rv.length
 have hl2:=hs.len
 refine bG (zk6 (fun j=>PyData.eqv (ds.getD j .none) d) pl.isList (fun j hj=>?_) ?_)
 ·have hj':j<its.length:=by simpa using hj
  have hx:xs[j]?=some (xs[j]'(by omega)):=List.getElem?_eq_getElem (by omega)
  obtain ⟨e,he,hde⟩:=hs.get hx
  obtain ⟨w,hw,rw'⟩:=rv.get hx
  obtain ⟨bs,r2⟩:=hde.reads I rw'
  have e1:its.toArray[j]=w:=by
   have:its[j]?=some (its[j]'hj'):=List.getElem?_eq_getElem hj'
   rw [this] at hw
   cases hw
   simp
  have e2:ds.getD j .none=e:=by simp [List.getD_eq_getElem?_getD,he]
  rw [e1,e2]
  refine SeqAt.eqAt_reads e d _ s _ _ _ _ r2 r1 (zjr hc.1.1 he) hc.1.2 ?_
  have:X.A.in1.units≤X.A.units+1:=by simp [Around.in1]
  have:=Nat.min_le_right e.depth d.depth
  omega
 ·have e:(List.range its.toArray.size).any (fun j=>PyData.eqv (ds.getD j .none) d)=ds.any fun e=>PyData.eqv e d:=by
   have hsz:its.toArray.size=ds.length:=by simp;omega
   rw [hsz,Bool.eq_iff_iff]
   simp only [List.any_eq_true,List.mem_range]
   constructor
   ·rintro ⟨j,hj,e⟩
    exact ⟨ds[j],List.getElem_mem _,by simpa [List.getD_eq_getElem?_getD,List.getElem?_eq_getElem hj] using e⟩
   ·rintro ⟨e,hm,he⟩
    refine bq fun bG=>?_
    obtain ⟨j,hj⟩:=List.getElem?_of_mem hm
    exact bG (⟨j,(List.getElem?_eq_some_iff.mp hj).1,by simpa [List.getD_eq_getElem?_getD,hj] using he⟩)
  rw [e]
  exact ⟨.bl _,H,I,rfl,q⟩
section
variable {X:Cx} {N' own:List Str} {cap:List (Str×Nat)} {scope:Scope} {tg iter elt:Expr} {ifs:List Expr} {pos:Pos} {wi:TI} {g:TG} {tc:TT} {te:TE}
theorem zn2 (S:CompScope X N' own cap scope) (hi:PI X tg iter wi)
  (hg:∀ cl C s₀ H₀ ex,PG (z0c X.nox N' scope cl C s₀ H₀ ex) tg g) (ht:∀ cl C s₀ H₀ ex,PIf (z0c X.nox N' scope cl C s₀ H₀ ex) ifs tc) (he:∀ cl C s₀ H₀ ex,PE (z0c X.nox N' scope cl C s₀ H₀ ex) elt te)
  (hc:X.calm=true:=by rfl) (hs:∀ x,foldedSetIterable iter X.env x=pure x:=by intro _;rfl) :
  PE X (.ListComp elt [⟨tg,iter,ifs,0⟩] scope pos) (zss own cap wi g tc te):=by
 intro pins s σ H Q I h
 rw [eval_ListComp]
 refine bq fun bG=>?_
 obtain ⟨cl,hcl,c1,c2⟩:=z2g (scope:=scope) (env:=X.env) fun y hy hk=>I.ok.has y.1 (S.free y hy hk)
 refine bG (wpAny_comprehension_free (use:=none) rfl hs hcl S.kind S.names (thn (hi pins s σ H _ I h) fun v s1 h1=>thn h1 fun itv s2 h2=>?_))
 refine bq fun bG=>?_
 obtain ⟨it,fp,tn,J,H2,e,I2,T,st2,f2,q⟩:=h2
 subst e
 have S':CompScope X.nox N' own cap scope:=⟨S.kind,S.own1,S.free1,S.names,S.free,S.eq,S.cap⟩
 refine bG (z8t (X:=X.nox) (RR:=fun acc C=>compPost (model X.prog X.w) X.A X.xe none (EP X pins σ Q) acc C) (Z:=fun D=>Q (.ref D)) (fun _ _ z=>z) hc S' hg ht he (I2.wish _) T st2 f2 c1 c2 q ?_)
 intro D C s' m' H' I' hn' f' z
 exact ⟨m',hn',fun h'' hs''=>⟨.ref D,H',I'.unwish.letgo f' hs'',rfl,z⟩⟩
end
end L2
namespace L3
open PySem PySem.Spec L2
section
variable {X:Cx} {K:PySem.W.Frag} {a b:Expr} {ea eb:EV} {pos p:Pos} {k:Nat}
noncomputable def znu (neg:Bool) (x y:D) (μ:M):Option (D×M):=if neg=true then none else (z3s μ y).bind fun ds=>(z0s (py 65 μ) ds).bind fun es=>(py 65 μ x).bind fun d=>if (PyData.canLayAll0 es&&d.canLay0&&decide (d.depth≤60))=true then some (.bl (es.any fun e=>PyData.eqv e d),μ) else none
theorem zte:R2A K (fun x y H Q=>∃ p xs ds d,y=.ref p∧SqL K H p xs∧Dps K H xs ds∧Dp K H x d∧(PyData.canLayAll0 ds&&d.canLay0&&decide (d.depth≤60))=true∧Q (.bl (ds.any fun e=>PyData.eqv e d)) H) (znu false):=by
 intro W x y d e z μ' Q ok r1 r2 hf q
 unfold znu at hf
 rw [if_neg (by simp)] at hf
 refine z05 hf fun ds h1 hf=>?_
 refine z05 hf fun es h2 hf=>?_
 obtain ⟨d',h3,hf⟩:=bnd hf
 split at hf
 ·rename_i hc
  cases hf
  refine bq fun bG=>?_
  obtain ⟨a,vs,rfl,hs,hv⟩:=z31 ok h1 r2
  exact bG (⟨a,vs,es,d',rfl,hs,z5y (zaq ok 65) hv h2,zaq ok _ _ _ _ r1 h3,hc,q _ W rfl ok .refl (.bl _)⟩)
 ·cases hf
theorem zw6 (hr:Room k X.A) (ha:PE X a (tD K ea)) (hb:PE X b (tD K eb)) (hm:behindInMarks .In b=false:=by rfl) (hK:X.K=K:=by rfl):PE X (.Compare a [.In] [b] pos) (tD K (v2 (znu false) ea eb)):=by
 subst hK;exact zm7 (zua hr.units) zte ha hb hm
end
section
variable {X:Cx} {E:St→XK} {K:PySem.W.Frag} {N' own:List Str} {cap:List (Str×Nat)} {scope:Scope} {tg iter elt:Expr} {ifs:List Expr} {pos:Pos} {ex:EX} {g:GV} {tc:BV} {te:EV}
noncomputable def z7r (own:List Str) (cap:List (Str×Nat)) (ex:EX) (g:GV) (tc:BV) (te:EV):EX:=fun Γ μ=>(ex Γ μ).bind fun p=>match p.1 with
 | .ok d=>(lsC p.2 d).bind fun s=>if s.1.length≤1000000 then (z1m s.2 g tc te s.1 (z50 own cap Γ) p.2).bind fun q=>some (.ok (.lst q.1),q.2) else none
 | .ex C=>some (.ex C,p.2)
theorem zo7 (S:CompScope X N' own cap scope) (hi:PE X iter (tX K E ex))
  (hg:∀ cl C s₀ H₀ ex,PG (z0c X.nox N' scope cl C s₀ H₀ ex) tg (tDG K g)) (ht:∀ cl C s₀ H₀ ex,PIf (z0c X.nox N' scope cl C s₀ H₀ ex) ifs (tDB K tc)) (he:∀ cl C s₀ H₀ ex,PE (z0c X.nox N' scope cl C s₀ H₀ ex) elt (tD K te))
  (hc:X.calm=true:=by rfl) (hs:∀ x,foldedSetIterable iter X.env x=pure x:=by intro _;rfl) (hK:X.K=K:=by rfl) :
  PE X (.ListComp elt [⟨tg,iter,ifs,0⟩] scope pos) (tX K E (z7r own cap ex g tc te)):=by
 subst hK
 refine z0n (zn2 S (zjh hi) hg ht he hc hs) fun σ H Q h=>?_
 refine el4 h fun W Γ r μ' eH ok en e q=>?_;subst eH
 refine bq fun bG=>?_
 obtain ⟨⟨r1,μ1⟩,e1,e⟩:=bnd e
 refine bG (⟨W,Γ,r1,μ1,rfl,ok,en,e1,fun W1 hμ1 ok1 s1=>?_⟩)
 cases r1 with
 | ex C =>
  cases e
  exact q W1 hμ1 ok1 s1
 | ok d =>
  intro v rv
  obtain ⟨⟨its,c⟩,e2,e⟩:=bnd e
  split at e
  ·rename_i hl
   refine bq fun bG=>?_
   obtain ⟨⟨rs,μ2⟩,e3,e⟩:=bnd e
   cases e
   obtain ⟨c0,a,rfl,hh⟩:=zjq ok1 (by rw [hμ1];exact e2) rv
   obtain ⟨vs0,h0,_⟩:=hh W1 ok1 c0 rv
   refine bG (⟨a,rfl,⟨_,h0⟩,fun p hp=>?_⟩)
   have jr:JR X.K W1 (Itl X.K a) its c:=⟨c0,[d],[.ref a],.cons rv .nil,fun W2 i ok2 c2 r2=>by
    cases r2 with
    | cons r2 _ =>
     obtain ⟨vs,hs,hv⟩:=hh W2 ok2 c2 r2
     refine ⟨fun hi=>⟨vs,hs,by rw [← hv.length];exact hi⟩,fun d hd=>?_⟩
     refine bq fun bG=>?_
     obtain ⟨v,hv1,hv2⟩:=hv.get hd
     refine bG (⟨⟨vs,v,hs,hv1⟩,fun x H' y=>?_⟩)
     obtain ⟨rfl,y⟩:=y
     have:=y vs hs
     rw [hv1] at this
     cases this
     exact ⟨W2,rfl,rfl,ok2,.refl,hv2⟩⟩
   refine zaf ok1 hp jr ((en.step ok s1).cap own cap) hl (by rw [hμ1];exact e3) fun W' ys hμ' ok' s' hp' hy r=>?_
   refine bq fun bG=>?_
   obtain ⟨a1,a2,a3⟩:=z8s s1 hp ok1 ok' s' hp' hy r
   exact bG (q (W'.show W1.hid) hμ' a1 a2 _ a3)
  ·cases e
end
section
variable {X:Cx} {K:PySem.W.Frag} {a b:Expr} {ea eb:EV} {pos p p2 pos2:Pos} {k:Nat}
end
section
variable {X:Cx} {K:PySem.W.Frag} {a b:Expr} {ea eb:EV} {pos p:Pos} {k:Nat}
noncomputable def z6u (x y:D) (μ:M):Option (D×M):=match y with
 | .lst ys=>onL x μ fun ds=>if ds.length+ys.length≤1000000 then some (.non,ds++ys) else none
 | _=>none
theorem zm5 {o:Expr} {eo:EV} {apos:Pos} (ho:PE X o (tD K eo)) (ha:PE X a (tD K ea)) (hs:starEach [a] X.env=[(false,eval a X.env)]:=by rfl)
  (hbase:attributeBase o "extend" X.env (eval o X.env)=eval o X.env:=by rfl) (hline:(apos.endLine==pos.line)=true:=by rfl) (hK:X.K=K:=by rfl)
  (hfew:((backTo pos (starEach [a] X.env)).all (fun x=>!x.1)&&(backToKw pos (keywordEach [] X.env)).all (fun x=>x.1.isSome)
   && decide ([a].length+([]:List Keyword).length+(if ([]:List Keyword).isEmpty then 0 else 1)<30))=true:=by rfl) :
  PE X (.Call (.Attribute o "extend" apos) [a] [] pos) (tD K (v2l z6u eo ea)):=z0n (znx K ho ha hs hbase hline hK hfew) (zi9 (by
 intro W x y d e z μ' Q ok r1 r2 hf q
 unfold z6u at hf
 split at hf
 ·rename_i ys
  obtain ⟨k,a,ds,vs,ds',rfl,rfl,hk,ha,hh,hs,hg,rfl⟩:=zf8 ok hf r1
  split at hg
  ·rename_i hl
   cases hg
   cases r2 with
   | lst hb hn hz =>
    obtain ⟨o1,s1⟩:=zar (vs:=vs) (vs':=vs++_) ok hk ha (hs.append hz)
    exact ⟨a,_,vs,_,rfl,rfl,hh,hb,z41 (by rw [← hs.length,← hz.length];omega),q _ _ rfl o1 s1 .non⟩
  ·cases hg
 ·cases hf))
end
end L3
namespace L2
open PySem PySem.Spec PyProof.Rows
def SqI (h:Heap) (it l:Addr) (k:Nat) (xs:Array Value):Prop:=(h.IsListIter it l k∧h.IsList l xs)∨(h.IsTupleIter it l k∧h.IsTuple l xs)
theorem SqI.move {h h':Heap} {it l:Addr} {k:Nat} {xs:Array Value} (q:SqI h it l k xs) (h1:∀ o,h.get? it=some o→h'.get? it=some o) (h2:∀ o,h.get? l=some o→h'.get? l=some o):SqI h' it l k xs:=by
 rcases q with ⟨a,b⟩ | ⟨a,b⟩
 ·exact .inl ⟨a.at h1,b.at h2⟩
 ·exact .inr ⟨a.at h1,b.at h2⟩
section
variable {prog:Program} {w:World} {A:Around} {E:Value→Shared→Prop} {s:Shared}
theorem zgl {it t:Addr} {i:Nat} {items:Array Value} {x:Value} {Q:Value→Shared→Prop} (hit:s.heap.IsTupleIter it t i) (ht:s.heap.IsTuple t items) (hx:items[i]?=some x)
  (hQ:∀ h',h'.IsTupleIter it t (i+1)→Heap.SameBut it s.heap h'→Q x { s with heap:=h' }):wpAny (model prog w) A (Builtin.SmallTypes.nextOf (.ref it)) Q E s:=by
 have ty:=hit.typeIs
 obtain ⟨⟨oc,od,oda,osl⟩,ho,hc,hd⟩:=id hit
 obtain ⟨⟨tc,td,tda,tsl⟩,hot,htc,tn,htd⟩:=ht
 simp only at hc hd htc htd
 subst hc hd htc htd
 unfold Builtin.SmallTypes.nextOf
 refine wpAny_bind (wpAny_callSpecial?_slot (name:=Str.ofString "__next__") ty F.slot_tuple_iterator_next (wpAny_call_entry F.slot_tuple_iterator_next ty F.entry_tuple_iterator_next ?_ (F.args_tuple_iterator_next_1 _)))
 show wpAny _ _ (field (.ref it) 0 >>= _) _ _ s
 wp_walk
 have e0:items[((i:Nat):Int).toNat]?=some x:=by simpa using hx
 rw [e0]
 wp_walk
 refine ⟨x,rfl,wpAny_pure (hQ _ ?_ (Heap.SameBut.update ..))⟩
 exact ⟨_,Heap.get?_update_self _ ho rfl,rfl,by simp [Obj.mapFields,rawInt]⟩
theorem z9o {it t:Addr} {i:Nat} {items:Array Value} {Q:Value→Shared→Prop} (hh:A.handled=none) (hit:s.heap.IsTupleIter it t i) (ht:s.heap.IsTuple t items) (hx:items[i]?=none)
  (hE:∀ h' e,Heap.ExtBut it s.heap h'→(∃ o,h'.get? e=some o∧o.cls=.type "StopIteration")→E (.ref e) { s with heap:=h' }):wpAny (model prog w) A (Builtin.SmallTypes.nextOf (.ref it)) Q E s:=by
 have ty:=hit.typeIs
 obtain ⟨⟨oc,od,oda,osl⟩,ho,hc,hd⟩:=id hit
 obtain ⟨⟨tc,td,tda,tsl⟩,hot,htc,tn,htd⟩:=ht
 simp only at hc hd htc htd
 subst hc hd htc htd
 unfold Builtin.SmallTypes.nextOf
 refine wpAny_bind (wpAny_callSpecial?_slot (name:=Str.ofString "__next__") ty F.slot_tuple_iterator_next (wpAny_call_entry F.slot_tuple_iterator_next ty F.entry_tuple_iterator_next ?_ (F.args_tuple_iterator_next_1 _)))
 show wpAny _ _ (field (.ref it) 0 >>= _) _ _ s
 wp_walk
 have e0:items[((i:Nat):Int).toNat]?=none:=by simpa using hx
 rw [e0]
 wp_walk
 simp only [raiseNew]
 refine wpAny_bind (wpAny_handled ?_)
 first | rw [show A.in1.handled=none from hh] | rw [hh]
 refine wpAny_bind (wpAny_pure (wpAny_throw ?_))
 exact hE _ _ (((Heap.SameBut.update ..).extBut.push _).push _) ⟨_,Heap.get?_push_size _ rfl,rfl⟩
theorem z84 {it l:Addr} {k:Nat} {xs:Array Value} {x:Value} {Q:Value→Shared→Prop} (q:SqI s.heap it l k xs) (hne:l≠it) (hx:xs[k]?=some x) (hQ:∀ h',SqI h' it l (k+1) xs→Heap.SameBut it s.heap h'→Q x { s with heap:=h' }) :
  wpAny (model prog w) A (Builtin.SmallTypes.nextOf (.ref it)) Q E s:=by
 rcases q with ⟨a,b⟩ | ⟨a,b⟩
 ·exact wpAny_nextOf_list_item a b hx fun h' a' sb=>hQ h' (.inl ⟨a',b.extBut sb.extBut hne⟩) sb
 ·exact zgl a b hx fun h' a' sb=>hQ h' (.inr ⟨a',b.extBut sb.extBut hne⟩) sb
theorem z69 {it l:Addr} {k:Nat} {xs:Array Value} {Q:Value→Shared→Prop} (hh:A.handled=none) (q:SqI s.heap it l k xs) (hx:xs[k]?=none) (hE:∀ h' e,Heap.ExtBut it s.heap h'→(∃ o,h'.get? e=some o∧o.cls=.type "StopIteration")→E (.ref e) { s with heap:=h' }) :
  wpAny (model prog w) A (Builtin.SmallTypes.nextOf (.ref it)) Q E s:=by
 rcases q with ⟨a,b⟩ | ⟨a,b⟩
 ·exact wpAny_nextOf_list_end hh a b hx hE
 ·exact z9o hh a b hx hE
def Off (z TO i1 i2:Addr) (h h':Heap):Prop:=∀ c o,c≠z→c≠TO→c≠i1→c≠i2→h.get? c=some o→h'.get? c=some o
theorem zsb {z TI TO i1 i2 l1 l2:Addr} {k1 k2:Nat} {xs ys:Array Value} {x y a b:Value} {Q:Value→Shared→Prop} (D:ZipApart z TI TO i1 i2 l1 l2)
  (hz:IsZip s.heap z TI TO .none) (hTI:IsPair s.heap TI (.ref i1) (.ref i2)) (hTO:IsPair s.heap TO a b)
  (h1:SqI s.heap i1 l1 k1 xs) (h2:SqI s.heap i2 l2 k2 ys) (hx:xs[k1]?=some x) (hy:ys[k2]?=some y)
  (fin:∀ h',IsZip h' z TI TO (rawInt s.heap.objs.size)→IsPair h' TO x y→SqI h' i1 l1 (k1+1) xs→SqI h' i2 l2 (k2+1) ys→IsPair h' s.heap.objs.size x y→Off z TO i1 i2 s.heap h'→Q (.ref s.heap.objs.size) { s with heap:=h' }) :
  wpAny (model prog w) A (Builtin.«zip.__next__» ⟨[.ref z],[]⟩) (fun f s'=>∃ v,f=.done (.ret v)∧Q v s') E s:=by
 show wpAny _ _ (field (.ref z) 2 >>= _) _ _ _
 refine wpAny_bind (wpAny_field hz rfl (x:=.bool false) rfl ?_)
 show wpAny _ _ (field (.ref z) 3 >>= _) _ _ _
 refine wpAny_bind (wpAny_field hz rfl (x:=.ref TI) rfl (wpAny_bind (wpAny_seqItems hTI rfl ?_)))
 show wpAny _ _ (Builtin.SmallTypes.ownedTupleIsFree (.ref z) >>= _) _ _ _
 unfold Builtin.SmallTypes.ownedTupleIsFree
 refine wpAny_bind (wpAny_bind (wpAny_field hz rfl (x:=.none) rfl (wpAny_pure ?_)))
 simp only [if_true]
 refine wpAny_bind (wpAny_rule (wpAny_bind (wpAny_field hz rfl (x:=.ref TO) rfl ?_)))
 refine wpAny_bind (wpAny_setField_rec hz (by simp) fun g1 z1 sb1=>wpAny_bind ?_)
 replace z1:IsZip g1 z TI TO .ellipsis:=z1
 simp only [List.zipIdx_cons,List.zipIdx_nil,List.forIn_cons,List.forIn_nil]
 have c1:SqI g1 i1 l1 k1 xs:=h1.move (fun o e=>sb1.extBut _ _ D.i1z e) (fun o e=>sb1.extBut _ _ D.l1z e)
 refine wpAny_bind (wpAny_bind (wpAny_onRaise ?_))
 show wpAny _ _ (Builtin.SmallTypes.nextOf (.ref i1) >>= _) _ _ _
 refine wpAny_bind (z84 (s:={ s with heap:=g1 }) c1 D.l1i1 hx fun g2 c2 sb2=>wpAny_pure ?_)
 replace sb2:Heap.SameBut i1 g1 g2:=sb2
 have t2:IsPair g2 TO a b:=sb2.extBut _ _ D.TOi1 (sb1.extBut _ _ D.TOz hTO)
 refine wpAny_bind (wpAny_seqItems t2 rfl (wpAny_bind (wpAny_updateSeq_pair t2 fun g3 t3 sb3=>?_)))
 replace t3:IsPair g3 TO x b:=t3
 replace sb3:Heap.SameBut TO g2 g3:=sb3
 refine wpAny_bind (wpAny_letGo (wpAny_pure ?_))
 have c3:SqI g3 i2 l2 k2 ys:=h2.move (fun o e=>sb3.extBut _ _ D.TOi2.symm (sb2.extBut _ _ D.i12.symm (sb1.extBut _ _ D.i2z e))) (fun o e=>sb3.extBut _ _ D.l2TO (sb2.extBut _ _ D.l2i1 (sb1.extBut _ _ D.l2z e)))
 refine wpAny_bind (wpAny_bind (wpAny_onRaise ?_))
 show wpAny _ _ (Builtin.SmallTypes.nextOf (.ref i2) >>= _) _ _ _
 refine wpAny_bind (z84 (s:={ s with heap:=g3 }) c3 D.l2i2 hy fun g4 c4 sb4=>wpAny_pure ?_)
 replace sb4:Heap.SameBut i2 g3 g4:=sb4
 have t4:IsPair g4 TO x b:=sb4.extBut _ _ D.TOi2 t3
 refine wpAny_bind (wpAny_seqItems t4 rfl (wpAny_bind (wpAny_updateSeq_pair t4 fun g5 t5 sb5=>?_)))
 replace t5:IsPair g5 TO x y:=t5
 replace sb5:Heap.SameBut TO g4 g5:=sb5
 refine wpAny_bind (wpAny_letGo (wpAny_pure (wpAny_pure (wpAny_bind (wpAny_seqItems t5 rfl (wpAny_bind (wpAny_newTuple ?_)))))))
 have all5:∀ c o,c≠z→c≠TO→c≠i1→c≠i2→s.heap.get? c=some o→g5.get? c=some o:=fun c o n1 n2 n3 n4 e=>sb5.extBut _ _ n2 (sb4.extBut _ _ n4 (sb3.extBut _ _ n2 (sb2.extBut _ _ n3 (sb1.extBut _ _ n1 e))))
 have z5:IsZip g5 z TI TO .ellipsis:=sb5.extBut _ _ D.TOz.symm (sb4.extBut _ _ D.i2z.symm (sb3.extBut _ _ D.TOz.symm (sb2.extBut _ _ D.i1z.symm z1)))
 have q1:SqI g5 i1 l1 (k1+1) xs:=c2.move (fun o e=>sb5.extBut _ _ D.TOi1.symm (sb4.extBut _ _ D.i12 (sb3.extBut _ _ D.TOi1.symm e))) (fun o e=>sb5.extBut _ _ D.l1TO (sb4.extBut _ _ D.l1i2 (sb3.extBut _ _ D.l1TO e)))
 have q2:SqI g5 i2 l2 (k2+1) ys:=c4.move (fun o e=>sb5.extBut _ _ D.TOi2.symm e) (fun o e=>sb5.extBut _ _ D.l2TO e)
 have size5:g5.objs.size=s.heap.objs.size:=by rw [sb5.1,sb4.1,sb3.1,sb2.1,sb1.1]
 have zlt:z<g5.objs.size:=Heap.lt_size z5
 have up6:IsZip (g5.push { cls:=.type "tuple",data:=.seq #[x,y] }) z TI TO .ellipsis:=Heap.get?_push_of_some _ z5
 show wpAny _ _ (Builtin.SmallTypes.ownedTupleHandOut (.ref z) (.ref g5.objs.size) >>= _) _ _ _
 unfold Builtin.SmallTypes.ownedTupleHandOut
 refine wpAny_bind (wpAny_bind (wpAny_setField_rec up6 (by simp) fun g7 z7 sb7=>?_))
 replace z7:IsZip g7 z TI TO (rawInt g5.objs.size):=z7
 refine wpAny_setField_rec z7 (by simp) fun g8 z8 sb8=>wpAny_pure ⟨_,rfl,?_⟩
 replace z8:IsZip g8 z TI TO (rawInt g5.objs.size):=z8
 have last:∀ c o,c≠z→g5.get? c=some o→g8.get? c=some o:=fun c o n e=>sb8.extBut _ _ n (sb7.extBut _ _ n (Heap.get?_push_of_some _ e))
 have new:IsPair g8 g5.objs.size x y:=sb8.extBut _ _ (Nat.ne_of_gt zlt) (sb7.extBut _ _ (Nat.ne_of_gt zlt) (Heap.get?_push_size _ rfl))
 rw [size5] at z8 new ⊢
 have l1z:=D.l1z
 exact fin g8 z8 (last _ _ D.TOz t5) (q1.move (fun o e=>last _ _ D.i1z e) (fun o e=>last _ _ D.l1z e)) (q2.move (fun o e=>last _ _ D.i2z e) (fun o e=>last _ _ D.l2z e)) new fun c o n1 n2 n3 n4 e=>last c o n1 (all5 c o n1 n2 n3 n4 e)
theorem zlw {z TI TO i1 i2 l1 l2:Addr} {k1 k2:Nat} {xs ys:Array Value} {a b:Value} {Q:Fin→Shared→Prop} (hh:A.handled=none) (D:ZipApart z TI TO i1 i2 l1 l2)
  (hz:IsZip s.heap z TI TO .none) (hTI:IsPair s.heap TI (.ref i1) (.ref i2)) (hTO:IsPair s.heap TO a b)
  (h1:SqI s.heap i1 l1 k1 xs) (h2:SqI s.heap i2 l2 k2 ys) (he:xs[k1]?=none∨ys[k2]?=none)
  (fin:∀ h' e,Off z TO i1 i2 s.heap h'→(∃ o,h'.get? e=some o∧o.cls=.type "StopIteration")→E (.ref e) { s with heap:=h' }) :
  wpAny (model prog w) A (Builtin.«zip.__next__» ⟨[.ref z],[]⟩) Q E s:=by
 show wpAny _ _ (field (.ref z) 2 >>= _) _ _ _
 refine wpAny_bind (wpAny_field hz rfl (x:=.bool false) rfl ?_)
 show wpAny _ _ (field (.ref z) 3 >>= _) _ _ _
 refine wpAny_bind (wpAny_field hz rfl (x:=.ref TI) rfl (wpAny_bind (wpAny_seqItems hTI rfl ?_)))
 show wpAny _ _ (Builtin.SmallTypes.ownedTupleIsFree (.ref z) >>= _) _ _ _
 unfold Builtin.SmallTypes.ownedTupleIsFree
 refine wpAny_bind (wpAny_bind (wpAny_field hz rfl (x:=.none) rfl (wpAny_pure ?_)))
 simp only [if_true]
 refine wpAny_bind (wpAny_rule (wpAny_bind (wpAny_field hz rfl (x:=.ref TO) rfl ?_)))
 refine wpAny_bind (wpAny_setField_rec hz (by simp) fun g1 z1 sb1=>wpAny_bind ?_)
 replace z1:IsZip g1 z TI TO .ellipsis:=z1
 simp only [List.zipIdx_cons,List.zipIdx_nil,List.forIn_cons,List.forIn_nil]
 have c1:SqI g1 i1 l1 k1 xs:=h1.move (fun o e=>sb1.extBut _ _ D.i1z e) (fun o e=>sb1.extBut _ _ D.l1z e)
 refine wpAny_bind (wpAny_bind (wpAny_onRaise ?_))
 show wpAny _ _ (Builtin.SmallTypes.nextOf (.ref i1) >>= _) _ _ _
 cases hx:xs[k1]? with
 | none =>
  refine wpAny_bind (z69 (s:={ s with heap:=g1 }) hh c1 hx fun g2 e eb2 ⟨oe,h1e,h2e⟩=>?_)
  have z2:IsZip g2 z TI TO .ellipsis:=eb2 _ _ D.i1z.symm z1
  have ne:e≠z:=fun q=>by subst q;rw [z2] at h1e;cases h1e;simp at h2e
  exact wpAny_setField_rec z2 (by simp) fun g3 _ sb3=>fin g3 e (fun c o n1 _ n3 _ q=>sb3.extBut _ _ n1 (eb2 _ _ n3 (sb1.extBut _ _ n1 q))) ⟨oe,sb3.extBut _ _ ne h1e,h2e⟩
 | some x =>
  have hy:ys[k2]?=none:=he.resolve_left (by rw [hx];simp)
  refine wpAny_bind (z84 (s:={ s with heap:=g1 }) c1 D.l1i1 hx fun g2 c2 sb2=>wpAny_pure ?_)
  replace sb2:Heap.SameBut i1 g1 g2:=sb2
  have t2:IsPair g2 TO a b:=sb2.extBut _ _ D.TOi1 (sb1.extBut _ _ D.TOz hTO)
  refine wpAny_bind (wpAny_seqItems t2 rfl (wpAny_bind (wpAny_updateSeq_pair t2 fun g3 t3 sb3=>?_)))
  replace sb3:Heap.SameBut TO g2 g3:=sb3
  refine wpAny_bind (wpAny_letGo (wpAny_pure ?_))
  have c3:SqI g3 i2 l2 k2 ys:=h2.move (fun o e=>sb3.extBut _ _ D.TOi2.symm (sb2.extBut _ _ D.i12.symm (sb1.extBut _ _ D.i2z e))) (fun o e=>sb3.extBut _ _ D.l2TO (sb2.extBut _ _ D.l2i1 (sb1.extBut _ _ D.l2z e)))
  refine wpAny_bind (wpAny_bind (wpAny_onRaise ?_))
  show wpAny _ _ (Builtin.SmallTypes.nextOf (.ref i2) >>= _) _ _ _
  refine wpAny_bind (z69 (s:={ s with heap:=g3 }) hh c3 hy fun g4 e eb4 ⟨oe,h1e,h2e⟩=>?_)
  have z4:IsZip g4 z TI TO .ellipsis:=eb4 _ _ D.i2z.symm (sb3.extBut _ _ D.TOz.symm (sb2.extBut _ _ D.i1z.symm z1))
  have ne:e≠z:=fun q=>by subst q;rw [z4] at h1e;cases h1e;simp at h2e
  exact wpAny_setField_rec z4 (by simp) fun g5 _ sb5=>fin g5 e (fun c o n1 n2 n3 n4 q=>sb5.extBut _ _ n1 (eb4 _ _ n4 (sb3.extBut _ _ n2 (sb2.extBut _ _ n3 (sb1.extBut _ _ n1 q))))) ⟨oe,sb5.extBut _ _ ne h1e,h2e⟩
theorem zdl {z TI TO i1 i2 l1 l2:Addr} {k1 k2:Nat} {xs ys:Array Value} {x y a b:Value} {Q:Option Value→Shared→Prop} (D:ZipApart z TI TO i1 i2 l1 l2)
  (hz:IsZip s.heap z TI TO .none) (hTI:IsPair s.heap TI (.ref i1) (.ref i2)) (hTO:IsPair s.heap TO a b)
  (h1:SqI s.heap i1 l1 k1 xs) (h2:SqI s.heap i2 l2 k2 ys) (hx:xs[k1]?=some x) (hy:ys[k2]?=some y)
  (fin:∀ h',IsZip h' z TI TO (rawInt s.heap.objs.size)→IsPair h' TO x y→SqI h' i1 l1 (k1+1) xs→SqI h' i2 l2 (k2+1) ys→IsPair h' s.heap.objs.size x y→Off z TO i1 i2 s.heap h'→Q (some (.ref s.heap.objs.size)) { s with heap:=h' }) :
  wpAny (model prog w) A (pyNext (.ref z)) Q E s:=by
 have ty:s.TypeIs (.ref z) "zip" := ⟨_,hz,rfl⟩
 unfold pyNext
 exact wpAny_bind (wpAny_attempt (wpAny_callSpecial?_slot (name:=Str.ofString "__next__") ty F.slot_zip_next (wpAny_call_entry F.slot_zip_next ty F.entry_zip_next
  (zsb D hz hTI hTO h1 h2 hx hy fun h' a1 a2 a3 a4 a5 a6=>wpAny_pure (fin h' a1 a2 a3 a4 a5 a6)) (F.args_zip_next_1 _))))
theorem z80 {z TI TO i1 i2 l1 l2:Addr} {k1 k2:Nat} {xs ys:Array Value} {a b:Value} {Q:Option Value→Shared→Prop} (hh:A.handled=none) (D:ZipApart z TI TO i1 i2 l1 l2)
  (hz:IsZip s.heap z TI TO .none) (hTI:IsPair s.heap TI (.ref i1) (.ref i2)) (hTO:IsPair s.heap TO a b)
  (h1:SqI s.heap i1 l1 k1 xs) (h2:SqI s.heap i2 l2 k2 ys) (he:xs[k1]?=none∨ys[k2]?=none)
  (fin:∀ h',Off z TO i1 i2 s.heap h'→Q none { s with heap:=h' }):wpAny (model prog w) A (pyNext (.ref z)) Q E s:=by
 have ty:s.TypeIs (.ref z) "zip" := ⟨_,hz,rfl⟩
 unfold pyNext
 refine wpAny_bind (wpAny_attempt (wpAny_callSpecial?_slot (name:=Str.ofString "__next__") ty F.slot_zip_next (wpAny_call_entry F.slot_zip_next ty F.entry_zip_next (zlw hh D hz hTI hTO h1 h2 he fun h' e hk ⟨o,e1,e2⟩=>?_) (F.args_zip_next_1 _))))
 refine wpAny_bind (wpAny_isInstance (T := "StopIteration") (b:=true) ⟨o,e1,e2⟩ isSubtype_stop ?_)
 exact wpAny_pure (fin h' hk)
def SqO (h:Heap) (l:Addr) (xs:Array Value) (c:String):Prop:=(c = "list_iterator" ∧ h.IsList l xs)∨(c = "tuple_iterator" ∧ h.IsTuple l xs)
theorem zbv {l:Addr} {xs:Array Value} {c:String} {Q:Value→Shared→Prop} (q:SqO s.heap l xs c) (hQ:Q (.ref s.heap.objs.size) { s with heap:=s.heap.push { cls:=.type c,data:=.fields #[.ref l,.int 0 0] } }):wpAny (model prog w) A (pyIter (.ref l)) Q E s:=by
 rcases q with ⟨rfl,h⟩ | ⟨rfl,h⟩
 ·exact wpAny_pyIter_list h hQ
 ·exact wpAny_pyIter_tuple h hQ
theorem SqO.at {h h':Heap} {l:Addr} {xs:Array Value} {c:String} (q:SqO h l xs c) (k:∀ o,h.get? l=some o→h'.get? l=some o):SqO h' l xs c:=by
 rcases q with ⟨e,a⟩ | ⟨e,a⟩
 ·exact .inl ⟨e,a.at k⟩
 ·exact .inr ⟨e,a.at k⟩
theorem SqO.it {h:Heap} {l it:Addr} {xs:Array Value} {c:String} (q:SqO h l xs c) (k:h.get? it=some { cls:=.type c,data:=.fields #[.ref l,.int 0 0] }):SqI h it l 0 xs:=by
 rcases q with ⟨rfl,a⟩ | ⟨rfl,a⟩
 ·exact .inl ⟨⟨_,k,rfl,rfl⟩,a⟩
 ·exact .inr ⟨⟨_,k,rfl,rfl⟩,a⟩
end
noncomputable abbrev zH1 (h:Heap) (l1:Addr) (c1:String):Heap:=h.push { cls:=.type c1,data:=.fields #[.ref l1,.int 0 0] }
noncomputable abbrev zH2 (h:Heap) (l1 l2:Addr) (c1 c2:String):Heap:=(zH1 h l1 c1).push { cls:=.type c2,data:=.fields #[.ref l2,.int 0 0] }
noncomputable abbrev zH3 (h:Heap) (l1 l2:Addr) (c1 c2:String):Heap:=(zH2 h l1 l2 c1 c2).push { cls:=.type "tuple",data:=.seq #[.ref h.objs.size,.ref (zH1 h l1 c1).objs.size] }
noncomputable abbrev zH4 (h:Heap) (l1 l2:Addr) (c1 c2:String):Heap:=(zH3 h l1 l2 c1 c2).push { cls:=.type "tuple",data:=.seq #[.none,.none] }
noncomputable abbrev zH5 (h:Heap) (l1 l2:Addr) (c1 c2:String):Heap:=(zH4 h l1 l2 c1 c2).push { cls:=.type "zip",data:=.fields #[.none,.bool false,.bool false,.ref (zH2 h l1 l2 c1 c2).objs.size,.ref (zH3 h l1 l2 c1 c2).objs.size] }
theorem zlx (l1 l2:Addr) (xs ys:Array Value) (c1 c2:String) :
  Meets (Builtin.«zip.__new__» ⟨[.type "zip",.ref l1,.ref l2],[]⟩) (fun _ R s=>SqO s.heap l1 xs c1∧SqO s.heap l2 ys c2 ∧
   R (.ok (.ret (.ref (zH4 s.heap l1 l2 c1 c2).objs.size))) { s with heap:=zH5 s.heap l1 l2 c1 c2 }) :=
 .of_wp fun prog w A R s h=>by
  obtain ⟨hp,g,d,tk,os⟩:=s;obtain ⟨q1,q2,h⟩:=h
  have hsub:=sub_zip
  have r1:SqO (Shared.heap ⟨hp,g,d,tk,os⟩) l1 xs c1:=q1
  have r2:SqO (Shared.heap ⟨zH1 hp l1 c1,g,d,tk,os⟩) l2 ys c2:=q2.at fun o e=>Heap.get?_push_of_some _ e
  wp_walk using zbv r1,zbv r2
  exact ⟨_,rfl,h⟩
section
variable {prog:Program} {w:World} {A:Around} {E:Value→Shared→Prop} {s:Shared}
theorem zl1 {l1 l2:Addr} {xs ys:Array Value} {c1 c2:String} {Q:Value→Shared→Prop} (q1:SqO s.heap l1 xs c1) (q2:SqO s.heap l2 ys c2)
  (h:∀ h',IsZip h' (s.heap.objs.size+4) (s.heap.objs.size+2) (s.heap.objs.size+3) .none→IsPair h' (s.heap.objs.size+2) (.ref s.heap.objs.size) (.ref (s.heap.objs.size+1)) →
   IsPair h' (s.heap.objs.size+3) .none .none→SqI h' s.heap.objs.size l1 0 xs→SqI h' (s.heap.objs.size+1) l2 0 ys→(∀ c o,s.heap.get? c=some o→h'.get? c=some o)→Q (.ref (s.heap.objs.size+4)) { s with heap:=h' }) :
  wpAny (model prog w) A (call (.type "zip") [.ref l1,.ref l2]) Q E s:=by
 refine callType_new F.called_zip (by decide) (F.typeCall_zip_2 _ _) (F.newCall_zip_2 _ _) (fun obj=>F.args_object_init_3 obj _ _) F.entry_zip_new (zlx l1 l2 xs ys c1 c2) ⟨q1,q2,?_⟩
 have z1:(zH1 s.heap l1 c1).objs.size=s.heap.objs.size+1:=Heap.size_push ..
 have z2:(zH2 s.heap l1 l2 c1 c2).objs.size=s.heap.objs.size+2:=by rw [Heap.size_push,z1]
 have z3:(zH3 s.heap l1 l2 c1 c2).objs.size=s.heap.objs.size+3:=by rw [Heap.size_push,z2]
 have z4:(zH4 s.heap l1 l2 c1 c2).objs.size=s.heap.objs.size+4:=by rw [Heap.size_push,z3]
 have up:∀ c o,s.heap.get? c=some o→(zH5 s.heap l1 l2 c1 c2).get? c=some o:=fun c o x=>Heap.get?_push_of_some _ (Heap.get?_push_of_some _ (Heap.get?_push_of_some _ (Heap.get?_push_of_some _ (Heap.get?_push_of_some _ x))))
 have p5:(zH5 s.heap l1 l2 c1 c2).get? (zH4 s.heap l1 l2 c1 c2).objs.size=some _:=Heap.get?_push_size _ rfl
 have p4:(zH5 s.heap l1 l2 c1 c2).get? (zH3 s.heap l1 l2 c1 c2).objs.size=some _:=Heap.get?_push_of_some _ (Heap.get?_push_size _ rfl)
 have p3:(zH5 s.heap l1 l2 c1 c2).get? (zH2 s.heap l1 l2 c1 c2).objs.size=some _:=Heap.get?_push_of_some _ (Heap.get?_push_of_some _ (Heap.get?_push_size _ rfl))
 have p2:(zH5 s.heap l1 l2 c1 c2).get? (zH1 s.heap l1 c1).objs.size=some { cls:=.type c2,data:=.fields #[.ref l2,.int 0 0] }:=Heap.get?_push_of_some _ (Heap.get?_push_of_some _ (Heap.get?_push_of_some _ (Heap.get?_push_size _ rfl)))
 have p1:(zH5 s.heap l1 l2 c1 c2).get? s.heap.objs.size=some { cls:=.type c1,data:=.fields #[.ref l1,.int 0 0] }:=Heap.get?_push_of_some _ (Heap.get?_push_of_some _ (Heap.get?_push_of_some _ (Heap.get?_push_of_some _ (Heap.get?_push_size _ rfl))))
 show _∧_
 rw [z2,z3,z4] at p5
 rw [z1,z2] at p3
 rw [z3] at p4
 rw [z1] at p2
 rw [z4]
 exact ⟨⟨_,p5,rfl⟩,h _ p5 p3 p4 ((q1.at (up l1)).it p1) ((q2.at (up l2)).it p2) up⟩
end
def SqX (K:PySem.W.Frag) (H:Hp) (a:Addr) (xs:List V):Prop:=SqL K H a xs∨SqT K H a xs
section
variable {X:Cx} {pins:List (Addr×Obj)} {σ:St} {H:Hp} {s:Shared}
theorem Inv.sqx_inj (I:Inv X pins σ H s) {a:Addr} {xs ys:List V} (h:SqX X.K H a xs) (h':SqX X.K H a ys):xs=ys:=by
 have no:∀ {xs ys:List V},SqL X.K H a xs→SqT X.K H a ys→False:=fun h h'=>by
  obtain ⟨_,_,⟨o,n,e1,e2,_⟩,_⟩:=I.list h
  obtain ⟨_,_,⟨o',e1',e2',_⟩,_⟩:=I.tuple h'
  rw [e1] at e1'
  cases e1'
  rw [e2] at e2'
  exact absurd e2' (by decide)
 rcases h with h | h <;> rcases h' with h' | h'
 ·exact I.list_inj h h'
 ·exact (no h h').elim
 ·exact (no h' h).elim
 ·exact I.tuple_inj h h'
end
def SqC (K:PySem.W.Frag) (c:String) (H:Hp) (a:Addr) (xs:List V):Prop:=(c = "list_iterator" ∧ SqL K H a xs)∨(c = "tuple_iterator" ∧ SqT K H a xs)
theorem SqC.x {K:PySem.W.Frag} {c:String} {H:Hp} {a:Addr} {xs:List V} (h:SqC K c H a xs):SqX K H a xs:=h.elim (fun z=>.inl z.2) fun z=>.inr z.2
theorem Inv.sqc {X:Cx} {pins:List (Addr×Obj)} {σ:St} {H:Hp} {s:Shared} (I:Inv X pins σ H s) {c:String} {a:Addr} {xs:List V} (h:SqC X.K c H a xs):∃ its,Vals xs its∧SqO s.heap a its.toArray c:=by
 rcases h with ⟨rfl,h⟩ | ⟨rfl,h⟩
 ·obtain ⟨its,rv,pl,_⟩:=I.list h
  exact ⟨its,rv,.inl ⟨rfl,pl.isList⟩⟩
 ·obtain ⟨its,rv,pl,_⟩:=I.tuple h
  exact ⟨its,rv,.inr ⟨rfl,pl⟩⟩
noncomputable def zxj (K:PySem.W.Frag) (a b:Addr) (c1 c2:String):It :=
 ⟨fun i H=>∃ xs ys x y,SqC K c1 H a xs∧SqC K c2 H b ys∧xs[i]?=some x∧ys[i]?=some y,
  fun i H x H'=>∃ p v u,x=.ref p∧H p=none∧H'=upd H p (.tup [v,u])∧(∀ xs,SqC K c1 H a xs→xs[i]?=some v)∧∀ ys,SqC K c2 H b ys→ys[i]?=some u,
  fun i H=>∃ xs ys,SqC K c1 H a xs∧SqC K c2 H b ys∧(xs.length≤i∨ys.length≤i)⟩
theorem SqO.zit {h:Heap} {l it:Addr} {k:Nat} {xs:Array Value} {c:String} (q:SqO h l xs c) (z:∃ o,h.get? it=some o∧o.cls=.type c∧o.data=.fields #[.ref l,.int k 0]):SqI h it l k xs:=by
 obtain ⟨o,e1,e2,e3⟩:=z
 rcases q with ⟨rfl,a⟩ | ⟨rfl,a⟩
 ·exact .inl ⟨⟨o,e1,e2,e3⟩,a⟩
 ·exact .inr ⟨⟨o,e1,e2,e3⟩,a⟩
theorem SqI.zit {h:Heap} {l it:Addr} {k:Nat} {xs:Array Value} {c:String} (q:SqI h it l k xs) (w:SqO h l xs c):∃ o,h.get? it=some o∧o.cls=.type c∧o.data=.fields #[.ref l,.int k 0]:=by
 rcases q with ⟨⟨o,e1,e2,e3⟩,a⟩ | ⟨⟨o,e1,e2,e3⟩,a⟩
 ·rcases w with ⟨rfl,b⟩ | ⟨rfl,b⟩
  ·exact ⟨o,e1,e2,e3⟩
  ·obtain ⟨o1,q1,q2,_⟩:=a
   obtain ⟨o2,q3,q4,_⟩:=b
   rw [q1] at q3;cases q3;rw [q2] at q4;exact absurd q4 (by decide)
 ·rcases w with ⟨rfl,b⟩ | ⟨rfl,b⟩
  ·obtain ⟨o1,q1,q2,_⟩:=a
   obtain ⟨o2,q3,q4,_⟩:=b
   rw [q1] at q3;cases q3;rw [q2] at q4;exact absurd q4 (by decide)
  ·exact ⟨o,e1,e2,e3⟩
noncomputable def ZSt (h:Heap) (z TI TO i1 i2 a b:Addr) (c1 c2:String) (i:Nat):Prop :=
 IsZip h z TI TO .none∧IsPair h TI (.ref i1) (.ref i2)∧(∃ u v,IsPair h TO u v)∧(∃ o,h.get? i1=some o∧o.cls=.type c1∧o.data=.fields #[.ref a,.int i 0])∧∃ o,h.get? i2=some o∧o.cls=.type c2∧o.data=.fields #[.ref b,.int i 0]
theorem zi3 {P:Program} {w:World} {K:PySem.W.Frag} {elts:List Expr} {k:Nat} {pos:Pos} (a b z TI TO i1 i2:Addr) (c1 c2:String) (hc1:c1 = "list_iterator" ∨ c1 = "tuple_iterator") (hc2:c2 = "list_iterator" ∨ c2 = "tuple_iterator")
  (n1:TI≠z) (n2:TO≠z) (n3:i1≠z) (n4:i2≠z) (n5:TI≠TO) (n6:TI≠i1) (n7:TI≠i2) (n8:TO≠i1) (n9:TO≠i2) (n10:i1≠i2)
  (ta:a≠z∧a≠TO∧a≠i1∧a≠i2) (tb:b≠z∧b≠TO∧b≠i1∧b≠i2) :
  Turn P w K (.Tuple elts k pos) (zxj K a b c1 c2) [z,TI,TO,i1,i2] z (fun i h=>ZSt h z TI TO i1 i2 a b c1 c2 i) where
 mem:=by simp
 obj:=fun i h st c hc=>by
  obtain ⟨hz,hTI,⟨u,v,hTO⟩,⟨o1,e1,q1,d1⟩,⟨o2,e2,q2,d2⟩⟩:=st
  simp only [List.mem_cons,List.not_mem_nil,or_false] at hc
  rcases hc with rfl | rfl | rfl | rfl | rfl
  ·exact ⟨_,hz,fun v z=>by cases z⟩
  ·exact ⟨_,hTI,fun v z=>by cases z⟩
  ·exact ⟨_,hTO,fun v z=>by cases z⟩
  ·exact ⟨o1,e1,fun v z=>by rw [d1] at z;cases z⟩
  ·exact ⟨o2,e2,fun v z=>by rw [d2] at z;cases z⟩
 keep:=fun i h h' st kk=>by
  obtain ⟨hz,hTI,⟨u,v,hTO⟩,⟨o1,e1,r1⟩,⟨o2,e2,r2⟩⟩:=st
  exact ⟨kk z (by simp) _ hz,kk TI (by simp) _ hTI,⟨u,v,kk TO (by simp) _ hTO⟩,⟨o1,kk i1 (by simp) _ e1,r1⟩,⟨o2,kk i2 (by simp) _ e2,r2⟩⟩
 item:=by
  intro X hP hw hK hc i pins s σ H E I hf st hg
  subst hP hw hK
  obtain ⟨xs,ys,x,y,hq,hq2,hx,hy⟩:=hg
  obtain ⟨its,rv,p⟩:=I.sqc hq
  obtain ⟨its2,rv2,p2⟩:=I.sqc hq2
  obtain ⟨u,hu,ru⟩:=rv.get hx
  obtain ⟨u2,hu2,ru2⟩:=rv2.get hy
  obtain ⟨hz,hTI,⟨c,d,hTO⟩,h1,h2⟩:=id st
  have D:ZipApart z TI TO i1 i2 a b:=⟨n1,n2,n3,n4,n5,n6,n7,n8,n9,n10,ta.1,ta.2.1,ta.2.2.1,ta.2.2.2,tb.1,tb.2.1,tb.2.2.1,tb.2.2.2⟩
  refine zdl D hz hTI hTO (p.zit h1) (p2.zit h2) (x:=u) (y:=u2) (by simpa using hu) (by simpa using hu2) fun h' a1 a2 a3 a4 a5 hk=>?_
  refine ⟨_,rfl,wpAny_letOwnedTupleGo_zip a1 fun h3 hz3 hs3=>?_⟩
  replace hs3:Heap.SameBut z h' h3:=hs3
  have hlt:z<s.heap.objs.size:=Heap.lt_size hz
  have hT2:h3.get? s.heap.objs.size=some { cls:=.type "tuple",data:=.seq #[u,u2] }:=(hs3.2 _ (Nat.ne_of_gt hlt)).trans a5
  have hn:H s.heap.objs.size=none:=I.hok.fresh (Nat.le_refl _)
  have I2:Inv X pins σ (upd H s.heap.objs.size (.tup [x,y])) { s with heap:=h3,toks:=s.toks } :=
   I.turnLay (ch:=[z,TI,TO,i1,i2]) hf (fun b o hb q=>(hs3.2 b (fun e=>hb (by simp [e]))).trans (hk b o (fun e=>hb (by simp [e])) (fun e=>hb (by simp [e])) (fun e=>hb (by simp [e])) (fun e=>hb (by simp [e])) q)) (Nat.le_refl _)
    ⟨zi2,[u,u2],.cons ru (.cons ru2 .nil),⟨_,hT2,rfl,_,rfl⟩⟩
  have f1:∀ b∈[z,TI,TO,i1,i2],(upd H s.heap.objs.size (.tup [x,y])) b=none:=fun b hb=>by
   have hne:b≠s.heap.objs.size:=by
    rintro rfl
    obtain ⟨hz,hTI,⟨c,d,hTO⟩,⟨o1,e1,_⟩,⟨o2,e2,_⟩⟩:=st
    simp only [List.mem_cons,List.not_mem_nil,or_false] at hb
    rcases hb with e | e | e | e | e
    ·rw [← e] at hz;exact absurd (Heap.lt_size hz) (Nat.lt_irrefl _)
    ·rw [← e] at hTI;exact absurd (Heap.lt_size hTI) (Nat.lt_irrefl _)
    ·rw [← e] at hTO;exact absurd (Heap.lt_size hTO) (Nat.lt_irrefl _)
    ·rw [← e] at e1;exact absurd (Heap.lt_size e1) (Nat.lt_irrefl _)
    ·rw [← e] at e2;exact absurd (Heap.lt_size e2) (Nat.lt_irrefl _)
   rw [z0h hne]
   exact (hf b hb).1
  have w1:SqO h' a its.toArray c1:=p.at fun o e=>hk _ _ ta.1 ta.2.1 ta.2.2.1 ta.2.2.2 e
  have w2:SqO h' b its2.toArray c2:=p2.at fun o e=>hk _ _ tb.1 tb.2.1 tb.2.2.1 tb.2.2.2 e
  obtain ⟨o1,y1,y2,y3⟩:=a3.zit w1
  obtain ⟨o2,y4,y5,y6⟩:=a4.zit w2
  refine ⟨.ref s.heap.objs.size,_,I2,rfl,⟨_,x,y,rfl,hn,rfl,fun zs hy'=>by rw [I.sqx_inj hy'.x hq.x];exact hx,fun zs hy'=>by rw [I.sqx_inj hy'.x hq2.x];exact hy⟩,⟨hz3,?_,⟨u,u2,?_⟩,⟨o1,?_,y2,y3⟩,⟨o2,?_,y5,y6⟩⟩,f1⟩
  ·exact (hs3.2 _ n1).trans (hk _ _ n1 n5 n6 n7 hTI)
  ·exact (hs3.2 _ n2).trans a2
  ·exact (hs3.2 _ n3).trans y1
  ·exact (hs3.2 _ n4).trans y4
 done:=by
  intro X hP hw hK hc i pins s σ H E I hf st hg
  subst hP hw hK
  obtain ⟨xs,ys,hq,hq2,hx⟩:=hg
  obtain ⟨its,rv,p⟩:=I.sqc hq
  obtain ⟨its2,rv2,p2⟩:=I.sqc hq2
  have l1:=rv.length
  have l2:=rv2.length
  obtain ⟨hz,hTI,⟨c,d,hTO⟩,h1,h2⟩:=id st
  have D:ZipApart z TI TO i1 i2 a b:=⟨n1,n2,n3,n4,n5,n6,n7,n8,n9,n10,ta.1,ta.2.1,ta.2.2.1,ta.2.2.2,tb.1,tb.2.1,tb.2.2.1,tb.2.2.2⟩
  exact z80 (I.ok.hd hc) D hz hTI hTO (p.zit h1) (p2.zit h2) (by rcases hx with q | q;exact .inl (by simp;omega);exact .inr (by simp;omega)) fun h' hk =>
   ⟨rfl,I.turns (t':=s.toks) (ch:=[z,TI,TO,i1,i2]) hf fun b o hb q=>hk b o (fun e=>hb (by simp [e])) (fun e=>hb (by simp [e])) (fun e=>hb (by simp [e])) (fun e=>hb (by simp [e])) q⟩
 self:=fun _ _ _ _ _ st h=>wpAny_pyIter_zip st.1 h
def zv4 (K:PySem.W.Frag) (ta:TA):TI:=fun σ H R=>ta σ H fun vs H1=>∃ a b c1 c2,vs=[.ref a,.ref b]∧(∃ xs,SqC K c1 H1 a xs)∧(∃ ys,SqC K c2 H1 b ys)∧R (zxj K a b c1 c2) H1
theorem SqO.lt {h:Heap} {l:Addr} {xs:Array Value} {c:String} (q:SqO h l xs c):l<h.objs.size:=by
 rcases q with ⟨_,a⟩ | ⟨_,a⟩ <;> obtain ⟨o,e,_⟩:=a <;> exact Heap.lt_size e
section
variable {X:Cx}
theorem zqm {elts:List Expr} {k:Nat} {tpos:Pos} {a b:Expr} {ta:TA} {p pos:Pos} (hg:Gl X "zip") (hm:X.mg "zip" = none) (ha:PA X [a,b] ta) (hs:starEach [a,b] X.env=[(false,eval a X.env),(false,eval b X.env)]:=by rfl) (hs2:starEach [b] X.env=[(false,eval b X.env)]:=by rfl) :
  PI X (.Tuple elts k tpos) (.Call (.Name "zip" p) [a,b] [] pos) (zv4 X.K ta):=by
 intro pins s σ H R I h
 refine Call_ (z76 I hg hm boot_zip (PyProof.Rows.callWith_type1 (thn (ha pos pins s σ H _ I h) fun us s1 ⟨vs,H1,I1,r1,q1⟩=>?_) (by rw [hs,hs2]) (by rw [hs2];rfl)))
 obtain ⟨l,l2,c1,c2,e,⟨xs,hq⟩,⟨ys,hq2⟩,q⟩:=q1
 subst e
 obtain ⟨u,u2,rfl,ru,ru2⟩:=zhv r1
 cases ru
 cases ru2
 obtain ⟨its,rv,pl⟩:=I1.sqc hq
 obtain ⟨its2,rv2,pl2⟩:=I1.sqc hq2
 have g1:c1 = "list_iterator" ∨ c1 = "tuple_iterator" := hq.elim (fun z=>.inl z.1) fun z=>.inr z.1
 have g2:c2 = "list_iterator" ∨ c2 = "tuple_iterator" := hq2.elim (fun z=>.inl z.1) fun z=>.inr z.1
 have t1:=pl.lt
 have t2:=pl2.lt
 have nn:∀ {x n:Nat} (i:Nat),x<n→x≠n+i:=fun i h e=>by omega
 refine zl1 pl pl2 fun h' a1 a2 a3 a4 a5 hk=>wpAny_pyIter_zip a1 ?_
 have I2:Inv X pins σ H1 { s1 with heap:=h' }:=I1.kept (t':=s1.toks) hk
 have w1:SqO h' l its.toArray c1:=pl.at fun o e=>hk _ _ e
 have w2:SqO h' l2 its2.toArray c2:=pl2.at fun o e=>hk _ _ e
 refine ⟨_,[s1.heap.objs.size+4,s1.heap.objs.size+2,s1.heap.objs.size+3,s1.heap.objs.size,s1.heap.objs.size+1],_,_,H1,rfl,I2,
  zi3 l l2 _ _ _ _ _ c1 c2 g1 g2 (nz (by decide)) (nz (by decide)) (nz (i:=0) (by decide)) (nz (by decide)) (nz (by decide)) (nz (j:=0) (by decide)) (nz (by decide)) (nz (j:=0) (by decide)) (nz (by decide)) (nz (i:=0) (by decide)) ⟨nn 4 t1,nn 3 t1,nn 0 t1,nn 1 t1⟩ ⟨nn 4 t2,nn 3 t2,nn 0 t2,nn 1 t2⟩,⟨a1,a2,⟨_,_,a3⟩,a4.zit w1,a5.zit w2⟩,fun b hb=>?_,q⟩
 have hb':s1.heap.objs.size≤b:=by
  simp only [List.mem_cons,List.not_mem_nil,or_false] at hb
  rcases hb with rfl | rfl | rfl | rfl | rfl
  ·exact Nat.le_add_right _ _
  ·exact Nat.le_add_right _ _
  ·exact Nat.le_add_right _ _
  ·exact Nat.le_refl _
  ·exact Nat.le_add_right _ _
 exact I1.fpOk hb' (I1.hok.fresh hb')
theorem iZS (K:PySem.W.Frag) (ml:X.mg "zip" = none) {a b:Expr} {ta tb:TE} {p pos:Pos} {elts:List Expr} {k:Nat} {tpos:Pos} (ha:PE X a ta) (hb:PE X b tb) (hg:Gl X "zip" := by rfl) (hs:starEach [a,b] X.env=[(false,eval a X.env),(false,eval b X.env)]:=by rfl) (hs2:starEach [b] X.env=[(false,eval b X.env)]:=by rfl) (hK:X.K=K:=by rfl) :
  PI X (.Tuple elts k tpos) (.Call (.Name "zip" p) [a,b] [] pos) (zv4 K (z64 ta (z64 tb zi8))):=by
 subst hK;exact zqm hg ml (z0q ha (z0q hb z1g hs2) (by rw [hs,hs2])) hs hs2
end
end L2
namespace L3
open PySem PySem.Spec L2
noncomputable def sqC:D→Option (List D×String)
 | .lst xs=>some (xs, "list_iterator")
 | .tup xs=>some (xs, "tuple_iterator")
 | .gt xs=>some (xs, "tuple_iterator")
 | _=>none
theorem zev {K:PySem.W.Frag} {W:Wd} {d:D} {x:List D×String} {v:V} (h:sqC d=some x) (r:DR K W d v):∃ a vs,v=.ref a∧SqC K x.2 W.H a vs∧DRs K W x.1 vs:=by
 cases r with
 | lst h1 _ hs=>cases h;exact ⟨_,_,rfl,.inl ⟨rfl,SqL.of h1⟩,hs⟩
 | tup h1 hs=>cases h;exact ⟨_,_,rfl,.inr ⟨rfl,SqT.of h1⟩,hs⟩
 | gt h1 hs=>cases h;exact ⟨_,_,rfl,.inr ⟨rfl,h1⟩,hs⟩
 | non=>cases h
 | bl=>cases h
 | int=>cases h
 | str=>cases h
 | ref=>cases h
 | scr=>cases h
noncomputable def zx0 (ea eb:EV):IV:=fun Γ μ=>(ea Γ μ).bind fun p=>(eb Γ p.2).bind fun q=>(sqC p.1).bind fun x=>(sqC q.1).bind fun y=>some ((zen x.1 y.1,none),q.2)
section
variable {X:Cx} {K:PySem.W.Frag} {ea eb:EV} {p pos:Pos}
theorem zpq (ml:X.mg "zip" = none) {a b:Expr} {elts:List Expr} {k:Nat} {tpos:Pos} (ha:PE X a (tD K ea)) (hb:PE X b (tD K eb)) (hg:Gl X "zip" := by rfl) (hs:starEach [a,b] X.env=[(false,eval a X.env),(false,eval b X.env)]:=by rfl) (hs2:starEach [b] X.env=[(false,eval b X.env)]:=by rfl) (hK:X.K=K:=by rfl) :
  PI X (.Tuple elts k tpos) (.Call (.Name "zip" p) [a,b] [] pos) (tDI K (zx0 ea eb)):=zd3 (iZS K ml ha hb hg hs hs2 hK) fun σ H R h=>by
 obtain ⟨W,Γ,its,c,μ',rfl,ok,en,e,q⟩:=h
 refine z05 e fun p1 e1 e=>?_
 refine z05 e fun p2 e2 e=>?_
 refine z05 e fun x hx e=>?_
 refine z05 e fun y hy e=>?_
 cases e
 refine ⟨W,Γ,p1.1,p1.2,rfl,ok,en,e1,fun v W1 hμ ok1 s1 r1=>⟨W1,Γ,p2.1,p2.2,rfl,ok1,en.step ok s1,by rw [hμ];exact e2,fun u W2 hμ2 ok2 s2 r2=>?_⟩⟩
 have r1:=r1.step ok1 s2
 obtain ⟨a1,vs1,rfl,h1,_⟩:=zev hx r1
 obtain ⟨a2,vs2,rfl,h2,_⟩:=zev hy r2
 refine ⟨a1,a2,x.2,y.2,rfl,⟨_,h1⟩,⟨_,h2⟩,q (zxj K a1 a2 x.2 y.2) W2 hμ2 ok2 (s1.trans s2) ⟨trivial,[p1.1,p2.1],[.ref a1,.ref a2],.cons r1 (.cons r2 .nil),fun W3 i ok3 _ r3=>?_⟩⟩
 cases r3 with
 | cons q1 r3 =>
  cases r3 with
  | cons q2 _ =>
   obtain ⟨b1,ws1,e3,g1,k1⟩:=zev hx q1
   obtain ⟨b2,ws2,e4,g2,k2⟩:=zev hy q2
   cases e3
   cases e4
   refine ⟨fun hi=>⟨_,_,g1,g2,by rw [← k1.length,← k2.length];exact zel hi⟩,fun d hd=>?_⟩
   obtain ⟨x1,y1,hx1,hy1,rfl⟩:=zem hd
   obtain ⟨v1,hv1,rv1⟩:=k1.get hx1
   obtain ⟨v2,hv2,rv2⟩:=k2.get hy1
   refine ⟨⟨_,_,v1,v2,g1,g2,hv1,hv2⟩,fun z H' hz=>?_⟩
   obtain ⟨p,w1,w2,rfl,hp,rfl,hw1,hw2⟩:=hz
   have t1:=hw1 _ g1
   have t2:=hw2 _ g2
   rw [hv1] at t1
   rw [hv2] at t2
   cases t1
   cases t2
   exact ⟨W3.lay p _,rfl,rfl,z2f ok3 hp,z0m hp,zad ok3 hp (.cons rv1 (.cons rv2 .nil))⟩
end
def Wp {α:Type} (r:Option (α×M)) (Q:α→M→Prop):Prop:=∃ a μ,r=some (a,μ)∧Q a μ
def Ws (r:Option (Out×G×M)) (Q:Out→G→M→Prop):Prop:=∃ o Γ μ,r=some (o,Γ,μ)∧Q o Γ μ
section
variable {α β:Type} {Γ:G} {μ:M} {ea eb ec:EV} {ba bb:BV} {el:LV} {sa sb:SV} {i j n m:Nat} {d x y:D} {ds es:List D} {b:Bool} {g:GV} {gs:GsV} {o:Option D} {iv:IV} {lo hi:OV}
theorem Wp.imp {r:Option (α×M)} {Q R:α→M→Prop} (h:Wp r Q) (f:∀ a μ,Q a μ→R a μ):Wp r R:=let ⟨a,μ,e,q⟩:=h;⟨a,μ,e,f a μ q⟩
theorem Ws.imp {r:Option (Out×G×M)} {Q R:Out→G→M→Prop} (h:Ws r Q) (f:∀ o Γ μ,Q o Γ μ→R o Γ μ):Ws r R:=let ⟨a,Γ,μ,e,q⟩:=h;⟨a,Γ,μ,e,f a Γ μ q⟩
theorem wp_some {a:α} {Q:α→M→Prop}:Wp (some (a,μ)) Q↔Q a μ:=⟨fun ⟨_,_,e,q⟩=>by cases e;exact q,fun q=>⟨_,_,rfl,q⟩⟩
theorem ws_some {out:Out} {Q:Out→G→M→Prop}:Ws (some (out,Γ,μ)) Q↔Q out Γ μ:=⟨fun ⟨_,_,_,e,q⟩=>by cases e;exact q,fun q=>⟨_,_,_,rfl,q⟩⟩
theorem wp_bind {r:Option (α×M)} {f:α×M→Option (β×M)} {Q:β→M→Prop}:Wp (r.bind f) Q↔Wp r fun a μ=>Wp (f (a,μ)) Q:=by
 cases r with
 | none=>exact ⟨fun ⟨_,_,e,_⟩=>(by cases e),fun ⟨_,_,e,_⟩=>(by cases e)⟩
 | some p=>exact ⟨fun h=>⟨p.1,p.2,rfl,h⟩,fun ⟨_,_,e,h⟩=>by cases e;exact h⟩
theorem ws_bind {r:Option (α×M)} {f:α×M→Option (Out×G×M)} {Q:Out→G→M→Prop}:Ws (r.bind f) Q↔Wp r fun a μ=>Ws (f (a,μ)) Q:=by
 cases r with
 | none=>exact ⟨fun ⟨_,_,_,e,_⟩=>(by cases e),fun ⟨_,_,e,_⟩=>(by cases e)⟩
 | some p=>exact ⟨fun h=>⟨p.1,p.2,rfl,h⟩,fun ⟨_,_,e,h⟩=>by cases e;exact h⟩
theorem wss_bind {r:Option (Out×G×M)} {f:Out×G×M→Option (Out×G×M)} {Q:Out→G→M→Prop}:Ws (r.bind f) Q↔Ws r fun o Γ μ=>Ws (f (o,Γ,μ)) Q:=by
 cases r with
 | none=>exact ⟨fun ⟨_,_,_,e,_⟩=>(by cases e),fun ⟨_,_,_,e,_⟩=>(by cases e)⟩
 | some p=>exact ⟨fun h=>⟨p.1,p.2.1,p.2.2,rfl,h⟩,fun ⟨_,_,_,e,h⟩=>by cases e;exact h⟩
theorem wps_bind {r:Option (Out×G×M)} {f:Out×G×M→Option (β×M)} {Q:β→M→Prop}:Wp (r.bind f) Q↔Ws r fun o Γ μ=>Wp (f (o,Γ,μ)) Q:=by
 cases r with
 | none=>exact ⟨fun ⟨_,_,e,_⟩=>(by cases e),fun ⟨_,_,_,e,_⟩=>(by cases e)⟩
 | some p=>exact ⟨fun h=>⟨p.1,p.2.1,p.2.2,rfl,h⟩,fun ⟨_,_,_,e,h⟩=>by cases e;exact h⟩
theorem wpo_bind {r:Option α} {f:α→Option (β×M)} {Q:β→M→Prop}:Wp (r.bind f) Q↔∃ a,r=some a∧Wp (f a) Q:=by
 cases r with
 | none=>exact ⟨fun ⟨_,_,e,_⟩=>(by cases e),fun ⟨_,e,_⟩=>(by cases e)⟩
 | some p=>exact ⟨fun h=>⟨p,rfl,h⟩,fun ⟨_,e,h⟩=>by cases e;exact h⟩
theorem zpw {r:Option (α×M)} {a:α} {Q:α→M→Prop} (e:r=some (a,μ)) (h:Q a μ):Wp r Q:=⟨_,_,e,h⟩
variable {R:D→M→Prop} {RL:List D→M→Prop} {RB:Bool→M→Prop} {RG:G→M→Prop} {RI:List D×Ck→M→Prop} {RO:Option Int→M→Prop} {Q:Out→G→M→Prop}
theorem z48:Wp (z01 0 (some d::Γ) μ) R↔R d μ:=wp_some
theorem z52:Wp (z01 (i+1) (o::Γ) μ) R↔Wp (z01 i Γ μ) R:=Iff.rfl
theorem w_c:Wp (vC d Γ μ) R↔R d μ:=wp_some
def q1 (f:D→M→Option (D×M)) (R:D→M→Prop):D→M→Prop:=fun x μ=>Wp (f x μ) R
theorem q1_ {f:D→M→Option (D×M)}:q1 f R x μ↔Wp (f x μ) R:=Iff.rfl
theorem zlg {f:D→M→Option (D×M)}:Wp (v1 f ea Γ μ) R↔Wp (ea Γ μ) (q1 f R):=wp_bind
def q2b (f:D→D→M→Option (D×M)) (x:D) (R:D→M→Prop):D→M→Prop:=fun y μ=>Wp (f x y μ) R
theorem zdk {f:D→D→M→Option (D×M)}:q2b f x R y μ↔Wp (f x y μ) R:=Iff.rfl
def q2 (f:D→D→M→Option (D×M)) (eb:EV) (Γ:G) (R:D→M→Prop):D→M→Prop:=fun x μ=>Wp (eb Γ μ) (q2b f x R)
theorem q2_ {f:D→D→M→Option (D×M)}:q2 f eb Γ R x μ↔Wp (eb Γ μ) (q2b f x R):=Iff.rfl
theorem zhs {f:D→D→M→Option (D×M)}:Wp (v2 f ea eb Γ μ) R↔Wp (ea Γ μ) (q2 f eb Γ R):=wp_bind.trans ⟨fun h=>h.imp fun _ _ q=>wp_bind.mp q,fun h=>h.imp fun _ _ q=>wp_bind.mpr q⟩
def qL (f:List D→M→Option (D×M)) (R:D→M→Prop):List D→M→Prop:=fun ds μ=>Wp (f ds μ) R
theorem qL_ {f:List D→M→Option (D×M)}:qL f R ds μ↔Wp (f ds μ) R:=Iff.rfl
theorem zhr {f:List D→M→Option (D×M)}:Wp (vL f el Γ μ) R↔Wp (el Γ μ) (qL f R):=wp_bind
theorem z7n:Wp (z0e Γ μ) RL↔RL [] μ:=wp_some
def qc2 (x:D) (RL:List D→M→Prop):List D→M→Prop:=fun ds μ=>RL (x::ds) μ
theorem zj5:qc2 x RL ds μ↔RL (x::ds) μ:=Iff.rfl
def qc (el:LV) (Γ:G) (RL:List D→M→Prop):D→M→Prop:=fun x μ=>Wp (el Γ μ) (qc2 x RL)
theorem qc_:qc el Γ RL x μ↔Wp (el Γ μ) (qc2 x RL):=Iff.rfl
theorem z4h:Wp (z04 ea el Γ μ) RL↔Wp (ea Γ μ) (qc el Γ RL):=wp_bind.trans ⟨fun h=>h.imp fun _ _ q=>(wp_bind.mp q).imp fun _ _ q=>(wp_some (Q:=RL)).mp q,fun h=>h.imp fun _ _ q=>wp_bind.mpr (q.imp fun _ _ q=>(wp_some (Q:=RL)).mpr q)⟩
def qT (RB:Bool→M→Prop):D→M→Prop:=fun d μ=>∃ b,d=.bl b∧RB b μ
theorem qT_:qT RB (.bl b) μ↔RB b μ:=⟨fun ⟨_,e,q⟩=>by cases e;exact q,fun q=>⟨_,rfl,q⟩⟩
theorem w_T:Wp (vT ea Γ μ) RB↔Wp (ea Γ μ) (qT RB):=wp_bind.trans ⟨fun h=>h.imp fun d μ q=>by
  obtain ⟨b,μ',e,q⟩:=q
  cases d <;> cases e
  exact ⟨_,rfl,q⟩,fun h=>h.imp fun d μ q=>by obtain ⟨b,rfl,q⟩:=q;exact wp_some.mpr q⟩
def qTr (RB:Bool→M→Prop):D→M→Prop:=fun d μ=>∃ b,tru μ d=some b∧RB b μ
theorem z59:qTr RB (.bl b) μ↔RB b μ:=⟨fun ⟨_,e,q⟩=>by cases e;exact q,fun q=>⟨_,rfl,q⟩⟩
theorem z94:Wp (z5k ea Γ μ) RB↔Wp (ea Γ μ) (qTr RB):=wp_bind.trans ⟨fun h=>h.imp fun d μ q=>by
  obtain ⟨b,e,q⟩:=wpo_bind.mp q
  exact ⟨b,e,wp_some.mp q⟩,fun h=>h.imp fun d μ ⟨b,e,q⟩=>wpo_bind.mpr ⟨b,e,wp_some.mpr q⟩⟩
def zxs (RB:Bool→M→Prop):Bool→M→Prop:=fun b μ=>RB (!b) μ
theorem z9e:zxs RB b μ↔RB (!b) μ:=Iff.rfl
theorem z95:Wp (zbg ba Γ μ) RB↔Wp (ba Γ μ) (zxs RB):=wp_bind.trans ⟨fun h=>h.imp fun _ _ q=>(wp_some (Q:=RB)).mp q,fun h=>h.imp fun _ _ q=>(wp_some (Q:=RB)).mpr q⟩
def zxt (bb:BV) (Γ:G) (RB:Bool→M→Prop):Bool→M→Prop:=fun b μ=>if b=true then Wp (bb Γ μ) RB else RB false μ
theorem z5d:zxt bb Γ RB true μ↔Wp (bb Γ μ) RB:=Iff.rfl
theorem z5e:zxt bb Γ RB false μ↔RB false μ:=Iff.rfl
def qOr (bb:BV) (Γ:G) (RB:Bool→M→Prop):Bool→M→Prop:=fun b μ=>if b=true then RB true μ else Wp (bb Γ μ) RB
theorem z9c:qOr bb Γ RB true μ↔RB true μ:=Iff.rfl
theorem z9d:qOr bb Γ RB false μ↔Wp (bb Γ μ) RB:=Iff.rfl
theorem zlj:Wp (bOr ba bb Γ μ) RB↔Wp (ba Γ μ) (qOr bb Γ RB):=wp_bind.trans ⟨fun h=>h.imp fun b _ q=>by cases b;exact q;exact (wp_some (Q:=RB)).mp q,fun h=>h.imp fun b _ q=>by cases b;exact q;exact (wp_some (Q:=RB)).mpr q⟩
theorem w_Yes:Wp (z2c Γ μ) RB↔RB true μ:=wp_some
def qIf (ea eb:EV) (Γ:G) (R:D→M→Prop):Bool→M→Prop:=fun b μ=>if b=true then Wp (ea Γ μ) R else Wp (eb Γ μ) R
theorem z9f:qIf ea eb Γ R true μ↔Wp (ea Γ μ) R:=Iff.rfl
theorem z9g:qIf ea eb Γ R false μ↔Wp (eb Γ μ) R:=Iff.rfl
noncomputable def kVA (eb:EV) (Γ:G) (d:D) (μ:M):Option (D×M):=match d with
 | .bl true=>eb Γ μ
 | .bl false=>some (.bl false,μ)
 | _=>none
def qVA (eb:EV) (Γ:G) (R:D→M→Prop):D→M→Prop:=fun d μ=>Wp (kVA eb Γ d μ) R
theorem z99:qVA eb Γ R (.bl true) μ↔Wp (eb Γ μ) R:=Iff.rfl
theorem z53:Wp (zoh ea eb Γ μ) R↔Wp (ea Γ μ) (qVA eb Γ R):=wp_bind
noncomputable def zyk (eb:EV) (Γ:G) (d:D) (μ:M):Option (D×M):=match d with
 | .bl true=>some (.bl true,μ)
 | .bl false=>eb Γ μ
 | _=>none
def qVO (eb:EV) (Γ:G) (R:D→M→Prop):D→M→Prop:=fun d μ=>Wp (zyk eb Γ d μ) R
theorem z98:qVO eb Γ R (.bl false) μ↔Wp (eb Γ μ) R:=Iff.rfl
def qm2 (f:D→D→M→Option (D×M)) (eb:EV) (Γ:G) (R:D→M→Prop):D→M→Prop:=fun x μ=>(∃ l,z3s μ x=some l)∧Wp (eb Γ μ) (q2b f x R)
theorem z90 {f:D→D→M→Option (D×M)}:Wp (v2l f ea eb Γ μ) R↔Wp (ea Γ μ) (qm2 f eb Γ R):=wp_bind.trans ⟨fun h=>h.imp fun _ _ q=>by obtain ⟨l,e,q⟩:=wpo_bind.mp q;exact ⟨⟨l,e⟩,wp_bind.mp q⟩,fun h=>h.imp fun _ _ ⟨⟨l,e⟩,q⟩=>wpo_bind.mpr ⟨l,e,wp_bind.mpr q⟩⟩
theorem zap {f:D→D→M→Option (D×M)} {k:Nat} (h:μ[k]?=some (some (.lst ds))):qm2 f eb Γ R (.ref k) μ↔Wp (eb Γ μ) (q2b f (.ref k) R):=⟨fun q=>q.2,fun q=>⟨⟨_,z20 h⟩,q⟩⟩
theorem zh7:Wp (z68 Γ μ) RO↔RO none μ:=wp_some
def qoS (RO:Option Int→M→Prop):D→M→Prop:=fun d μ=>∃ k,d=.int k∧RO (some k) μ
theorem zhc {k:Int}:qoS RO (.int k) μ↔RO (some k) μ:=⟨fun ⟨_,e,q⟩=>by cases e;exact q,fun q=>⟨_,rfl,q⟩⟩
theorem zh6:Wp (z6r ea Γ μ) RO↔Wp (ea Γ μ) (qoS RO):=wp_bind.trans ⟨fun h=>h.imp fun d μ q=>by
  obtain ⟨b,μ',e,q⟩:=q
  cases d <;> cases e
  exact ⟨_,rfl,q⟩,fun h=>h.imp fun d μ q=>by obtain ⟨b,rfl,q⟩:=q;exact wp_some.mpr q⟩
def qs3 (x:D) (l:Option Int) (R:D→M→Prop):Option Int→M→Prop:=fun h μ=>Wp (fSl x l h μ) R
theorem zh9 {l h:Option Int}:qs3 x l R h μ↔Wp (fSl x l h μ) R:=Iff.rfl
def qs2 (hi:OV) (Γ:G) (x:D) (R:D→M→Prop):Option Int→M→Prop:=fun l μ=>Wp (hi Γ μ) (qs3 x l R)
theorem zha {l:Option Int}:qs2 hi Γ x R l μ↔Wp (hi Γ μ) (qs3 x l R):=Iff.rfl
def qs1 (lo hi:OV) (Γ:G) (R:D→M→Prop):D→M→Prop:=fun x μ=>Wp (lo Γ μ) (qs2 hi Γ x R)
theorem zhb:qs1 lo hi Γ R x μ↔Wp (lo Γ μ) (qs2 hi Γ x R):=Iff.rfl
theorem zh8:Wp (vSl ea lo hi Γ μ) R↔Wp (ea Γ μ) (qs1 lo hi Γ R):=wp_bind.trans ⟨fun h=>h.imp fun _ _ q=>(wp_bind.mp q).imp fun _ _ q=>wp_bind.mp q,fun h=>h.imp fun _ _ q=>wp_bind.mpr (q.imp fun _ _ q=>wp_bind.mpr q)⟩
theorem z49:Wp (z00 i d Γ μ) RG↔RG (Γ.set i (some d)) μ:=wp_some
theorem z54:Wp (z23 [] Γ μ) RG↔RG Γ μ:=wp_some
def qgc (gs:GsV) (ds:List D) (RG:G→M→Prop):G→M→Prop:=fun Γ μ=>Wp (gs ds Γ μ) RG
theorem zlk:qgc gs ds RG Γ μ↔Wp (gs ds Γ μ) RG:=Iff.rfl
theorem z3k:Wp (z0a g gs (d::ds) Γ μ) RG↔Wp (g d Γ μ) (qgc gs ds RG):=wp_bind
theorem zsl (h:ds.length=n):Wp (z21 n gs (.tup ds) Γ μ) RG↔Wp (gs ds Γ μ) RG:=by
 show Wp (if ds.length=n then gs ds Γ μ else none) RG↔_
 rw [if_pos h]
def qSq (sb:SV) (Q:Out→G→M→Prop):Out→G→M→Prop:=fun o Γ μ=>match o with
 | .nx=>Ws (sb Γ μ) Q
 | o=>Q o Γ μ
theorem z2l:qSq sb Q .nx Γ μ↔Ws (sb Γ μ) Q:=Iff.rfl
theorem z5a:qSq sb Q (.rt d) Γ μ↔Q (.rt d) Γ μ:=Iff.rfl
theorem z5c:qSq sb Q .bk Γ μ↔Q .bk Γ μ:=Iff.rfl
theorem z5b:qSq sb Q .ct Γ μ↔Q .ct Γ μ:=Iff.rfl
theorem z4y:Ws (z0u sa sb Γ μ) Q↔Ws (sa Γ μ) (qSq sb Q):=wss_bind.trans ⟨fun h=>h.imp fun o _ _ q=>by cases o <;> first | exact q | exact (ws_some (Q:=Q)).mp q,fun h=>h.imp fun o _ _ q=>by cases o <;> first | exact q | exact (ws_some (Q:=Q)).mpr q⟩
theorem zlh:Ws (sNx Γ μ) Q↔Q .nx Γ μ:=ws_some
def qEx (Γ:G) (Q:Out→G→M→Prop):D→M→Prop:=fun _ μ=>Q .nx Γ μ
theorem zlm:qEx Γ Q d μ↔Q .nx Γ μ:=Iff.rfl
theorem z55:Ws (z2j ea Γ μ) Q↔Wp (ea Γ μ) (qEx Γ Q):=ws_bind.trans ⟨fun h=>h.imp fun _ _ q=>ws_some.mp q,fun h=>h.imp fun _ _ q=>ws_some.mpr q⟩
def qRt (Γ:G) (Q:Out→G→M→Prop):D→M→Prop:=fun d μ=>Q (.rt d) Γ μ
theorem zll:qRt Γ Q d μ↔Q (.rt d) Γ μ:=Iff.rfl
theorem z91:Ws (z2p ea Γ μ) Q↔Wp (ea Γ μ) (qRt Γ Q):=ws_bind.trans ⟨fun h=>h.imp fun _ _ q=>ws_some.mp q,fun h=>h.imp fun _ _ q=>ws_some.mpr q⟩
def qSI (sa sb:SV) (Γ:G) (Q:Out→G→M→Prop):Bool→M→Prop:=fun b μ=>if b=true then Ws (sa Γ μ) Q else Ws (sb Γ μ) Q
theorem z9a:qSI sa sb Γ Q true μ↔Ws (sa Γ μ) Q:=Iff.rfl
theorem z9b:qSI sa sb Γ Q false μ↔Ws (sb Γ μ) Q:=Iff.rfl
theorem zge:qSI sa sb Γ Q b μ↔(b=true→Ws (sa Γ μ) Q)∧(b=false→Ws (sb Γ μ) Q):=by
 cases b
 ·exact ⟨fun h=>⟨fun e=>(by cases e),fun _=>h⟩,fun h=>h.2 rfl⟩
 ·exact ⟨fun h=>⟨fun _=>h,fun e=>(by cases e)⟩,fun h=>h.1 rfl⟩
theorem zli:Ws (sIf ba sa sb Γ μ) Q↔Wp (ba Γ μ) (qSI sa sb Γ Q):=ws_bind.trans ⟨fun h=>h.imp fun b _ q=>by cases b <;> exact q,fun h=>h.imp fun b _ q=>by cases b <;> exact q⟩
def qNx (Q:Out→G→M→Prop):G→M→Prop:=fun Γ μ=>Q .nx Γ μ
theorem zj6:qNx Q Γ μ↔Q .nx Γ μ:=Iff.rfl
def qAs (g:GV) (Γ:G) (Q:Out→G→M→Prop):D→M→Prop:=fun d μ=>Wp (g d Γ μ) (qNx Q)
theorem zj8:qAs g Γ Q d μ↔Wp (g d Γ μ) (qNx Q):=Iff.rfl
theorem z93:Ws (z0z ea g Γ μ) Q↔Wp (ea Γ μ) (qAs g Γ Q):=ws_bind.trans ⟨fun h=>h.imp fun _ _ q=>(ws_bind.mp q).imp fun _ _ q=>ws_some.mp q,fun h=>h.imp fun _ _ q=>ws_bind.mpr (q.imp fun _ _ q=>ws_some.mpr q)⟩
def qFo (g:GV) (sb:SV) (Γ:G) (Q:Out→G→M→Prop):List D×Ck→M→Prop:=fun s μ=>Ws (z4d s.2 g sb s.1 Γ μ) Q
theorem zdj {c:Ck}:qFo g sb Γ Q (ds,c) μ↔Ws (z4d c g sb ds Γ μ) Q:=Iff.rfl
theorem z7p:Ws (z8y iv g sb Γ μ) Q↔Wp (iv Γ μ) (qFo g sb Γ Q):=ws_bind
def qIL (RI:List D×Ck→M→Prop):D→M→Prop:=fun d μ=>∃ s,lsC μ d=some s∧RI s μ
theorem z7o:Wp (ivL ea Γ μ) RI↔Wp (ea Γ μ) (qIL RI):=wp_bind.trans ⟨fun h=>h.imp fun d μ q=>by
  obtain ⟨b,e,q⟩:=wpo_bind.mp q
  exact ⟨b,e,wp_some.mp q⟩,fun h=>h.imp fun d μ ⟨b,e,q⟩=>wpo_bind.mpr ⟨b,e,wp_some.mpr q⟩⟩
theorem z30:qIL RI (.lst ds) μ↔RI (ds,none) μ:=⟨fun ⟨_,e,q⟩=>by cases e;exact q,fun q=>⟨_,rfl,q⟩⟩
theorem zqe {k:Nat} (h:μ[k]?=some (some (.lst ds))):qIL RI (.ref k) μ↔RI (ds,some (k,ds)) μ:=by
 have e:lsC μ (.ref k)=some (ds,some (k,ds)):=by simp [lsC,h]
 exact ⟨fun ⟨_,e',q⟩=>by rw [e] at e';cases e';exact q,fun q=>⟨_,e,q⟩⟩
def qIR (RI:List D×Ck→M→Prop):D→M→Prop:=fun d μ=>∃ k,d=.int k∧Wp (ivR (vC (.int k)) [] μ) RI
theorem z92:Wp (ivR ea Γ μ) RI↔Wp (ea Γ μ) (qIR RI):=by
 refine wp_bind.trans ⟨fun h=>h.imp fun d μ q=>?_,fun h=>h.imp fun d μ q=>?_⟩
 ·obtain ⟨b,μ',e,q⟩:=q
  cases d with
  | int k=>exact ⟨_,rfl,_,_,e,q⟩
  | _=>cases e
 ·obtain ⟨b,rfl,q⟩:=q
  exact q
theorem zkf {c:Ck} (I:List D→G→M→Prop) (ds:List D) (h0:I ds Γ μ)
  (hs:∀ d r Γ μ,I (d::r) Γ μ→Wp (g d Γ μ) fun Γ1 μ1=>Ws (sb Γ1 μ1) fun o Γ2 μ2=>match o with
   | .nx=>z2k c μ2∧I r Γ2 μ2
   | .ct=>z2k c μ2∧I r Γ2 μ2
   | .bk=>Q .nx Γ2 μ2
   | .rt d=>Q (.rt d) Γ2 μ2)
  (hq:∀ Γ μ,I [] Γ μ→Q .nx Γ μ):Ws (z4d c g sb ds Γ μ) Q:=by
 induction ds generalizing Γ μ with
 | nil=>exact ws_some.mpr (hq _ _ h0)
 | cons d r ih =>
  refine ws_bind.mpr ((hs d r Γ μ h0).imp fun Γ1 μ1 h=>wss_bind.mpr (h.imp fun o Γ2 μ2 h=>?_))
  cases o with
  | nx=>show Ws (chk _ _) Q;rw [z1p h.1];exact ih h.2
  | ct=>show Ws (chk _ _) Q;rw [z1p h.1];exact ih h.2
  | bk=>exact ws_some.mpr h
  | rt d=>exact ws_some.mpr h
def qCo (own:List Str) (cap:List (Str×Nat)) (g:GV) (tc:BV) (te:EV) (Γ:G) (R:D→M→Prop):List D×Ck→M→Prop:=fun s μ=>s.1.length≤1000000∧Wp (z1m s.2 g tc te s.1 (z50 own cap Γ) μ) fun rs μ=>R (.lst rs) μ
theorem zj7 {own:List Str} {cap:List (Str×Nat)} {c:Ck} {tc:BV} {te:EV}:qCo own cap g tc te Γ R (ds,c) μ↔ds.length≤1000000∧Wp (z1m c g tc te ds (z50 own cap Γ) μ) fun rs μ=>R (.lst rs) μ:=Iff.rfl
theorem z56 {own:List Str} {cap:List (Str×Nat)} {tc:BV} {te:EV}:Wp (z10 own cap iv g tc te Γ μ) R↔Wp (iv Γ μ) (qCo own cap g tc te Γ R):=by
 rw [z63]
 cases h:iv Γ μ with
 | none=>exact ⟨fun ⟨_,_,e,_⟩=>(by cases e),fun ⟨_,_,e,_⟩=>(by cases e)⟩
 | some p =>
  obtain ⟨⟨its,c⟩,μ1⟩:=p
  rw [wp_some,z8d,zj7]
  by_cases hl:its.length≤1000000
  ·rw [if_pos hl]
   cases e:z1m c g tc te its (z50 own cap Γ) μ1 with
   | none=>exact ⟨fun ⟨_,_,e,_⟩=>(by cases e),fun ⟨_,_,_,e,_⟩=>(by cases e)⟩
   | some q=>exact ⟨fun ⟨_,_,e,h⟩=>by cases e;exact ⟨hl,_,_,rfl,h⟩,fun ⟨_,_,_,e,h⟩=>by cases e;exact ⟨_,_,rfl,h⟩⟩
  ·rw [if_neg hl]
   exact ⟨fun ⟨_,_,e,_⟩=>(by cases e),fun h=>absurd h.1 hl⟩
theorem comp_inv {c:Ck} {tc:BV} {te:EV} (I:List D→List D→G→M→Prop) (ds:List D) {R:List D→M→Prop} (h0:I [] ds Γ μ)
  (hs:∀ done d r Γ μ,I done (d::r) Γ μ→Wp (g d Γ μ) fun Γ1 μ1=>Wp (tc Γ1 μ1) fun b μ2=>if b=true then Wp (te Γ1 μ2) fun x μ3=>z2k c μ3∧I (done++[x]) r Γ1 μ3 else z2k c μ2∧I done r Γ1 μ2)
  (hq:∀ done Γ μ,I done [] Γ μ→R done μ):Wp (z1m c g tc te ds Γ μ) R:=by
 suffices H:∀ (ds done:List D) (Γ:G) (μ:M),I done ds Γ μ→Wp (z1m c g tc te ds Γ μ) fun rs μ=>R (done++rs) μ from (H ds [] Γ μ h0).imp fun rs μ h=>h
 intro ds
 induction ds with
 | nil=>intro done Γ μ h;exact wp_some.mpr (by simpa using hq _ _ _ h)
 | cons d r ih =>
  intro done Γ μ h
  refine wp_bind.mpr ((hs done d r Γ μ h).imp fun Γ1 μ1 h=>wp_bind.mpr (h.imp fun b μ2 h=>?_))
  cases b with
  | true =>
   refine wp_bind.mpr (Wp.imp h fun x μ3 h=>?_)
   show Wp (chk _ _) _
   rw [z1p h.1]
   refine wp_bind.mpr ((ih (done++[x]) Γ1 μ3 h.2).imp fun rs μ4 h=>wp_some.mpr ?_)
   simpa using h
  | false =>
   show Wp (chk _ _) _
   have h:z2k c μ2∧I done r Γ1 μ2:=h
   rw [z1p h.1]
   exact ih done Γ1 μ2 h.2
def zwk (R:D→M→Prop):Out→G→M→Prop:=fun o _ μ=>match o with
 | .rt d=>R d μ
 | .nx=>R .non μ
 | _=>False
theorem z3l:zwk R (.rt d) Γ μ↔R d μ:=Iff.rfl
theorem z3m:zwk R .nx Γ μ↔R .non μ:=Iff.rfl
theorem z7m (h:ds.length=m):Wp (z66 n m sa ds μ) R↔Ws (sa (ds.map some++List.replicate (n - ds.length) none) μ) (zwk R):=by
 unfold z66
 rw [if_pos h]
 refine wps_bind.trans ⟨fun h=>h.imp fun o _ _ q=>?_,fun h=>h.imp fun o _ _ q=>?_⟩
 ·cases o with
  | rt d=>exact (wp_some (Q:=R)).mp q
  | nx=>exact (wp_some (Q:=R)).mp q
  | bk=>obtain ⟨_,_,e,_⟩:=q;cases e
  | ct=>obtain ⟨_,_,e,_⟩:=q;cases e
 ·cases o with
  | rt d=>exact (wp_some (Q:=R)).mpr q
  | nx=>exact (wp_some (Q:=R)).mpr q
  | bk=>exact absurd q id
  | ct=>exact absurd q id
theorem z7z {k:Nat} (h:k≤1000000000):qIR RI (.int (k:Int)) μ↔RI (z2z 0 k,none) μ:=by
 have e:ivR (vC (.int (k:Int))) [] μ=some ((z2z 0 k,none),μ):=by
  show (if -1000000000≤(k:Int)∧(k:Int)≤1000000000 then some ((z2z 0 ((k:Int).toNat),(none:Ck)),μ) else none)=_
  rw [if_pos (by omega)];rfl
 constructor
 ·rintro ⟨_,e',q⟩
  cases e'
  rw [e] at q
  exact wp_some.mp q
 ·intro q
  exact ⟨_,rfl,by rw [e];exact wp_some.mpr q⟩
theorem z7g {k m:Nat} (h:k<m):(z2z 0 m).drop k=.int (k:Int)::(z2z 0 m).drop (k+1):=by
 have hl:(z2z 0 m).length=m:=by simp [z2z]
 rw [List.drop_eq_getElem_cons (by omega)]
 congr 1
 simp [z2z]
theorem zb3 (I:Nat→G→M→Prop) {m:Nat} (h0:I 0 Γ μ)
  (hs:∀ k Γ μ,k<m→I k Γ μ→Wp (g (.int (k:Int)) Γ μ) fun Γ1 μ1=>Ws (sb Γ1 μ1) fun o Γ2 μ2=>match o with
   | .nx=>I (k+1) Γ2 μ2
   | .ct=>I (k+1) Γ2 μ2
   | .bk=>Q .nx Γ2 μ2
   | .rt d=>Q (.rt d) Γ2 μ2)
  (hq:∀ Γ μ,I m Γ μ→Q .nx Γ μ):Ws (z4d none g sb (z2z 0 m) Γ μ) Q:=by
 have hl:(z2z 0 m).length=m:=by simp [z2z]
 refine zkf (fun r Γ μ=>∃ k,k≤m∧r=(z2z 0 m).drop k∧I k Γ μ) _ ⟨0,by omega,rfl,h0⟩ ?_ ?_
 ·rintro d r Γ μ ⟨k,hk,e,h⟩
  have hk':k<m:=by
   rcases Nat.lt_or_ge k m with z | z
   ·exact z
   ·rw [List.drop_eq_nil_of_le (by omega)] at e;cases e
  rw [z7g hk'] at e
  cases e
  refine (hs k Γ μ hk' h).imp fun Γ1 μ1 h=>h.imp fun o Γ2 μ2 h=>?_
  cases o with
  | nx=>exact ⟨trivial,k+1,hk',rfl,h⟩
  | ct=>exact ⟨trivial,k+1,hk',rfl,h⟩
  | bk=>exact h
  | rt d=>exact h
 ·rintro Γ μ ⟨k,hk,e,h⟩
  have:k=m:=by
   rcases Nat.lt_or_ge k m with z | z
   ·rw [z7g z] at e;cases e
   ·omega
  subst this
  exact hq _ _ h
theorem z6d {te:EV} (I:Nat→List D→G→M→Prop) {m:Nat} {R:List D→M→Prop} (h0:I 0 [] Γ μ)
  (hs:∀ k done Γ μ,k<m→I k done Γ μ→Wp (g (.int (k:Int)) Γ μ) fun Γ1 μ1=>Wp (te Γ1 μ1) fun x μ3=>I (k+1) (done++[x]) Γ1 μ3)
  (hq:∀ done Γ μ,I m done Γ μ→R done μ):Wp (z1m none g z2c te (z2z 0 m) Γ μ) R:=by
 have hl:(z2z 0 m).length=m:=by simp [z2z]
 refine comp_inv (fun done r Γ μ=>∃ k,k≤m∧r=(z2z 0 m).drop k∧I k done Γ μ) _ ⟨0,by omega,rfl,h0⟩ ?_ ?_
 ·rintro done d r Γ μ ⟨k,hk,e,h⟩
  have hk':k<m:=by
   rcases Nat.lt_or_ge k m with z | z
   ·exact z
   ·rw [List.drop_eq_nil_of_le (by omega)] at e;cases e
  rw [z7g hk'] at e
  cases e
  refine (hs k done Γ μ hk' h).imp fun Γ1 μ1 h=>?_
  refine w_Yes.mpr ?_
  show Wp _ _
  exact h.imp fun x μ3 h=>⟨trivial,k+1,hk',rfl,h⟩
 ·rintro done Γ μ ⟨k,hk,e,h⟩
  have:k=m:=by
   rcases Nat.lt_or_ge k m with z | z
   ·rw [z7g z] at e;cases e
   ·omega
  subst this
  exact hq _ _ _ h
theorem z5f {i j:Int}:z0w (.int i) (.int j) μ=some (.int (i+j),μ):=rfl
theorem z9h {i j:Int}:zd7 (.int i) (.int j) μ=some (.int (i - j),μ):=rfl
theorem zlq {i j:Int}:fGt (.int i) (.int j) μ=some (.bl (decide (j<i)),μ):=rfl
theorem zlo {i j:Int}:fLt (.int i) (.int j) μ=some (.bl (decide (i<j)),μ):=rfl
theorem zlr {i j:Int}:fGe (.int i) (.int j) μ=some (.bl (decide (j≤i)),μ):=rfl
theorem zlp {i j:Int}:fLe (.int i) (.int j) μ=some (.bl (decide (i≤j)),μ):=rfl
theorem zls {i j:Int}:fEq (.int i) (.int j) μ=some (.bl (decide (i=j)),μ):=by unfold fEq;rw [zba];rfl
theorem zu2 {i j:Int} (h:0<j):zkl (.int i) (.int j) μ=some (.int (i % j),μ):=by exact if_pos (c:=zg1 i j) h
theorem zws {i j:Int} (h:0<j) (h2:j<2 ^ 200):zs9 (.int i) (.int j) μ=some (.int (i / j),μ):=by exact if_pos (c:=zd4 i j) ⟨h,h2⟩
theorem z9k {i j:Int}:zkm (.int i) (.int j) μ=some (.int (if j<i then j else i),μ):=rfl
theorem z9l {i j:Int}:zx9 (.int i) (.int j) μ=some (.int (if j > i then j else i),μ):=rfl
theorem z9j {i:Int}:zns (.int i) μ=some (.int (-i),μ):=rfl
theorem z9i {b:Bool}:zs6 (.bl b) μ=some (.bl (!b),μ):=rfl
theorem z5g {b:Bool}:zgx (.bl b) μ=some (.int (if b=true then 1 else 0),μ):=znt
theorem zdo (h:ds.length≤1000):zac ds μ=some (.tup ds,μ):=if_pos h
theorem z6n (h:ds.length≤1000):z2m ds μ=some (.lst ds,μ):=if_pos h
theorem zqx (h:ds.length≤1000):z8j ds μ=some (.ref μ.length,μ++[some (.lst ds)]):=if_pos h
end
end L3
namespace Law
open PySem L2 L3
noncomputable def top (i:Nat):Stmt:=PySem.Challenge.pw_morethanhalf_k07_what_answers_tell.main.body.getD i (.Pass ⟨0,0,0,0⟩)
section
variable {P:Program} {w:World} {K:PySem.W.Frag} {mg:Str→Option Value} {base:Heap} {f:Addr} {fd:FuncData}
theorem sc_check_things:FnScope ["many", "answers", "i", "j", "alike"] ["many", "answers"] (z06 (top 16)):=⟨rfl,rfl,rfl,by decide +kernel,rfl,by decide +kernel,by decide +kernel⟩
noncomputable def z35 (C_NoThing:Addr):SX :=
  (z6k (zih (upB (vT (v2 fLt (z01 0) (vC (.int 0)))))
   (z5o C_NoThing ((z01 0)::[]))
   (upS sNx))
  (zsy (ivL (z01 1)) (z21 3 (z0a (z00 2) (z0a (z00 3) (z0a (z00 4) z23))))
   (z6k (zih (upB (zbg (zrt (vT (z57 fLe fLt (vC (.int 0)) (z01 2) (z01 0))) (vT (z57 fLe fLt (vC (.int 0)) (z01 3) (z01 0))))))
    (z5o C_NoThing ((z01 2)::((z01 3)::((z01 0)::[]))))
    (upS sNx))
   (zih (upB (vT (v2 fEq (z01 2) (z01 3))))
    (z5o C_NoThing ((z01 2)::[]))
    (upS sNx)))))
noncomputable def z1i (C_NoThing:Addr):FX:=zgd 5 2 (z35 C_NoThing)
theorem z82 {k:Nat} {C_NoThing:Addr} (F:Fun K "check_things" "check_things" (top 16) f fd) (e_NoThing:mg "NoThing" = some (.ref C_NoThing)∧z3r K C_NoThing):FnOk P w K mg base (CXr P w) (k+1) f fd ["many", "answers"] (spX K (z1i C_NoThing)):=by
 unfold z1i z35
 exact zs3 F sc_check_things fun cdv A outer s H E hr =>
  (z7k (zhe (zly (zsi (z02 0) z0d))
   (z51 (z61 (zm3 (zln (by decide) (zqj (z02 0) (zln (by decide) pj0)))) e_NoThing.1 e_NoThing.2))
   zbj)
  (z51 (zse (zrf ⟨rfl,rfl⟩) rfl (zvn (z19 (z02 1))) (zvo (z62 (n:=3) (z0p (z09 (i:=2) sc_check_things.nd rfl (Or.inl rfl)) (z0p (z09 (i:=3) sc_check_things.nd rfl (Or.inl rfl)) (z0p (z09 (i:=4) sc_check_things.nd rfl (Or.inl rfl)) z3w)))))
   (z7k (zhe (zly (z7l (PW.pt (zsf (zeq zu8 ztc zqy zta z0d (z02 2) (z02 0)) (zpp (zeq zu8 ztc zqy zta z0d (z02 3) (z02 0)))))))
    (z51 (z61 (zm3 (zln (by decide) (zqj (z02 2) (zln (by decide) (zqj (z02 3) (zln (by decide) (zqj (z02 0) (zln (by decide) pj0)))))))) e_NoThing.1 e_NoThing.2))
    zbj)
   (z51 (zhe (zly (z6h hr (z02 2) (z02 3)))
    (z51 (z61 (zm3 (zln (by decide) (zqj (z02 2) (zln (by decide) pj0)))) e_NoThing.1 e_NoThing.2))
    zbj))))))
theorem zmj:FnScope ["homes", "old", "new"] ["homes", "old", "new"] (z06 (top 17)):=⟨rfl,rfl,rfl,by decide +kernel,rfl,by decide +kernel,by decide +kernel⟩
theorem za5:((["thing", "home"]:List Str)++([("old",1),("new",2)]:List (Str×Nat)).map (·.1)).Nodup:=by decide +kernel
noncomputable def zb9:SV :=
  (z2p (zaj ["thing", "home"] [("old",1),("new",2)] (z01 0) (z21 2 (z0a (z00 0) (z0a (z00 1) z23))) z2c (z01 0) (vIf (vT (v2 fEq (z01 1) (z01 2))) (z01 3) (z01 1))))
noncomputable def z1y:List D→M→Option (D×M):=z66 3 3 (zb9)
theorem zn6 {k:Nat} (F:Fun K "moved" "moved" (top 17) f fd):FnOk P w K mg base CX0 (k+1) f fd ["homes", "old", "new"] (spM K (z1y)):=by
 unfold z1y zb9
 exact z8z F zmj fun cdv A outer s H E hr =>
  (z0b (z0r (zm6 (own:=["thing", "home"]) (cap:=[("old",1),("new",2)]) (z1o rfl) (z02 0)
   (fun _ _ _ _ _=>(z62 (n:=2) (z0p (z09 (i:=0) za5 rfl (Or.inl rfl)) (z0p (z09 (i:=1) za5 rfl (Or.inl rfl)) z3w)))) (fun _ _ _ _ _=>z1q)
   (fun _ _ _ _ _=>(z02 0)) (fun _ _ _ _ _=>(zhm (z6h hr (z02 1) (z02 2)) (z02 3) (z02 1))))))
theorem sc_homes_of:FnScope ["answers", "homes", "i", "j", "alike"] ["answers"] (z06 (top 18)):=⟨rfl,rfl,rfl,by decide +kernel,rfl,by decide +kernel,by decide +kernel⟩
noncomputable def z5x (f_moved:List D→M→Option (D×M)):SV :=
  (z0u (z0z zhx (z00 1))
  (z0u (z8y (ivL (z01 0)) (z21 3 (z0a (z00 2) (z0a (z00 3) (z0a (z00 4) z23))))
   (z0u (z2j (z24 (z01 1) (z01 2) (z01 2)))
   (z0u (z2j (z24 (z01 1) (z01 3) (z01 3)))
   (sIf (z5k (z01 4))
    (z0z (vL f_moved (z04 (z01 1) (z04 (v2 z5v (z01 1) (z01 3)) (z04 (v2 z5v (z01 1) (z01 2)) z0e)))) (z00 1))
    sNx))))
  (z2p (z01 1))))
noncomputable def z1s (f_moved:List D→M→Option (D×M)):List D→M→Option (D×M):=z66 5 1 (z5x f_moved)
theorem zdt {f_moved:List D→M→Option (D×M)} {k_moved k:Nat} (F:Fun K "homes_of" "homes_of" (top 18) f fd) (D_moved:Df P w K mg base k_moved "moved" ["homes", "old", "new"] (spM K f_moved)) (h_moved:k_moved≤k):FnOk P w K mg base CX0 (k+1) f fd ["answers"] (spM K (z1s f_moved)):=by
 unfold z1s z5x
 exact z8z F sc_homes_of fun cdv A outer s H E hr =>
  (z07 (z0o (i:=1) sc_homes_of.nd rfl (Or.inl rfl) zoc)
  (z07 (z2x PassesOwn.never rfl (z19 (z02 0)) (z62 (n:=3) (z0p (z09 (i:=2) sc_homes_of.nd rfl (Or.inl rfl)) (z0p (z09 (i:=3) sc_homes_of.nd rfl (Or.inl rfl)) (z0p (z09 (i:=4) sc_homes_of.nd rfl (Or.inl rfl)) z3w))))
   (z07 (z3i (zah (z02 1) (z02 2) (z02 2)))
   (z07 (z3i (zah (z02 1) (z02 3) (z02 3)))
   (z0b (z2w (z2i (z02 4))
    (z0b (z0o (i:=1) sc_homes_of.nd rfl (Or.inl rfl) (z2t D_moved (hr.mono h_moved) (z03 (z02 1) (z03 (zep hr (z02 1) (z02 3)) (z03 (zep hr (z02 1) (z02 2)) z08))))))
    z1f)))))
  (z0b (z0r (z02 1)))))
theorem sc_can_be:FnScope ["many", "answers", "homes"] ["many", "answers"] (z06 (top 19)):=⟨rfl,rfl,rfl,by decide +kernel,rfl,by decide +kernel,by decide +kernel⟩
theorem z5s:((["i", "j", "alike"]:List Str)++([("homes",2)]:List (Str×Nat)).map (·.1)).Nodup:=by decide +kernel
noncomputable def z8l (f_homes_of:List D→M→Option (D×M)) (f_check_things:FX):SX :=
  (z6k (zbr (vLX f_check_things (upL (z04 (z01 0) (z04 (z01 1) z0e)))))
  (upS (z0u (z0z (vL f_homes_of (z04 (z01 1) z0e)) (z00 2))
  (z2p (v1 zri (z10 ["i", "j", "alike"] [("homes",2)] (ivL (z01 1)) (z21 3 (z0a (z00 0) (z0a (z00 1) (z0a (z00 2) z23)))) z2c (vOr (z01 2) (v2 fNe (v2 z5v (z01 3) (z01 0)) (v2 z5v (z01 3) (z01 1))))))))))
noncomputable def z88 (f_homes_of:List D→M→Option (D×M)) (f_check_things:FX):FX:=zgd 3 2 (z8l f_homes_of f_check_things)
theorem zji {f_homes_of:List D→M→Option (D×M)} {f_check_things:FX} {k_homes_of k_check_things k:Nat} (F:Fun K "can_be" "can_be" (top 19) f fd) (D_homes_of:Df P w K mg base k_homes_of "homes_of" ["answers"] (spM K f_homes_of)) (h_homes_of:k_homes_of≤k) (D_check_things:DfX P w K mg base k_check_things "check_things" ["many", "answers"] (spX K f_check_things)) (h_check_things:k_check_things≤k) (m_all:mg "all" = none):FnOk P w K mg base (CXr P w) (k+1) f fd ["many", "answers"] (spX K (z88 f_homes_of f_check_things)):=by
 unfold z88 z8l
 exact zs3 F sc_can_be fun cdv A outer s H E hr =>
  (z7k (zhf (zhg D_check_things (hr.mono h_check_things) (zg2 (z03 (z02 0) (z03 (z02 1) z08)))))
  (zo5 (z07 (z0o (i:=2) sc_can_be.nd rfl (Or.inr rfl) (z2t D_homes_of (hr.mono h_homes_of) (z03 (z02 1) z08)))
  (z0b (z0r (zsk m_all (z47 (own:=["i", "j", "alike"]) (cap:=[("homes",2)]) (z1o rfl) (z19 (z02 1))
   (fun _ _ _ _ _=>(z62 (n:=3) (z0p (z09 (i:=0) z5s rfl (Or.inl rfl)) (z0p (z09 (i:=1) z5s rfl (Or.inl rfl)) (z0p (z09 (i:=2) z5s rfl (Or.inl rfl)) z3w))))) (fun _ _ _ _ _=>z1q)
   (fun _ _ _ _ _=>(zy4 (z02 2) (zpu (zxk hr (zep hr (z02 3) (z02 0)) (zep hr (z02 3) (z02 1)))))))))))))
theorem z97:FnScope ["many", "answers"] ["many", "answers"] (z06 (top 20)):=⟨rfl,rfl,rfl,by decide +kernel,rfl,by decide +kernel,by decide +kernel⟩
noncomputable def z3q (f_can_be:FX) (C_NoFit:Addr):SX :=
  (zih (zo2 (bTX (vLX f_can_be (upL (z04 (z01 0) (z04 (z01 1) z0e))))))
   (zoo C_NoFit (vC (.str "the answers cannot all be right")))
   (upS sNx))
noncomputable def z3o (f_can_be:FX) (C_NoFit:Addr):FX:=zgd 2 2 (z3q f_can_be C_NoFit)
theorem z9n {f_can_be:FX} {k_can_be k:Nat} {C_NoFit:Addr} (F:Fun K "check_right" "check_right" (top 20) f fd) (D_can_be:DfX P w K mg base k_can_be "can_be" ["many", "answers"] (spX K f_can_be)) (h_can_be:k_can_be≤k) (e_NoFit:mg "NoFit" = some (.ref C_NoFit)∧z3r K C_NoFit):FnOk P w K mg base (CXr P w) (k+1) f fd ["many", "answers"] (spX K (z3o f_can_be C_NoFit)):=by
 unfold z3o z3q
 exact zs3 F z97 fun cdv A outer s H E hr =>
  (z51 (zhe (zsd (zsc (zhg D_can_be (hr.mono h_can_be) (zg2 (z03 (z02 0) (z03 (z02 1) z08))))))
   (z51 (zlz zg3 e_NoFit.1 e_NoFit.2))
   zbj))
theorem sc_fits:FnScope ["kinds", "answers", "i", "j", "alike"] ["kinds", "answers"] (z06 (top 21)):=⟨rfl,rfl,rfl,by decide +kernel,rfl,by decide +kernel,by decide +kernel⟩
noncomputable def ze9:SV :=
  (z0u (z8y (ivL (z01 1)) (z21 3 (z0a (z00 2) (z0a (z00 3) (z0a (z00 4) z23))))
   (sIf (vT (v2 fNe (v2 fEq (v2 fIx (z01 0) (z01 2)) (v2 fIx (z01 0) (z01 3))) (z01 4)))
    (z2p (vC (.bl false)))
    sNx))
  (z2p (vC (.bl true))))
noncomputable def z4m:List D→M→Option (D×M):=z66 5 2 (ze9)
theorem zr1 {k:Nat} (F:Fun K "fits" "fits" (top 21) f fd):FnOk P w K mg base CX0 (k+1) f fd ["kinds", "answers"] (spM K (z4m)):=by
 unfold z4m ze9
 exact z8z F sc_fits fun cdv A outer s H E hr =>
  (z07 (z2x PassesOwn.never rfl (z19 (z02 1)) (z62 (n:=3) (z0p (z09 (i:=2) sc_fits.nd rfl (Or.inl rfl)) (z0p (z09 (i:=3) sc_fits.nd rfl (Or.inl rfl)) (z0p (z09 (i:=4) sc_fits.nd rfl (Or.inl rfl)) z3w))))
   (z0b (z2w (zg4 hr (zob hr (z5m (z02 0) (z02 2)) (z5m (z02 0) (z02 3))) (z02 4))
    (z0b (z0r zod))
    z1f)))
  (z0b (z0r zod)))
theorem sc_one_thing_more:FnScope ["sort", "most", "used"] ["sort", "most"] (z06 (top 9)):=⟨rfl,rfl,rfl,by decide +kernel,rfl,by decide +kernel,by decide +kernel⟩
theorem z5r:((["number"]:List Str)++([("sort",0)]:List (Str×Nat)).map (·.1)).Nodup:=by decide +kernel
noncomputable def z28:SV :=
  (z0u (z0z (v2 z0w (v2 zgw (z01 0) (v1 zns (vC (.int 1)))) (vC (.int 1))) (z00 2))
  (z2p (z10 ["number"] [("sort",0)] (zv2 (v2 zkm (v2 z0w (z01 2) (vC (.int 1))) (z01 1))) (z00 0) z2c (v2 z0w (z01 1) (vL z2m (z04 (z01 0) z0e))))))
noncomputable def z0f:List D→M→Option (D×M):=z66 3 2 (z28)
theorem z6p {k:Nat} (F:Fun K "one_thing_more" "one_thing_more" (top 9) f fd) (m_max:mg "max" = none) (m_min:mg "min" = none) (m_range:mg "range" = none):FnOk P w K mg base CX0 (k+1) f fd ["sort", "most"] (spM K (z0f)):=by
 unfold z0f z28
 exact z8z F sc_one_thing_more fun cdv A outer s H E hr =>
  (z07 (z0o (i:=2) sc_one_thing_more.nd rfl (Or.inl rfl) (z18 (zsh m_max (z02 0) (zsg z0d)) z0d))
  (z0b (z0r (z47 (own:=["number"]) (cap:=[("sort",0)]) (z1o rfl) (zhi m_range (zhj m_min (z18 (z02 2) z0d) (z02 1)))
   (fun _ _ _ _ _=>(z09 (i:=0) z5r rfl (Or.inl rfl))) (fun _ _ _ _ _=>z1q)
   (fun _ _ _ _ _=>(z18 (z02 1) (z2d (z03 (z02 0) z08))))))))
theorem sc_all_sorts:FnScope ["many", "most", "sorts", "step"] ["many", "most"] (z06 (top 10)):=⟨rfl,rfl,rfl,by decide +kernel,rfl,by decide +kernel,by decide +kernel⟩
theorem z5h:((["sort", "longer"]:List Str)++([("most",1)]:List (Str×Nat)).map (·.1)).Nodup:=by decide +kernel
noncomputable def z4u (f_one_thing_more:List D→M→Option (D×M)) (c_MOST_THINGS:D) (C_TooMany:Addr):SX :=
  (z6k (zih (upB (bOr (vT (v2 fLt (z01 0) (vC (.int 0)))) (vT (v2 fGt (z01 0) (vC c_MOST_THINGS)))))
   (z5o C_TooMany ((vC c_MOST_THINGS)::((z01 0)::[])))
   (upS sNx))
  (upS (z0u (z0z (vL z2m (z04 (vL z2m z0e) z0e)) (z00 2))
  (z0u (z8y (ivR (z01 0)) (z00 3)
   (z0z (z9z ["sort", "longer"] [("most",1)] (ivL (z01 2)) (z00 0) z2c (ivL (vL f_one_thing_more (z04 (z01 0) (z04 (z01 2) z0e)))) (z00 1) z2c (z01 1)) (z00 2)))
  (z2p (z01 2))))))
noncomputable def z1u (f_one_thing_more:List D→M→Option (D×M)) (c_MOST_THINGS:D) (C_TooMany:Addr):FX:=zgd 4 2 (z4u f_one_thing_more c_MOST_THINGS C_TooMany)
theorem zc2 {f_one_thing_more:List D→M→Option (D×M)} {k_one_thing_more k:Nat} {c_MOST_THINGS:D} {v_MOST_THINGS:V} {u_MOST_THINGS:Value} {C_TooMany:Addr} (F:Fun K "all_sorts" "all_sorts" (top 10) f fd) (D_one_thing_more:Df P w K mg base k_one_thing_more "one_thing_more" ["sort", "most"] (spM K f_one_thing_more)) (h_one_thing_more:k_one_thing_more≤k) (g_MOST_THINGS:mg "MOST_THINGS" = some u_MOST_THINGS∧RelV v_MOST_THINGS u_MOST_THINGS∧∀ W,DR K W c_MOST_THINGS v_MOST_THINGS) (e_TooMany:mg "TooMany" = some (.ref C_TooMany)∧z3r K C_TooMany) (m_range:mg "range" = none):FnOk P w K mg base (CXr P w) (k+1) f fd ["many", "most"] (spX K (z1u f_one_thing_more c_MOST_THINGS C_TooMany)):=by
 unfold z1u z4u
 exact zs3 F sc_all_sorts fun cdv A outer s H E hr =>
  (z7k (zhe (zly (PW.pt (zm0 (zsi (z02 0) z0d) (zeo (zhn (z02 0) (zho g_MOST_THINGS.1 g_MOST_THINGS.2.1 g_MOST_THINGS.2.2))))))
   (z51 (z61 (zm3 (zln (by decide) (zqj (zho g_MOST_THINGS.1 g_MOST_THINGS.2.1 g_MOST_THINGS.2.2) (zln (by decide) (zqj (z02 0) pj0))))) e_TooMany.1 e_TooMany.2))
   zbj)
  (zo5 (z07 (z0o (i:=2) sc_all_sorts.nd rfl (Or.inl rfl) (z2d (z03 (z2d z08) z08)))
  (z07 (z2x PassesOwn.never rfl (z1e m_range (z02 0)) (z09 (i:=3) sc_all_sorts.nd rfl (Or.inl rfl))
   (z0b (zd8 (i:=2) sc_all_sorts.nd rfl rfl (own:=["sort", "longer"]) (cap:=[("most",1)]) (z1o rfl) (z19 (z02 2))
   (fun _ _ _ _ _=>(z09 (i:=0) z5h rfl (Or.inl rfl))) (fun _ _ _ _ _=>z1q)
   (fun _ _ _ _ _=>(z19 (z2t D_one_thing_more (hr.mono h_one_thing_more) (z03 (z02 0) (z03 (z02 2) z08))))) (fun _ _ _ _ _=>(z09 (i:=1) z5h rfl (Or.inl rfl))) (fun _ _ _ _ _=>z1q)
   (fun _ _ _ _ _=>(z02 1)))))
  (z0b (z0r (z02 2)))))))
theorem z6j:FnScope ["many", "answers"] ["many", "answers"] (z06 (top 22)):=⟨rfl,rfl,rfl,by decide +kernel,rfl,by decide +kernel,by decide +kernel⟩
theorem z5q:((["sort"]:List Str)++([("answers",1)]:List (Str×Nat)).map (·.1)).Nodup:=by decide +kernel
noncomputable def z27 (f_fits:List D→M→Option (D×M)) (f_check_right:FX) (f_all_sorts:FX):SX :=
  (z6k (zbr (vLX f_check_right (upL (z04 (z01 0) (z04 (z01 1) z0e)))))
  (zg9 (z7r ["sort"] [("answers",1)] (vLX f_all_sorts (upL (z04 (z01 0) (z04 (z01 0) z0e)))) (z00 0) (z5k (vL f_fits (z04 (z01 0) (z04 (z01 1) z0e)))) (z01 0))))
noncomputable def z26 (f_fits:List D→M→Option (D×M)) (f_check_right:FX) (f_all_sorts:FX):FX:=zgd 2 2 (z27 f_fits f_check_right f_all_sorts)
theorem z6o {f_fits:List D→M→Option (D×M)} {f_check_right f_all_sorts:FX} {k_fits k_check_right k_all_sorts k:Nat} (F:Fun K "sorts_that_fit" "sorts_that_fit" (top 22) f fd) (D_fits:Df P w K mg base k_fits "fits" ["kinds", "answers"] (spM K f_fits)) (h_fits:k_fits≤k) (D_check_right:DfX P w K mg base k_check_right "check_right" ["many", "answers"] (spX K f_check_right)) (h_check_right:k_check_right≤k) (D_all_sorts:DfX P w K mg base k_all_sorts "all_sorts" ["many", "most"] (spX K f_all_sorts)) (h_all_sorts:k_all_sorts≤k):FnOk P w K mg base (CXr P w) (k+1) f fd ["many", "answers"] (spX K (z26 f_fits f_check_right f_all_sorts)):=by
 unfold z26 z27
 exact zs3 F z6j fun cdv A outer s H E hr =>
  (z7k (zhf (zhg D_check_right (hr.mono h_check_right) (zg2 (z03 (z02 0) (z03 (z02 1) z08)))))
  (z51 (zo6 (zo7 (own:=["sort"]) (cap:=[("answers",1)]) (z1o rfl) (zhg D_all_sorts (hr.mono h_all_sorts) (zg2 (z03 (z02 0) (z03 (z02 0) z08))))
   (fun _ _ _ _ _=>(z09 (i:=0) z5q rfl (Or.inl rfl))) (fun _ _ _ _ _=>(z4e (z2i (z2t D_fits (hr.mono h_fits) (z03 (z02 0) (z03 (z02 1) z08))))))
   (fun _ _ _ _ _=>(z02 0))))))
theorem sc_alike_things:FnScope ["kinds", "by_kind", "thing", "kind"] ["kinds"] (z06 (top 7)):=⟨rfl,rfl,rfl,by decide +kernel,rfl,by decide +kernel,by decide +kernel⟩
noncomputable def z36:SV :=
  (z0u (z0z zhx (z00 1))
  (z0u (z8y (zx1 (z01 0)) (z21 2 (z0a (z00 2) (z0a (z00 3) z23)))
   (z2j (v2l z6v (z24 (z01 1) (z01 3) (vL z8j z0e)) (z01 2))))
  (z2p (v1 zfn (z01 1)))))
noncomputable def z0x:List D→M→Option (D×M):=z66 4 1 (z36)
theorem z83 {k:Nat} (F:Fun K "alike_things" "alike_things" (top 7) f fd) (m_enumerate:mg "enumerate" = none) (m_list:mg "list" = none):FnOk P w K mg base CX0 (k+1) f fd ["kinds"] (spM K (z0x)):=by
 unfold z0x z36
 exact z8z F sc_alike_things fun cdv A outer s H E hr =>
  (z07 (z0o (i:=1) sc_alike_things.nd rfl (Or.inl rfl) zoc)
  (z07 (z2x PassesOwn.never rfl (zpr m_enumerate (z02 0)) (z62 (n:=2) (z0p (z09 (i:=2) sc_alike_things.nd rfl (Or.inl rfl)) (z0p (z09 (i:=3) sc_alike_things.nd rfl (Or.inl rfl)) z3w)))
   (z0b (z3i (zda (zah (z02 1) (z02 3) (zai z08)) (z02 2)))))
  (z0b (z0r (zpv m_list (z02 1))))))
theorem sc_more_than_half:FnScope ["kinds", "things"] ["kinds"] (z06 (top 8)):=⟨rfl,rfl,rfl,by decide +kernel,rfl,by decide +kernel,by decide +kernel⟩
noncomputable def z1l (f_alike_things:List D→M→Option (D×M)):SV :=
  (z0u (z8y (ivL (vL f_alike_things (z04 (z01 0) z0e))) (z00 1)
   (sIf (vT (v2 fGt (v2 z1n (vC (.int 2)) (v1 z2b (z01 1))) (v1 z2b (z01 0))))
    (z2p (z01 1))
    sNx))
  (z2p (vL z2m z0e)))
noncomputable def z17 (f_alike_things:List D→M→Option (D×M)):List D→M→Option (D×M):=z66 2 1 (z1l f_alike_things)
theorem z6q {f_alike_things:List D→M→Option (D×M)} {k_alike_things k:Nat} (F:Fun K "more_than_half" "more_than_half" (top 8) f fd) (D_alike_things:Df P w K mg base k_alike_things "alike_things" ["kinds"] (spM K f_alike_things)) (h_alike_things:k_alike_things≤k) (m_len:mg "len" = none):FnOk P w K mg base CX0 (k+1) f fd ["kinds"] (spM K (z17 f_alike_things)):=by
 unfold z17 z1l
 exact z8z F sc_more_than_half fun cdv A outer s H E hr =>
  (z07 (z2x PassesOwn.never rfl (z19 (z2t D_alike_things (hr.mono h_alike_things) (z03 (z02 0) z08))) (z09 (i:=1) sc_more_than_half.nd rfl (Or.inl rfl))
   (z0b (z2w (zhn (z3x z0d (z3j m_len (z02 1))) (z3j m_len (z02 0)))
    (z0b (z0r (z02 1)))
    z1f)))
  (z0b (z0r (z2d z08))))
theorem sc_half_ends:FnScope ["kinds", "things"] ["kinds"] (z06 (top 13)):=⟨rfl,rfl,rfl,by decide +kernel,rfl,by decide +kernel,by decide +kernel⟩
theorem z9u:((["thing"]:List Str)++([]:List (Str×Nat)).map (·.1)).Nodup:=by decide +kernel
noncomputable def z4t (f_more_than_half:List D→M→Option (D×M)):SV :=
  (z0u (z0z (vL f_more_than_half (z04 (z01 0) z0e)) (z00 1))
  (z2p (vIf (z5k (z01 1)) (z10 ["thing"] [] (ivL (z01 1)) (z00 0) z2c (vL zac (z04 (vC (.str "one")) (z04 (z01 0) z0e)))) (vL z2m (z04 (vL zac (z04 (vC (.str "none")) z0e)) z0e)))))
noncomputable def z3d (f_more_than_half:List D→M→Option (D×M)):List D→M→Option (D×M):=z66 2 1 (z4t f_more_than_half)
theorem zc1 {f_more_than_half:List D→M→Option (D×M)} {k_more_than_half k:Nat} (F:Fun K "half_ends" "half_ends" (top 13) f fd) (D_more_than_half:Df P w K mg base k_more_than_half "more_than_half" ["kinds"] (spM K f_more_than_half)) (h_more_than_half:k_more_than_half≤k):FnOk P w K mg base CX0 (k+1) f fd ["kinds"] (spM K (z3d f_more_than_half)):=by
 unfold z3d z4t
 exact z8z F sc_half_ends fun cdv A outer s H E hr =>
  (z07 (z0o (i:=1) sc_half_ends.nd rfl (Or.inl rfl) (z2t D_more_than_half (hr.mono h_more_than_half) (z03 (z02 0) z08)))
  (z0b (z0r (zhm (z2i (z02 1)) (z47 (own:=["thing"]) (cap:=[]) (z1o rfl) (z19 (z02 1))
   (fun _ _ _ _ _=>(z09 (i:=0) z9u rfl (Or.inl rfl))) (fun _ _ _ _ _=>z1q)
   (fun _ _ _ _ _=>(zag (z03 zg3 (z03 (z02 0) z08))))) (z2d (z03 (zag (z03 zg3 z08)) z08))))))
theorem sc_common_end:FnScope ["ends", "end"] ["ends"] (z06 (top 14)):=⟨rfl,rfl,rfl,by decide +kernel,rfl,by decide +kernel,by decide +kernel⟩
theorem z86:((["others"]:List Str)++([("end",1)]:List (Str×Nat)).map (·.1)).Nodup:=by decide +kernel
noncomputable def z46 (c_OPEN:D):SV :=
  (z0u (z8y (ivL (v2 fIx (z01 0) (vC (.int 0)))) (z00 1)
   (sIf (z5k (v1 zri (z10 ["others"] [("end",1)] (ivL (z01 0)) (z00 0) z2c (v2 (znu false) (z01 1) (z01 0)))))
    (z2p (z01 1))
    sNx))
  (z2p (vC c_OPEN)))
noncomputable def z1c (c_OPEN:D):List D→M→Option (D×M):=z66 2 1 (z46 c_OPEN)
theorem zau {k:Nat} {c_OPEN:D} {v_OPEN:V} {u_OPEN:Value} (F:Fun K "common_end" "common_end" (top 14) f fd) (g_OPEN:mg "OPEN" = some u_OPEN∧RelV v_OPEN u_OPEN∧∀ W,DR K W c_OPEN v_OPEN) (m_all:mg "all" = none):FnOk P w K mg base CX0 (k+1) f fd ["ends"] (spM K (z1c c_OPEN)):=by
 unfold z1c z46
 exact z8z F sc_common_end fun cdv A outer s H E hr =>
  (z07 (z2x PassesOwn.never rfl (z19 (z5m (z02 0) z0d)) (z09 (i:=1) sc_common_end.nd rfl (Or.inr rfl))
   (z0b (z2w (z2i (zsk m_all (z47 (own:=["others"]) (cap:=[("end",1)]) (z1o rfl) (z19 (z02 0))
   (fun _ _ _ _ _=>(z09 (i:=0) z86 rfl (Or.inl rfl))) (fun _ _ _ _ _=>z1q)
   (fun _ _ _ _ _=>(zw6 hr (z02 1) (z02 0))))))
    (z0b (z0r (z02 1)))
    z1f)))
  (z0b (z0r (zho g_OPEN.1 g_OPEN.2.1 g_OPEN.2.2))))
theorem zmi:FnScope ["many", "answers"] ["many", "answers"] (z06 (top 23)):=⟨rfl,rfl,rfl,by decide +kernel,rfl,by decide +kernel,by decide +kernel⟩
theorem zgm:((["sort"]:List Str)++([]:List (Str×Nat)).map (·.1)).Nodup:=by decide +kernel
noncomputable def zb8 (f_common_end:List D→M→Option (D×M)) (f_half_ends:List D→M→Option (D×M)) (f_sorts_that_fit:FX):SX :=
  (zg9 (vLX (upF f_common_end) (zfh (z7r ["sort"] [] (vLX f_sorts_that_fit (upL (z04 (z01 0) (z04 (z01 1) z0e)))) (z00 0) z2c (vL f_half_ends (z04 (z01 0) z0e))) (upL z0e))))
noncomputable def zax (f_common_end:List D→M→Option (D×M)) (f_half_ends:List D→M→Option (D×M)) (f_sorts_that_fit:FX):FX:=zgd 2 2 (zb8 f_common_end f_half_ends f_sorts_that_fit)
theorem zn5 {f_common_end f_half_ends:List D→M→Option (D×M)} {f_sorts_that_fit:FX} {k_common_end k_half_ends k_sorts_that_fit k:Nat} (F:Fun K "tells" "tells" (top 23) f fd) (D_common_end:Df P w K mg base k_common_end "common_end" ["ends"] (spM K f_common_end)) (h_common_end:k_common_end≤k) (D_half_ends:Df P w K mg base k_half_ends "half_ends" ["kinds"] (spM K f_half_ends)) (h_half_ends:k_half_ends≤k) (D_sorts_that_fit:DfX P w K mg base k_sorts_that_fit "sorts_that_fit" ["many", "answers"] (spX K f_sorts_that_fit)) (h_sorts_that_fit:k_sorts_that_fit≤k):FnOk P w K mg base (CXr P w) (k+1) f fd ["many", "answers"] (spX K (zax f_common_end f_half_ends f_sorts_that_fit)):=by
 unfold zax zb8
 exact zs3 F zmi fun cdv A outer s H E hr =>
  (z51 (zo6 (zy3 D_common_end (hr.mono h_common_end) (zpo (zo7 (own:=["sort"]) (cap:=[]) (z1o rfl) (zhg D_sorts_that_fit (hr.mono h_sorts_that_fit) (zg2 (z03 (z02 0) (z03 (z02 1) z08))))
   (fun _ _ _ _ _=>(z09 (i:=0) zgm rfl (Or.inl rfl))) (fun _ _ _ _ _=>z1q)
   (fun _ _ _ _ _=>(z2t D_half_ends (hr.mono h_half_ends) (z03 (z02 0) z08)))) (zg2 z08)))))
end
section
variable {P:Program} {w:World} {K:PySem.W.Frag} {mg:Str→Option Value} {base:Heap} {f:Addr} {fd:FuncData}
theorem zg8:FnScope ["cell"] ["cell"] (z06 (top 25)):=⟨rfl,rfl,rfl,by decide +kernel,rfl,by decide +kernel,by decide +kernel⟩
noncomputable def z6w:SV :=
  (z2p (vL z8j (z04 (v2 zx9 (vC (.int 0)) (v2 zd7 (z01 0) (v2 zvc (vC (.int 10)) (vC (.int 18))))) (z04 (v2 zkl (z01 0) (vC (.int 99999999977))) (z04 (vC (.int 0)) z0e)))))
noncomputable def z1k:List D→M→Option (D×M):=z66 1 1 (z6w)
theorem zgh {k:Nat} (F:Fun K "_law_pot" "_law_pot" (top 25) f fd) (m_max:mg "max" = none):FnOk P w K mg base CX0 (k+1) f fd ["cell"] (spM K (z1k)):=by
 unfold z1k z6w
 exact z8z F zg8 fun cdv A outer s H E hr =>
  (z0b (z0r (zai (z03 (zw5 m_max z0d (zd9 (z02 0) (zps z0d z0d))) (z03 (zbk (z02 0) z0d) (z03 z0d z08))))))
theorem sc_law_take:FnScope ["pot", "many", "found", "number"] ["pot", "many"] (z06 (top 26)):=⟨rfl,rfl,rfl,by decide +kernel,rfl,by decide +kernel,by decide +kernel⟩
noncomputable def z44:SV :=
  (z0u (sIf (vT (v2 fGt (v2 fIx (z01 0) (vC (.int 0))) (vC (.int 0))))
   (z0u (z0z (v2 zkl (v2 fIx (z01 0) (vC (.int 0))) (z01 1)) (z00 2))
   (z0u (z0z (v2 zs9 (v2 fIx (z01 0) (vC (.int 0))) (z01 1)) (zkb (z01 0) (vC (.int 0))))
   (z2p (z01 2))))
   sNx)
  (z0u (z0z (v2 z0w (v2 fIx (z01 0) (vC (.int 2))) (vC (.int 1))) (zkb (z01 0) (vC (.int 2))))
  (z0u (z0z (v2 zkl (v2 z0w (v2 fIx (z01 0) (vC (.int 1))) (v2 z1n (vC (.int 700001)) (v2 fIx (z01 0) (vC (.int 2))))) (vC (.int 99999999947))) (z00 3))
  (z0u (z0z (v2 zkl (v2 z1n (z01 3) (z01 3)) (vC (.int 99999999821))) (z00 3))
  (z0u (z0z (v2 zkl (v2 z1n (z01 3) (v2 z0w (z01 3) (vC (.int 19)))) (vC (.int 9999999967))) (z00 3))
  (z2p (v2 zkl (v2 zs9 (z01 3) (vC (.int 13))) (z01 1))))))))
noncomputable def z0g:List D→M→Option (D×M):=z66 4 2 (z44)
theorem zdq {k:Nat} (F:Fun K "_law_take" "_law_take" (top 26) f fd):FnOk P w K mg base CX0 (k+1) f fd ["pot", "many"] (spM K (z0g)):=by
 unfold z0g z44
 exact z8z F sc_law_take fun cdv A outer s H E hr =>
  (z07 (z2w (zhn (z5m (z02 0) z0d) z0d)
   (z07 (z0o (i:=2) sc_law_take.nd rfl (Or.inl rfl) (zbk (z5m (z02 0) z0d) (z02 1)))
   (z07 (zhh (zhp (z5m (z02 0) z0d) (z02 1)) (zo8 (z02 0) z0d))
   (z0b (z0r (z02 2)))))
   z1f)
  (z07 (zhh (z18 (z5m (z02 0) z0d) z0d) (zo8 (z02 0) z0d))
  (z07 (z0o (i:=3) sc_law_take.nd rfl (Or.inl rfl) (zbk (z18 (z5m (z02 0) z0d) (z3x z0d (z5m (z02 0) z0d))) z0d))
  (z07 (z0o (i:=3) sc_law_take.nd rfl (Or.inl rfl) (zbk (z3x (z02 3) (z02 3)) z0d))
  (z07 (z0o (i:=3) sc_law_take.nd rfl (Or.inl rfl) (zbk (z3x (z02 3) (z18 (z02 3) z0d)) z0d))
  (z0b (z0r (zbk (zhp (z02 3) z0d) (z02 1)))))))))
theorem sc_law_mixed:FnScope ["pot", "row", "left"] ["pot", "row"] (z06 (top 27)):=⟨rfl,rfl,rfl,by decide +kernel,rfl,by decide +kernel,by decide +kernel⟩
theorem z9p:((["k"]:List Str)++([("left",2),("pot",0)]:List (Str×Nat)).map (·.1)).Nodup:=by decide +kernel
noncomputable def z4r (f_law_take:List D→M→Option (D×M)):SV :=
  (z0u (z0z (v1 zck (z01 1)) (z00 2))
  (z2p (z10 ["k"] [("left",2),("pot",0)] (ivR (v1 z2b (z01 1))) (z00 0) z2c (v2l zci (z01 1) (vL f_law_take (z04 (z01 2) (z04 (v1 z2b (z01 1)) z0e)))))))
noncomputable def z3b (f_law_take:List D→M→Option (D×M)):List D→M→Option (D×M):=z66 3 2 (z4r f_law_take)
theorem zbz {f_law_take:List D→M→Option (D×M)} {k_law_take k:Nat} (F:Fun K "_law_mixed" "_law_mixed" (top 27) f fd) (D_law_take:Df P w K mg base k_law_take "_law_take" ["pot", "many"] (spM K f_law_take)) (h_law_take:k_law_take≤k) (m_list:mg "list" = none) (m_len:mg "len" = none) (m_range:mg "range" = none):FnOk P w K mg base CX0 (k+1) f fd ["pot", "row"] (spM K (z3b f_law_take)):=by
 unfold z3b z4r
 exact z8z F sc_law_mixed fun cdv A outer s H E hr =>
  (z07 (z0o (i:=2) sc_law_mixed.nd rfl (Or.inr rfl) (zhk m_list (z02 1)))
  (z0b (z0r (z47 (own:=["k"]) (cap:=[("left",2),("pot",0)]) (z1o rfl) (z1e m_range (z3j m_len (z02 1)))
   (fun _ _ _ _ _=>(z09 (i:=0) z9p rfl (Or.inl rfl))) (fun _ _ _ _ _=>z1q)
   (fun _ _ _ _ _=>(zpt (z02 1) (z2t D_law_take (hr.mono h_law_take) (z03 (z02 2) (z03 (z3j m_len (z02 1)) z08)))))))))
theorem sc_law_kinds:FnScope ["pot", "most", "many", "step", "base", "values", "kinds", "way", "heavy", "beside"] ["pot", "most"] (z06 (top 28)):=⟨rfl,rfl,rfl,by decide +kernel,rfl,by decide +kernel,by decide +kernel⟩
theorem z9t:((["k"]:List Str)++([("base",4),("step",3)]:List (Str×Nat)).map (·.1)).Nodup:=by decide +kernel
theorem z9s:((["k"]:List Str)++([("values",5),("pot",0)]:List (Str×Nat)).map (·.1)).Nodup:=by decide +kernel
theorem z9r:((["k"]:List Str)++([("values",5)]:List (Str×Nat)).map (·.1)).Nodup:=by decide +kernel
theorem z9q:((["k"]:List Str)++([("beside",9),("pot",0)]:List (Str×Nat)).map (·.1)).Nodup:=by decide +kernel
noncomputable def z4s (f_law_take:List D→M→Option (D×M)) (f_law_mixed:List D→M→Option (D×M)):SV :=
  (z0u (z0z (vL f_law_take (z04 (z01 0) (z04 (v2 fIx (vL z2m (z04 (v2 zkm (vC (.int 8)) (v2 z0w (z01 1) (vC (.int 1)))) (z04 (v2 zkm (vC (.int 40)) (v2 z0w (z01 1) (vC (.int 1)))) (z04 (v2 z0w (z01 1) (vC (.int 1))) z0e)))) (vL f_law_take (z04 (z01 0) (z04 (vC (.int 3)) z0e)))) z0e))) (z00 2))
  (z0u (z0z (v2 fIx (vL z2m (z04 (vC (.int 1)) (z04 (vC (.int 1)) (z04 (v2 z0w (vC (.int 1)) (vL f_law_take (z04 (z01 0) (z04 (vC (.int 1000)) z0e)))) z0e)))) (vL f_law_take (z04 (z01 0) (z04 (vC (.int 3)) z0e)))) (z00 3))
  (z0u (z0z (v2 fIx (vL z2m (z04 (vC (.int 0)) (z04 (v1 zns (vC (.int 3))) (z04 (v2 zvc (vC (.int 10)) (vC (.int 29))) (z04 (v2 zd7 (vC (.int 0)) (v2 zvc (vC (.int 10)) (vC (.int 29)))) z0e))))) (vL f_law_take (z04 (z01 0) (z04 (vC (.int 4)) z0e)))) (z00 4))
  (z0u (z0z (z10 ["k"] [("base",4),("step",3)] (ivR (v2 z0w (vC (.int 1)) (vL f_law_take (z04 (z01 0) (z04 (v2 fIx (vL z2m (z04 (vC (.int 2)) (z04 (vC (.int 3)) (z04 (vC (.int 9)) (z04 (vC (.int 200)) z0e))))) (vL f_law_take (z04 (z01 0) (z04 (vC (.int 4)) z0e)))) z0e))))) (z00 0) z2c (v2 z0w (z01 1) (v2 z1n (z01 2) (z01 0)))) (z00 5))
  (z0u (z0z (z10 ["k"] [("values",5),("pot",0)] (ivR (z01 2)) (z00 0) z2c (v2 fIx (z01 1) (vL f_law_take (z04 (z01 2) (z04 (v1 z2b (z01 1)) z0e))))) (z00 6))
  (z0u (z0z (vL f_law_take (z04 (z01 0) (z04 (vC (.int 6)) z0e))) (z00 7))
  (z0u (sIf (vT (v2 fEq (z01 7) (vC (.int 1))))
   (z0z (v1 z8i (z01 6)) (z00 6))
   sNx)
  (z0u (sIf (vT (v2 fEq (z01 7) (vC (.int 2))))
   (z0z (z10 ["k"] [("values",5)] (ivR (z01 2)) (z00 0) z2c (v2 fIx (z01 1) (v2 zkl (z01 0) (v1 z2b (z01 1))))) (z00 6))
   sNx)
  (z0u (sIf (vT (v2 fGt (z01 7) (vC (.int 2))))
   (z0u (z0z (v2 zkm (z01 2) (v2 z0w (v2 zs9 (z01 2) (vC (.int 2))) (vL f_law_take (z04 (z01 0) (z04 (vC (.int 3)) z0e))))) (z00 8))
   (z0u (z0z (v2 z0w (vSl (z01 5) (z6r (vC (.int 1))) z68) (vL z2m (z04 (v2 zd7 (z01 4) (z01 3)) z0e))) (z00 9))
   (z0z (v2 z0w (v2 z1n (vL z2m (z04 (v2 fIx (z01 5) (vC (.int 0))) z0e)) (z01 8)) (z10 ["k"] [("beside",9),("pot",0)] (ivR (v2 zd7 (z01 2) (z01 8))) (z00 0) z2c (v2 fIx (z01 1) (vL f_law_take (z04 (z01 2) (z04 (v1 z2b (z01 1)) z0e)))))) (z00 6))))
   sNx)
  (z0u (sIf (vT (v2 fEq (z01 7) (vC (.int 4))))
   (z0z (v1 zs5 (z01 6)) (z00 6))
   sNx)
  (z0u (sIf (vT (v2 fEq (z01 7) (vC (.int 5))))
   (z0z (vL f_law_mixed (z04 (z01 0) (z04 (z01 6) z0e))) (z00 6))
   sNx)
  (z2p (z01 6)))))))))))))
noncomputable def z3c (f_law_take:List D→M→Option (D×M)) (f_law_mixed:List D→M→Option (D×M)):List D→M→Option (D×M):=z66 10 2 (z4s f_law_take f_law_mixed)
theorem zc0 {f_law_take f_law_mixed:List D→M→Option (D×M)} {k_law_take k_law_mixed k:Nat} (F:Fun K "_law_kinds" "_law_kinds" (top 28) f fd) (D_law_take:Df P w K mg base k_law_take "_law_take" ["pot", "many"] (spM K f_law_take)) (h_law_take:k_law_take≤k) (D_law_mixed:Df P w K mg base k_law_mixed "_law_mixed" ["pot", "row"] (spM K f_law_mixed)) (h_law_mixed:k_law_mixed≤k) (m_min:mg "min" = none) (m_range:mg "range" = none) (m_len:mg "len" = none) (m_sorted:mg "sorted" = none):FnOk P w K mg base CX0 (k+1) f fd ["pot", "most"] (spM K (z3c f_law_take f_law_mixed)):=by
 unfold z3c z4s
 exact z8z F sc_law_kinds fun cdv A outer s H E hr =>
  (z07 (z0o (i:=2) sc_law_kinds.nd rfl (Or.inl rfl) (z2t D_law_take (hr.mono h_law_take) (z03 (z02 0) (z03 (z5m (z2d (z03 (zhj m_min z0d (z18 (z02 1) z0d)) (z03 (zhj m_min z0d (z18 (z02 1) z0d)) (z03 (z18 (z02 1) z0d) z08)))) (z2t D_law_take (hr.mono h_law_take) (z03 (z02 0) (z03 z0d z08)))) z08))))
  (z07 (z0o (i:=3) sc_law_kinds.nd rfl (Or.inr rfl) (z5m (z2d (z03 z0d (z03 z0d (z03 (z18 z0d (z2t D_law_take (hr.mono h_law_take) (z03 (z02 0) (z03 z0d z08)))) z08)))) (z2t D_law_take (hr.mono h_law_take) (z03 (z02 0) (z03 z0d z08)))))
  (z07 (z0o (i:=4) sc_law_kinds.nd rfl (Or.inr rfl) (z5m (z2d (z03 z0d (z03 (zsg z0d) (z03 (zps z0d z0d) (z03 (zd9 z0d (zps z0d z0d)) z08))))) (z2t D_law_take (hr.mono h_law_take) (z03 (z02 0) (z03 z0d z08)))))
  (z07 (z0o (i:=5) sc_law_kinds.nd rfl (Or.inr rfl) (z47 (own:=["k"]) (cap:=[("base",4),("step",3)]) (z1o rfl) (z1e m_range (z18 z0d (z2t D_law_take (hr.mono h_law_take) (z03 (z02 0) (z03 (z5m (z2d (z03 z0d (z03 z0d (z03 z0d (z03 z0d z08))))) (z2t D_law_take (hr.mono h_law_take) (z03 (z02 0) (z03 z0d z08)))) z08)))))
   (fun _ _ _ _ _=>(z09 (i:=0) z9t rfl (Or.inl rfl))) (fun _ _ _ _ _=>z1q)
   (fun _ _ _ _ _=>(z18 (z02 1) (z3x (z02 2) (z02 0))))))
  (z07 (z2s (i:=6) sc_law_kinds.nd rfl rfl (own:=["k"]) (cap:=[("values",5),("pot",0)]) (z1o rfl) (z1e m_range (z02 2))
   (fun _ _ _ _ _=>(z09 (i:=0) z9s rfl (Or.inl rfl))) (fun _ _ _ _ _=>z1q)
   (fun _ _ _ _ _=>(z5m (z02 1) (z2t D_law_take (hr.mono h_law_take) (z03 (z02 2) (z03 (z3j m_len (z02 1)) z08))))))
  (z07 (z0o (i:=7) sc_law_kinds.nd rfl (Or.inl rfl) (z2t D_law_take (hr.mono h_law_take) (z03 (z02 0) (z03 z0d z08))))
  (z07 (z2w (z6h hr (z02 7) z0d)
   (z0b (z0o (i:=6) sc_law_kinds.nd rfl (Or.inl rfl) (zm1 m_sorted (z02 6))))
   z1f)
  (z07 (z2w (z6h hr (z02 7) z0d)
   (z0b (z2s (i:=6) sc_law_kinds.nd rfl rfl (own:=["k"]) (cap:=[("values",5)]) (z1o rfl) (z1e m_range (z02 2))
   (fun _ _ _ _ _=>(z09 (i:=0) z9r rfl (Or.inl rfl))) (fun _ _ _ _ _=>z1q)
   (fun _ _ _ _ _=>(z5m (z02 1) (zbk (z02 0) (z3j m_len (z02 1)))))))
   z1f)
  (z07 (z2w (zhn (z02 7) z0d)
   (z07 (z0o (i:=8) sc_law_kinds.nd rfl (Or.inl rfl) (zhj m_min (z02 2) (z18 (zhp (z02 2) z0d) (z2t D_law_take (hr.mono h_law_take) (z03 (z02 0) (z03 z0d z08))))))
   (z07 (z0o (i:=9) sc_law_kinds.nd rfl (Or.inr rfl) (z18 (zs0 (z02 5) (z6f z0d) z6g) (z2d (z03 (zd9 (z02 4) (z02 3)) z08))))
   (z0b (z0o (i:=6) sc_law_kinds.nd rfl (Or.inl rfl) (z18 (z3x (z2d (z03 (z5m (z02 5) z0d) z08)) (z02 8)) (z47 (own:=["k"]) (cap:=[("beside",9),("pot",0)]) (z1o rfl) (z1e m_range (zd9 (z02 2) (z02 8)))
   (fun _ _ _ _ _=>(z09 (i:=0) z9q rfl (Or.inl rfl))) (fun _ _ _ _ _=>z1q)
   (fun _ _ _ _ _=>(z5m (z02 1) (z2t D_law_take (hr.mono h_law_take) (z03 (z02 2) (z03 (z3j m_len (z02 1)) z08)))))))))))
   z1f)
  (z07 (z2w (z6h hr (z02 7) z0d)
   (z0b (z0o (i:=6) sc_law_kinds.nd rfl (Or.inl rfl) (zw2 (z02 6))))
   z1f)
  (z07 (z2w (z6h hr (z02 7) z0d)
   (z0b (z0o (i:=6) sc_law_kinds.nd rfl (Or.inl rfl) (z2t D_law_mixed (hr.mono h_law_mixed) (z03 (z02 0) (z03 (z02 6) z08)))))
   z1f)
  (z0b (z0r (z02 6))))))))))))))
theorem sc_law_groups:FnScope ["kinds", "found", "thing", "own"] ["kinds"] (z06 (top 29)):=⟨rfl,rfl,rfl,by decide +kernel,rfl,by decide +kernel,by decide +kernel⟩
theorem z85:((["group"]:List Str)++([("kinds",0),("thing",2)]:List (Str×Nat)).map (·.1)).Nodup:=by decide +kernel
noncomputable def z45:SV :=
  (z0u (z0z (vL z8j z0e) (z00 1))
  (z0u (z8y (ivR (v1 z2b (z01 0))) (z00 2)
   (z0u (z0z (z10 ["group"] [("kinds",0),("thing",2)] (ivL (z01 1)) (z00 0) (vT (v2 fEq (v2 fIx (z01 1) (v2 fIx (z01 0) (vC (.int 0)))) (v2 fIx (z01 1) (z01 2)))) (z01 0)) (z00 3))
   (sIf (vT (v2 fEq (z01 3) (vL z2m z0e)))
    (z2j (v2l z6v (z01 1) (vL z8j (z04 (z01 2) z0e))))
    (z2j (v2l z6v (v2 fIx (z01 3) (vC (.int 0))) (z01 2))))))
  (z2p (z01 1))))
noncomputable def z0y:List D→M→Option (D×M):=z66 4 1 (z45)
theorem zas {k:Nat} (F:Fun K "_law_groups" "_law_groups" (top 29) f fd) (m_len:mg "len" = none) (m_range:mg "range" = none):FnOk P w K mg base CX0 (k+1) f fd ["kinds"] (spM K (z0y)):=by
 unfold z0y z45
 exact z8z F sc_law_groups fun cdv A outer s H E hr =>
  (z07 (z0o (i:=1) sc_law_groups.nd rfl (Or.inl rfl) (zai z08))
  (z07 (z2x PassesOwn.never rfl (z1e m_range (z3j m_len (z02 0))) (z09 (i:=2) sc_law_groups.nd rfl (Or.inr rfl))
   (z07 (z2s (i:=3) sc_law_groups.nd rfl rfl (own:=["group"]) (cap:=[("kinds",0),("thing",2)]) (z1o rfl) (z19 (z02 1))
   (fun _ _ _ _ _=>(z09 (i:=0) z85 rfl (Or.inl rfl))) (fun _ _ _ _ _=>(z4e (z6h hr (z5m (z02 1) (z5m (z02 0) z0d)) (z5m (z02 1) (z02 2)))))
   (fun _ _ _ _ _=>(z02 0)))
   (z0b (z2w (z6h hr (z02 3) (z2d z08))
    (z0b (z3i (zda (z02 1) (zai (z03 (z02 2) z08)))))
    (z0b (z3i (zda (z5m (z02 3) z0d) (z02 2))))))))
  (z0b (z0r (z02 1)))))
theorem sc_law_half:FnScope ["kinds", "found"] ["kinds"] (z06 (top 30)):=⟨rfl,rfl,rfl,by decide +kernel,rfl,by decide +kernel,by decide +kernel⟩
theorem zav:((["group"]:List Str)++([("kinds",0)]:List (Str×Nat)).map (·.1)).Nodup:=by decide +kernel
noncomputable def z5w (f_law_groups:List D→M→Option (D×M)):SV :=
  (z0u (z0z (z10 ["group"] [("kinds",0)] (ivL (vL f_law_groups (z04 (z01 0) z0e))) (z00 0) (vT (v2 fGt (v2 z1n (vC (.int 2)) (v1 z2b (z01 0))) (v1 z2b (z01 1)))) (z01 0)) (z00 1))
  (z2p (v2 fIx (v2 z0w (z01 1) (vL z2m (z04 (vL z2m z0e) z0e))) (vC (.int 0)))))
noncomputable def z40 (f_law_groups:List D→M→Option (D×M)):List D→M→Option (D×M):=z66 2 1 (z5w f_law_groups)
theorem zds {f_law_groups:List D→M→Option (D×M)} {k_law_groups k:Nat} (F:Fun K "_law_half" "_law_half" (top 30) f fd) (D_law_groups:Df P w K mg base k_law_groups "_law_groups" ["kinds"] (spM K f_law_groups)) (h_law_groups:k_law_groups≤k) (m_len:mg "len" = none):FnOk P w K mg base CX0 (k+1) f fd ["kinds"] (spM K (z40 f_law_groups)):=by
 unfold z40 z5w
 exact z8z F sc_law_half fun cdv A outer s H E hr =>
  (z07 (z2s (i:=1) sc_law_half.nd rfl rfl (own:=["group"]) (cap:=[("kinds",0)]) (z1o rfl) (z19 (z2t D_law_groups (hr.mono h_law_groups) (z03 (z02 0) z08)))
   (fun _ _ _ _ _=>(z09 (i:=0) zav rfl (Or.inl rfl))) (fun _ _ _ _ _=>(z4e (zhn (z3x z0d (z3j m_len (z02 0))) (z3j m_len (z02 1)))))
   (fun _ _ _ _ _=>(z02 0)))
  (z0b (z0r (z5m (z18 (z02 1) (z2d (z03 (z2d z08) z08))) z0d))))
theorem zdg:FnScope ["found", "due"] ["found", "due"] (z06 (top 31)):=⟨rfl,rfl,rfl,by decide +kernel,rfl,by decide +kernel,by decide +kernel⟩
theorem z6a:((["one", "other"]:List Str)++([]:List (Str×Nat)).map (·.1)).Nodup:=by decide +kernel
noncomputable def z33 (f_law_same:List D→M→Option (D×M)):SV :=
  (z0u (sIf (z5k (v1 (ze7 ["list", "tuple"]) (z01 1)))
   (z0u (sIf (bOr (vT (v2 fNe (v1 (zhd "list") (z01 0)) (v1 (zhd "list") (z01 1)))) (zbg (z5k (v1 (ze7 ["list", "tuple"]) (z01 0)))))
    (z2p (vC (.bl false)))
    sNx)
   (z0u (sIf (vT (v2 fNe (v1 z2b (z01 0)) (v1 z2b (z01 1))))
    (z2p (vC (.bl false)))
    sNx)
   (z2p (v2 fEq (z10 ["one", "other"] [] (zx0 (z01 0) (z01 1)) (z21 2 (z0a (z00 0) (z0a (z00 1) z23))) (zbg (z5k (vL f_law_same (z04 (z01 0) (z04 (z01 1) z0e))))) (vC (.int 1))) (vL z2m z0e)))))
   sNx)
  (z0u (sIf (bOr (vT (v2 zs8 (z01 1) (vC .non))) (z5k (v1 (zhd "str") (z01 1))))
   (z2p (v2 fEq (z01 0) (z01 1)))
   sNx)
  (z2p (zoh (v1 (zhd "int") (z01 0)) (zoh (v1 zs6 (v1 (zhd "bool") (z01 0))) (v2 fEq (z01 0) (z01 1)))))))
noncomputable def z1r (f_law_same:List D→M→Option (D×M)):List D→M→Option (D×M):=z66 2 2 (z33 f_law_same)
theorem zdr {f_law_same:List D→M→Option (D×M)} {k_law_same k:Nat} (F:Fun K "_law_same" "_law_same" (top 31) f fd) (D_law_same:Df P w K mg base k_law_same "_law_same" ["found", "due"] (spM K f_law_same)) (h_law_same:k_law_same≤k) (m_tuple:mg "tuple" = none) (m_list:mg "list" = none) (m_isinstance:mg "isinstance" = none) (m_len:mg "len" = none) (m_zip:mg "zip" = none) (m_str:mg "str" = none) (m_int:mg "int" = none) (m_bool:mg "bool" = none):FnOk P w K mg base CX0 (k+1) f fd ["found", "due"] (spM K (z1r f_law_same)):=by
 unfold z1r z33
 exact z8z F zdg fun cdv A outer s H E hr =>
  (z07 (z2w (z2i (zo9 ["list", "tuple"] m_isinstance (z02 1) (zvu (z3y rfl m_list rfl (v:=.ty "list") rfl) (zvu (z3y rfl m_tuple rfl (v:=.ty "tuple") rfl) zu1))))
   (z07 (z2w (PW.pt (zm0 (zg4 hr (zhl "list" m_isinstance (z02 0) (z3y rfl m_list rfl (v:=.ty "list") rfl)) (zhl "list" m_isinstance (z02 1) (z3y rfl m_list rfl (v:=.ty "list") rfl))) (zeo (z7l (z2i (zo9 ["list", "tuple"] m_isinstance (z02 0) (zvu (z3y rfl m_list rfl (v:=.ty "list") rfl) (zvu (z3y rfl m_tuple rfl (v:=.ty "tuple") rfl) zu1))))))))
    (z0b (z0r zod))
    z1f)
   (z07 (z2w (zg4 hr (z3j m_len (z02 0)) (z3j m_len (z02 1)))
    (z0b (z0r zod))
    z1f)
   (z0b (z0r (zob hr (z47 (own:=["one", "other"]) (cap:=[]) (z1o rfl) (zpq m_zip (z02 0) (z02 1))
   (fun _ _ _ _ _=>(z62 (n:=2) (z0p (z09 (i:=0) z6a rfl (Or.inl rfl)) (z0p (z09 (i:=1) z6a rfl (Or.inl rfl)) z3w)))) (fun _ _ _ _ _=>(z4e (z7l (z2i (z2t D_law_same (hr.mono h_law_same) (z03 (z02 0) (z03 (z02 1) z08)))))))
   (fun _ _ _ _ _=>z0d)) (z2d z08))))))
   z1f)
  (z07 (z2w (PW.pt (zm0 (zsj (z02 1) zw4) (zeo (z2i (zhl "str" m_isinstance (z02 1) (z3y rfl m_str rfl (v:=.ty "str") rfl))))))
   (z0b (z0r (zob hr (z02 0) (z02 1))))
   z1f)
  (z0b (z0r (zm8 (zhl "int" m_isinstance (z02 0) (z3y rfl m_int rfl (v:=.ty "int") rfl)) (zm8 (zw3 (zhl "bool" m_isinstance (z02 0) (z3y rfl m_bool rfl (v:=.ty "bool") rfl))) (zpu (zob hr (z02 0) (z02 1)))))))))
theorem sc_law_answers:FnScope ["pot", "kinds", "most", "found", "k", "i", "j"] ["pot", "kinds", "most"] (z06 (top 32)):=⟨rfl,rfl,rfl,by decide +kernel,rfl,by decide +kernel,by decide +kernel⟩
noncomputable def z3p (f_law_take:List D→M→Option (D×M)):SV :=
  (z0u (z0z (vL z8j z0e) (z00 3))
  (z0u (z8y (ivR (v2 z1n (vL f_law_take (z04 (z01 0) (z04 (v2 z0w (z01 2) (vC (.int 1))) z0e))) (v1 zgx (v2 fGt (v1 z2b (z01 1)) (vC (.int 1)))))) (z00 4)
   (z0u (z0z (vL f_law_take (z04 (z01 0) (z04 (v1 z2b (z01 1)) z0e))) (z00 5))
   (z0u (z0z (v2 zkl (v2 z0w (v2 z0w (z01 5) (vC (.int 1))) (vL f_law_take (z04 (z01 0) (z04 (v2 zd7 (v1 z2b (z01 1)) (vC (.int 1))) z0e)))) (v1 z2b (z01 1))) (z00 6))
   (z2j (v2l z6v (z01 3) (vL zac (z04 (z01 5) (z04 (z01 6) (z04 (v2 fEq (v2 fIx (z01 1) (z01 5)) (v2 fIx (z01 1) (z01 6))) z0e)))))))))
  (z2p (z01 3))))
noncomputable def z2a (f_law_take:List D→M→Option (D×M)):List D→M→Option (D×M):=z66 7 3 (z3p f_law_take)
theorem z9m {f_law_take:List D→M→Option (D×M)} {k_law_take k:Nat} (F:Fun K "_law_answers" "_law_answers" (top 32) f fd) (D_law_take:Df P w K mg base k_law_take "_law_take" ["pot", "many"] (spM K f_law_take)) (h_law_take:k_law_take≤k) (m_len:mg "len" = none) (m_int:mg "int" = none) (m_range:mg "range" = none):FnOk P w K mg base CX0 (k+1) f fd ["pot", "kinds", "most"] (spM K (z2a f_law_take)):=by
 unfold z2a z3p
 exact z8z F sc_law_answers fun cdv A outer s H E hr =>
  (z07 (z0o (i:=3) sc_law_answers.nd rfl (Or.inl rfl) (zai z08))
  (z07 (z2x PassesOwn.never rfl (z1e m_range (z3x (z2t D_law_take (hr.mono h_law_take) (z03 (z02 0) (z03 (z18 (z02 2) z0d) z08))) (zoa m_int (zy5 (z3j m_len (z02 1)) z0d)))) (z09 (i:=4) sc_law_answers.nd rfl (Or.inl rfl))
   (z07 (z0o (i:=5) sc_law_answers.nd rfl (Or.inl rfl) (z2t D_law_take (hr.mono h_law_take) (z03 (z02 0) (z03 (z3j m_len (z02 1)) z08))))
   (z07 (z0o (i:=6) sc_law_answers.nd rfl (Or.inl rfl) (zbk (z18 (z18 (z02 5) z0d) (z2t D_law_take (hr.mono h_law_take) (z03 (z02 0) (z03 (zd9 (z3j m_len (z02 1)) z0d) z08)))) (z3j m_len (z02 1))))
   (z0b (z3i (zda (z02 3) (zag (z03 (z02 5) (z03 (z02 6) (z03 (zob hr (z5m (z02 1) (z02 5)) (z5m (z02 1) (z02 6))) z08))))))))))
  (z0b (z0r (z02 3)))))
theorem sc_law_sorts:FnScope ["many", "found", "sorts", "kind"] ["many"] (z06 (top 33)):=⟨rfl,rfl,rfl,by decide +kernel,rfl,by decide +kernel,by decide +kernel⟩
noncomputable def z3f (f_law_sorts:List D→M→Option (D×M)):SV :=
  (z0u (sIf (vT (v2 fEq (z01 0) (vC (.int 0))))
   (z2p (vL z2m (z04 (vL z2m z0e) z0e)))
   sNx)
  (z0u (z0z (vL z8j z0e) (z00 1))
  (z0u (z8y (ivL (vL f_law_sorts (z04 (v2 zd7 (z01 0) (vC (.int 1))) z0e))) (z00 2)
   (z8y (ivR (v2 z0w (v1 z5u (z01 2)) (vC (.int 1)))) (z00 3)
    (z2j (v2l z6v (z01 1) (v2 z0w (z01 2) (vL z2m (z04 (z01 3) z0e)))))))
  (z2p (z01 1)))))
noncomputable def z1h (f_law_sorts:List D→M→Option (D×M)):List D→M→Option (D×M):=z66 4 1 (z3f f_law_sorts)
theorem zbx {f_law_sorts:List D→M→Option (D×M)} {k_law_sorts k:Nat} (F:Fun K "_law_sorts" "_law_sorts" (top 33) f fd) (D_law_sorts:Df P w K mg base k_law_sorts "_law_sorts" ["many"] (spM K f_law_sorts)) (h_law_sorts:k_law_sorts≤k) (m_len:mg "len" = none) (m_set:mg "set" = none) (m_range:mg "range" = none):FnOk P w K mg base CX0 (k+1) f fd ["many"] (spM K (z1h f_law_sorts)):=by
 unfold z1h z3f
 exact z8z F sc_law_sorts fun cdv A outer s H E hr =>
  (z07 (z2w (z6h hr (z02 0) z0d)
   (z0b (z0r (z2d (z03 (z2d z08) z08))))
   z1f)
  (z07 (z0o (i:=1) sc_law_sorts.nd rfl (Or.inl rfl) (zai z08))
  (z07 (z2x PassesOwn.never rfl (z19 (z2t D_law_sorts (hr.mono h_law_sorts) (z03 (zd9 (z02 0) z0d) z08))) (z09 (i:=2) sc_law_sorts.nd rfl (Or.inl rfl))
   (z0b (z2x PassesOwn.never rfl (z1e m_range (z18 (zm4 m_len m_set (z02 2)) z0d)) (z09 (i:=3) sc_law_sorts.nd rfl (Or.inl rfl))
    (z0b (z3i (zda (z02 1) (z18 (z02 2) (z2d (z03 (z02 3) z08)))))))))
  (z0b (z0r (z02 1))))))
theorem sc_law_fit:FnScope ["many", "answers", "found", "sorts", "wrong"] ["many", "answers"] (z06 (top 34)):=⟨rfl,rfl,rfl,by decide +kernel,rfl,by decide +kernel,by decide +kernel⟩
theorem z4l:((["i", "j", "alike"]:List Str)++([("sorts",3)]:List (Str×Nat)).map (·.1)).Nodup:=by decide +kernel
noncomputable def z6x (f_law_sorts:List D→M→Option (D×M)):SV :=
  (z0u (z0z (vL z8j z0e) (z00 2))
  (z0u (z8y (ivL (vL f_law_sorts (z04 (z01 0) z0e))) (z00 3)
   (z0u (z0z (z10 ["i", "j", "alike"] [("sorts",3)] (ivL (z01 1)) (z21 3 (z0a (z00 0) (z0a (z00 1) (z0a (z00 2) z23)))) (vT (v2 fNe (z01 2) (v2 fEq (v2 fIx (z01 3) (z01 0)) (v2 fIx (z01 3) (z01 1))))) (vC (.int 1))) (z00 4))
   (sIf (vT (v2 fEq (z01 4) (vL z2m z0e)))
    (z2j (v2l z6v (z01 2) (z01 3)))
    sNx)))
  (z2p (z01 2))))
noncomputable def z1t (f_law_sorts:List D→M→Option (D×M)):List D→M→Option (D×M):=z66 5 2 (z6x f_law_sorts)
theorem zgi {f_law_sorts:List D→M→Option (D×M)} {k_law_sorts k:Nat} (F:Fun K "_law_fit" "_law_fit" (top 34) f fd) (D_law_sorts:Df P w K mg base k_law_sorts "_law_sorts" ["many"] (spM K f_law_sorts)) (h_law_sorts:k_law_sorts≤k):FnOk P w K mg base CX0 (k+1) f fd ["many", "answers"] (spM K (z1t f_law_sorts)):=by
 unfold z1t z6x
 exact z8z F sc_law_fit fun cdv A outer s H E hr =>
  (z07 (z0o (i:=2) sc_law_fit.nd rfl (Or.inl rfl) (zai z08))
  (z07 (z2x PassesOwn.never rfl (z19 (z2t D_law_sorts (hr.mono h_law_sorts) (z03 (z02 0) z08))) (z09 (i:=3) sc_law_fit.nd rfl (Or.inr rfl))
   (z07 (z2s (i:=4) sc_law_fit.nd rfl rfl (own:=["i", "j", "alike"]) (cap:=[("sorts",3)]) (z1o rfl) (z19 (z02 1))
   (fun _ _ _ _ _=>(z62 (n:=3) (z0p (z09 (i:=0) z4l rfl (Or.inl rfl)) (z0p (z09 (i:=1) z4l rfl (Or.inl rfl)) (z0p (z09 (i:=2) z4l rfl (Or.inl rfl)) z3w))))) (fun _ _ _ _ _=>(z4e (zg4 hr (z02 2) (zob hr (z5m (z02 3) (z02 0)) (z5m (z02 3) (z02 1))))))
   (fun _ _ _ _ _=>z0d))
   (z0b (z2w (z6h hr (z02 4) (z2d z08))
    (z0b (z3i (zda (z02 2) (z02 3))))
    z1f))))
  (z0b (z0r (z02 2)))))
theorem sc_law_due:FnScope ["many", "answers", "halves", "common"] ["many", "answers"] (z06 (top 35)):=⟨rfl,rfl,rfl,by decide +kernel,rfl,by decide +kernel,by decide +kernel⟩
theorem zc6:((["sorts"]:List Str)++([]:List (Str×Nat)).map (·.1)).Nodup:=by decide +kernel
theorem zc5:((["thing"]:List Str)++([("halves",2)]:List (Str×Nat)).map (·.1)).Nodup:=by decide +kernel
theorem zc4:((["half"]:List Str)++([("thing",0)]:List (Str×Nat)).map (·.1)).Nodup:=by decide +kernel
theorem zc3:((["half"]:List Str)++([]:List (Str×Nat)).map (·.1)).Nodup:=by decide +kernel
noncomputable def z6y (f_law_fit:List D→M→Option (D×M)) (f_law_half:List D→M→Option (D×M)):SV :=
  (z0u (z0z (z10 ["sorts"] [] (ivL (vL f_law_fit (z04 (z01 0) (z04 (z01 1) z0e)))) (z00 0) z2c (vL f_law_half (z04 (z01 0) z0e))) (z00 2))
  (z0u (z0z (z10 ["thing"] [("halves",2)] (ivR (z01 0)) (z00 0) (vT (v2 fEq (z10 ["half"] [("thing",0)] (ivL (z01 1)) (z00 0) (vT (v2 (fIn true) (z01 1) (z01 0))) (z01 0)) (vL z2m z0e))) (z01 0)) (z00 3))
  (z0u (sIf (vT (v2 fNe (z01 3) (vL z2m z0e)))
   (z2p (vL zac (z04 (vC (.str "one")) (z04 (v2 fIx (z01 3) (vC (.int 0))) z0e))))
   sNx)
  (z0u (sIf (vT (v2 fEq (z10 ["half"] [] (ivL (z01 2)) (z00 0) (vT (v2 fNe (z01 0) (vL z2m z0e))) (z01 0)) (vL z2m z0e)))
   (z2p (vL zac (z04 (vC (.str "none")) z0e)))
   sNx)
  (z2p (vL zac (z04 (vC (.str "open")) z0e)))))))
noncomputable def z2v (f_law_fit:List D→M→Option (D×M)) (f_law_half:List D→M→Option (D×M)):List D→M→Option (D×M):=z66 4 2 (z6y f_law_fit f_law_half)
theorem zgj {f_law_fit f_law_half:List D→M→Option (D×M)} {k_law_fit k_law_half k:Nat} (F:Fun K "_law_due" "_law_due" (top 35) f fd) (D_law_fit:Df P w K mg base k_law_fit "_law_fit" ["many", "answers"] (spM K f_law_fit)) (h_law_fit:k_law_fit≤k) (D_law_half:Df P w K mg base k_law_half "_law_half" ["kinds"] (spM K f_law_half)) (h_law_half:k_law_half≤k) (m_range:mg "range" = none):FnOk P w K mg base CX0 (k+1) f fd ["many", "answers"] (spM K (z2v f_law_fit f_law_half)):=by
 unfold z2v z6y
 exact z8z F sc_law_due fun cdv A outer s H E hr =>
  (z07 (z0o (i:=2) sc_law_due.nd rfl (Or.inr rfl) (z47 (own:=["sorts"]) (cap:=[]) (z1o rfl) (z19 (z2t D_law_fit (hr.mono h_law_fit) (z03 (z02 0) (z03 (z02 1) z08))))
   (fun _ _ _ _ _=>(z09 (i:=0) zc6 rfl (Or.inl rfl))) (fun _ _ _ _ _=>z1q)
   (fun _ _ _ _ _=>(z2t D_law_half (hr.mono h_law_half) (z03 (z02 0) z08)))))
  (z07 (z2s (i:=3) sc_law_due.nd rfl rfl (own:=["thing"]) (cap:=[("halves",2)]) (z1o rfl) (z1e m_range (z02 0))
   (fun _ _ _ _ _=>(z09 (i:=0) zc5 rfl (Or.inr rfl))) (fun _ _ _ _ _=>(z4e (z6h hr (z47 (own:=["half"]) (cap:=[("thing",0)]) (z1o rfl) (z19 (z02 1))
   (fun _ _ _ _ _=>(z09 (i:=0) zc4 rfl (Or.inl rfl))) (fun _ _ _ _ _=>(z4e (zm2 (z02 1) (z02 0))))
   (fun _ _ _ _ _=>(z02 0))) (z2d z08))))
   (fun _ _ _ _ _=>(z02 0)))
  (z07 (z2w (zg4 hr (z02 3) (z2d z08))
   (z0b (z0r (zag (z03 zg3 (z03 (z5m (z02 3) z0d) z08)))))
   z1f)
  (z07 (z2w (z6h hr (z47 (own:=["half"]) (cap:=[]) (z1o rfl) (z19 (z02 2))
   (fun _ _ _ _ _=>(z09 (i:=0) zc3 rfl (Or.inl rfl))) (fun _ _ _ _ _=>(z4e (zg4 hr (z02 0) (z2d z08))))
   (fun _ _ _ _ _=>(z02 0))) (z2d z08))
   (z0b (z0r (zag (z03 zg3 z08))))
   z1f)
  (z0b (z0r (zag (z03 zg3 z08))))))))
theorem sc_law_repeated:FnScope ["pot", "answers", "found", "k", "i", "j", "alike"] ["pot", "answers"] (z06 (top 36)):=⟨rfl,rfl,rfl,by decide +kernel,rfl,by decide +kernel,by decide +kernel⟩
noncomputable def z34 (f_law_take:List D→M→Option (D×M)):SV :=
  (z0u (z0z (vL z8j z0e) (z00 2))
  (z0u (z8y (ivR (v2 z1n (vL f_law_take (z04 (z01 0) (z04 (vC (.int 276)) z0e))) (v1 zgx (v2 fNe (z01 1) (vL z2m z0e))))) (z00 3)
   (z0u (z0z (v2 fIx (z01 1) (vL f_law_take (z04 (z01 0) (z04 (v1 z2b (z01 1)) z0e)))) (z21 3 (z0a (z00 4) (z0a (z00 5) (z0a (z00 6) z23)))))
   (z2j (v2l z6v (z01 2) (v2 fIx (vL z2m (z04 (vL zac (z04 (z01 4) (z04 (z01 5) (z04 (z01 6) z0e)))) (z04 (vL zac (z04 (z01 5) (z04 (z01 4) (z04 (z01 6) z0e)))) z0e))) (vL f_law_take (z04 (z01 0) (z04 (vC (.int 2)) z0e))))))))
  (z2p (z01 2))))
noncomputable def z1z (f_law_take:List D→M→Option (D×M)):List D→M→Option (D×M):=z66 7 2 (z34 f_law_take)
theorem z81 {f_law_take:List D→M→Option (D×M)} {k_law_take k:Nat} (F:Fun K "_law_repeated" "_law_repeated" (top 36) f fd) (D_law_take:Df P w K mg base k_law_take "_law_take" ["pot", "many"] (spM K f_law_take)) (h_law_take:k_law_take≤k) (m_int:mg "int" = none) (m_range:mg "range" = none) (m_len:mg "len" = none):FnOk P w K mg base CX0 (k+1) f fd ["pot", "answers"] (spM K (z1z f_law_take)):=by
 unfold z1z z34
 exact z8z F sc_law_repeated fun cdv A outer s H E hr =>
  (z07 (z0o (i:=2) sc_law_repeated.nd rfl (Or.inl rfl) (zai z08))
  (z07 (z2x PassesOwn.never rfl (z1e m_range (z3x (z2t D_law_take (hr.mono h_law_take) (z03 (z02 0) (z03 z0d z08))) (zoa m_int (zxk hr (z02 1) (z2d z08))))) (z09 (i:=3) sc_law_repeated.nd rfl (Or.inl rfl))
   (z07 (zhh (z5m (z02 1) (z2t D_law_take (hr.mono h_law_take) (z03 (z02 0) (z03 (z3j m_len (z02 1)) z08)))) (z62 (n:=3) (z0p (z09 (i:=4) sc_law_repeated.nd rfl (Or.inl rfl)) (z0p (z09 (i:=5) sc_law_repeated.nd rfl (Or.inl rfl)) (z0p (z09 (i:=6) sc_law_repeated.nd rfl (Or.inl rfl)) z3w)))))
   (z0b (z3i (zda (z02 2) (z5m (z2d (z03 (zag (z03 (z02 4) (z03 (z02 5) (z03 (z02 6) z08)))) (z03 (zag (z03 (z02 5) (z03 (z02 4) (z03 (z02 6) z08)))) z08))) (z2t D_law_take (hr.mono h_law_take) (z03 (z02 0) (z03 z0d z08)))))))))
  (z0b (z0r (z02 2)))))
theorem sc_law_right:FnScope ["many", "answers", "due", "handed"] ["many", "answers"] (z06 (top 37)):=⟨rfl,rfl,rfl,by decide +kernel,rfl,by decide +kernel,by decide +kernel⟩
noncomputable def z4q (f_law_due:List D→M→Option (D×M)) (f_tells:List D→M→Option (D×M)) (f_law_same:List D→M→Option (D×M)):SV :=
  (z0u (z0z (vL f_law_due (z04 (z01 0) (z04 (z01 1) z0e))) (z00 2))
  (z0u (z0z (v1 zck (z01 1)) (z00 3))
  (z2p (zoh (vL f_law_same (z04 (vL f_tells (z04 (z01 0) (z04 (z01 3) z0e))) (z04 (z01 2) z0e))) (zoh (vL f_law_same (z04 (vL f_tells (z04 (z01 0) (z04 (z01 3) z0e))) (z04 (z01 2) z0e))) (v2 fEq (z01 3) (z01 1)))))))
noncomputable def z3a (f_law_due:List D→M→Option (D×M)) (f_tells:List D→M→Option (D×M)) (f_law_same:List D→M→Option (D×M)):List D→M→Option (D×M):=z66 4 2 (z4q f_law_due f_tells f_law_same)
theorem zby {f_law_due f_tells f_law_same:List D→M→Option (D×M)} {k_law_due k_tells k_law_same k:Nat} (F:Fun K "_law_right" "_law_right" (top 37) f fd) (D_law_due:Df P w K mg base k_law_due "_law_due" ["many", "answers"] (spM K f_law_due)) (h_law_due:k_law_due≤k) (D_tells:Df P w K mg base k_tells "tells" ["many", "answers"] (spM K f_tells)) (h_tells:k_tells≤k) (D_law_same:Df P w K mg base k_law_same "_law_same" ["found", "due"] (spM K f_law_same)) (h_law_same:k_law_same≤k) (m_list:mg "list" = none):FnOk P w K mg base CX0 (k+1) f fd ["many", "answers"] (spM K (z3a f_law_due f_tells f_law_same)):=by
 unfold z3a z4q
 exact z8z F sc_law_right fun cdv A outer s H E hr =>
  (z07 (z0o (i:=2) sc_law_right.nd rfl (Or.inl rfl) (z2t D_law_due (hr.mono h_law_due) (z03 (z02 0) (z03 (z02 1) z08))))
  (z07 (z0o (i:=3) sc_law_right.nd rfl (Or.inl rfl) (zhk m_list (z02 1)))
  (z0b (z0r (zm8 (z2t D_law_same (hr.mono h_law_same) (z03 (z2t D_tells (hr.mono h_tells) (z03 (z02 0) (z03 (z02 3) z08))) (z03 (z02 2) z08))) (zm8 (z2t D_law_same (hr.mono h_law_same) (z03 (z2t D_tells (hr.mono h_tells) (z03 (z02 0) (z03 (z02 3) z08))) (z03 (z02 2) z08))) (zpu (zob hr (z02 3) (z02 1)))))))))
theorem sc_law:FnScope ["script", "cell", "pot", "kinds", "many", "answers", "k", "every", "j", "cut", "ahead"] ["script"] (z06 (top 38)):=⟨rfl,rfl,rfl,by decide +kernel,rfl,by decide +kernel,by decide +kernel⟩
theorem zn8:((["i"]:List Str)++([("j",8),("kinds",3)]:List (Str×Nat)).map (·.1)).Nodup:=by decide +kernel
noncomputable def zkp (f_law_pot:List D→M→Option (D×M)) (f_law_kinds:List D→M→Option (D×M)) (f_law_answers:List D→M→Option (D×M)) (f_law_right:List D→M→Option (D×M)) (f_law_mixed:List D→M→Option (D×M)) (f_law_take:List D→M→Option (D×M)) (f_law_repeated:List D→M→Option (D×M)):SV :=
  (z0u (z8y (ivL (v2 z0w (vL z2m (z04 (vC (.int 0)) z0e)) (vSl (z01 0) z68 (z6r (vC (.int 3)))))) (z00 1)
   (z0u (z0z (vL f_law_pot (z04 (z01 1) z0e)) (z00 2))
   (z0u (z0z (vL f_law_kinds (z04 (z01 2) (z04 (vC (.int 7)) z0e))) (z00 3))
   (z0u (z0z (v1 z2b (z01 3)) (z00 4))
   (z0u (z0z (vL f_law_answers (z04 (z01 2) (z04 (z01 3) (z04 (vC (.int 12)) z0e)))) (z00 5))
   (z0u (z8y (ivR (v2 zkm (vC (.int 4)) (v2 z0w (v1 z2b (z01 5)) (vC (.int 1))))) (z00 6)
    (sIf (zbg (z5k (vL f_law_right (z04 (z01 4) (z04 (vSl (z01 5) z68 (z6r (v2 zd7 (v1 z2b (z01 5)) (z01 6)))) z0e)))))
     (z2p (vC (.bl false)))
     sNx))
   (z0u (z0z (vL z8j z0e) (z00 7))
   (z0u (z8y (ivR (z01 4)) (z00 8)
    (z2j (v2l z6u (z01 7) (z10 ["i"] [("j",8),("kinds",3)] (ivR (z01 8)) (z00 0) z2c (vL zac (z04 (z01 0) (z04 (z01 1) (z04 (v2 fEq (v2 fIx (z01 2) (z01 0)) (v2 fIx (z01 2) (z01 1))) z0e))))))))
   (z0u (z0z (vL f_law_mixed (z04 (z01 2) (z04 (z01 7) z0e))) (z00 7))
   (z0u (sIf (bOr (zbg (z5k (vL f_law_right (z04 (z01 4) (z04 (vSl (z01 7) (z6r (vC (.int 1))) z68) z0e))))) (zbg (z5k (vL f_law_right (z04 (z01 4) (z04 (z01 7) z0e))))))
    (z2p (vC (.bl false)))
    sNx)
   (z0u (z0z (vL f_law_take (z04 (z01 2) (z04 (v2 z0w (v1 z2b (z01 7)) (vC (.int 1))) z0e))) (z00 9))
   (sIf (vT (v2 fEq (vL f_law_take (z04 (z01 2) (z04 (vC (.int 2)) z0e))) (vC (.int 0))))
    (z0u (z0z (vL f_law_repeated (z04 (z01 2) (z04 (vSl (z01 7) z68 (z6r (z01 9))) z0e))) (z00 10))
    (sIf (zbg (z5k (vL f_law_right (z04 (z01 4) (z04 (v2 z0w (z01 10) (vSl (z01 7) (z6r (v2 z0w (z01 9) (vC (.int 1)))) z68)) z0e)))))
     (z2p (vC (.bl false)))
     sNx))
    sNx))))))))))))
  (z2p (vC (.bl true))))
noncomputable def zc8 (f_law_pot:List D→M→Option (D×M)) (f_law_kinds:List D→M→Option (D×M)) (f_law_answers:List D→M→Option (D×M)) (f_law_right:List D→M→Option (D×M)) (f_law_mixed:List D→M→Option (D×M)) (f_law_take:List D→M→Option (D×M)) (f_law_repeated:List D→M→Option (D×M)):List D→M→Option (D×M):=z66 11 1 (zkp f_law_pot f_law_kinds f_law_answers f_law_right f_law_mixed f_law_take f_law_repeated)
theorem zud {f_law_pot f_law_kinds f_law_answers f_law_right f_law_mixed f_law_take f_law_repeated:List D→M→Option (D×M)} {k_law_pot k_law_kinds k_law_answers k_law_right k_law_mixed k_law_take k_law_repeated k:Nat} (F:Fun K "law" "law" (top 38) f fd) (D_law_pot:Df P w K mg base k_law_pot "_law_pot" ["cell"] (spM K f_law_pot)) (h_law_pot:k_law_pot≤k) (D_law_kinds:Df P w K mg base k_law_kinds "_law_kinds" ["pot", "most"] (spM K f_law_kinds)) (h_law_kinds:k_law_kinds≤k) (D_law_answers:Df P w K mg base k_law_answers "_law_answers" ["pot", "kinds", "most"] (spM K f_law_answers)) (h_law_answers:k_law_answers≤k) (D_law_right:Df P w K mg base k_law_right "_law_right" ["many", "answers"] (spM K f_law_right)) (h_law_right:k_law_right≤k) (D_law_mixed:Df P w K mg base k_law_mixed "_law_mixed" ["pot", "row"] (spM K f_law_mixed)) (h_law_mixed:k_law_mixed≤k) (D_law_take:Df P w K mg base k_law_take "_law_take" ["pot", "many"] (spM K f_law_take)) (h_law_take:k_law_take≤k) (D_law_repeated:Df P w K mg base k_law_repeated "_law_repeated" ["pot", "answers"] (spM K f_law_repeated)) (h_law_repeated:k_law_repeated≤k) (m_len:mg "len" = none) (m_min:mg "min" = none) (m_range:mg "range" = none):FnOk P w K mg base CX0 (k+1) f fd ["script"] (spM K (zc8 f_law_pot f_law_kinds f_law_answers f_law_right f_law_mixed f_law_take f_law_repeated)):=by
 unfold zc8 zkp
 exact z8z F sc_law fun cdv A outer s H E hr =>
  (z07 (z2x PassesOwn.never rfl (z19 (z18 (z2d (z03 z0d z08)) (zs0 (z02 0) z6g (z6f z0d)))) (z09 (i:=1) sc_law.nd rfl (Or.inl rfl))
   (z07 (z0o (i:=2) sc_law.nd rfl (Or.inl rfl) (z2t D_law_pot (hr.mono h_law_pot) (z03 (z02 1) z08)))
   (z07 (z0o (i:=3) sc_law.nd rfl (Or.inr rfl) (z2t D_law_kinds (hr.mono h_law_kinds) (z03 (z02 2) (z03 z0d z08))))
   (z07 (z0o (i:=4) sc_law.nd rfl (Or.inl rfl) (z3j m_len (z02 3)))
   (z07 (z0o (i:=5) sc_law.nd rfl (Or.inl rfl) (z2t D_law_answers (hr.mono h_law_answers) (z03 (z02 2) (z03 (z02 3) (z03 z0d z08)))))
   (z07 (z2x PassesOwn.never rfl (z1e m_range (zhj m_min z0d (z18 (z3j m_len (z02 5)) z0d))) (z09 (i:=6) sc_law.nd rfl (Or.inl rfl))
    (z0b (z2w (z7l (z2i (z2t D_law_right (hr.mono h_law_right) (z03 (z02 4) (z03 (zs0 (z02 5) z6g (z6f (zd9 (z3j m_len (z02 5)) (z02 6)))) z08)))))
     (z0b (z0r zod))
     z1f)))
   (z07 (z0o (i:=7) sc_law.nd rfl (Or.inl rfl) (zai z08))
   (z07 (z2x PassesOwn.never rfl (z1e m_range (z02 4)) (z09 (i:=8) sc_law.nd rfl (Or.inr rfl))
    (z0b (z3i (zm5 (z02 7) (z47 (own:=["i"]) (cap:=[("j",8),("kinds",3)]) (z1o rfl) (z1e m_range (z02 8))
   (fun _ _ _ _ _=>(z09 (i:=0) zn8 rfl (Or.inl rfl))) (fun _ _ _ _ _=>z1q)
   (fun _ _ _ _ _=>(zag (z03 (z02 0) (z03 (z02 1) (z03 (zob hr (z5m (z02 2) (z02 0)) (z5m (z02 2) (z02 1))) z08))))))))))
   (z07 (z0o (i:=7) sc_law.nd rfl (Or.inl rfl) (z2t D_law_mixed (hr.mono h_law_mixed) (z03 (z02 2) (z03 (z02 7) z08))))
   (z07 (z2w (PW.pt (zm0 (z7l (z2i (z2t D_law_right (hr.mono h_law_right) (z03 (z02 4) (z03 (zs0 (z02 7) (z6f z0d) z6g) z08))))) (zeo (z7l (z2i (z2t D_law_right (hr.mono h_law_right) (z03 (z02 4) (z03 (z02 7) z08))))))))
    (z0b (z0r zod))
    z1f)
   (z07 (z0o (i:=9) sc_law.nd rfl (Or.inl rfl) (z2t D_law_take (hr.mono h_law_take) (z03 (z02 2) (z03 (z18 (z3j m_len (z02 7)) z0d) z08))))
   (z0b (z2w (z6h hr (z2t D_law_take (hr.mono h_law_take) (z03 (z02 2) (z03 z0d z08))) z0d)
    (z07 (z0o (i:=10) sc_law.nd rfl (Or.inl rfl) (z2t D_law_repeated (hr.mono h_law_repeated) (z03 (z02 2) (z03 (zs0 (z02 7) z6g (z6f (z02 9))) z08))))
    (z0b (z2w (z7l (z2i (z2t D_law_right (hr.mono h_law_right) (z03 (z02 4) (z03 (z18 (z02 10) (zs0 (z02 7) (z6f (z18 (z02 9) z0d)) z6g)) z08)))))
     (z0b (z0r zod))
     z1f)))
    z1f)))))))))))))
  (z0b (z0r zod)))
end
end Law
namespace Law
open PySem L2 L3 PyProof.Rows
theorem z9x {v v':Nat→Int} {i:Nat} (h:∀ j,j<i→v j=v' j):firstMet v i=firstMet v' i:=by
 unfold firstMet
 have:(List.range i).map v=(List.range i).map v':=List.map_congr_left fun j hj=>h j (List.mem_range.mp hj)
 rw [this]
theorem zh0 (s:List Int) (x:Int):z4z (s++[x])=if x∈s then z4z s else z4z s+1:=by
 unfold z4z
 rw [List.length_append,List.length_singleton,firstMet_succ,step_length]
 have e:firstMet (fun i=>(s++[x]).getD i 0) s.length=firstMet (fun i=>s.getD i 0) s.length:=z9x fun j hj=>by
  simp [List.getD_eq_getElem?_getD,List.getElem?_append_left hj]
 have ex:(s++[x]).getD s.length 0=x:=by simp [List.getD_eq_getElem?_getD]
 rw [e,ex,firstMet_any]
 have em:((List.range s.length).map fun i=>s.getD i 0)=s:=by
  apply List.ext_getElem
  ·simp
  ·intro i h1 h2
   simp [List.getD_eq_getElem?_getD,List.getElem?_eq_getElem h2]
 rw [em]
 have eb:s.any (·==x)=decide (x∈s):=by
  rw [Bool.eq_iff_iff];simp [List.any_eq_true]
 rw [eb]
 by_cases h:x∈s <;> simp [h]
noncomputable def Sx:Nat→Nat→List (List Int×Nat)
 | 0,_=>[([],0)]
 | n+1,m=>(Sx n m).flatMap fun p=>(List.range (min (p.2+1) m)).map fun (i:Nat)=>(p.1++[(i:Int)],max p.2 (i+1))
structure Gd (n m:Nat) (p:List Int×Nat):Prop where
 len:p.1.length=n
 mem:∀ x:Int,x∈p.1↔0≤x∧x<p.2
 dist:z4z p.1=p.2
 le:p.2≤m
 len2:p.2≤n
 rise:∀ (k:Nat) (x:Int),p.1[k]?=some x→0≤x∧x≤z4z (p.1.take k)
theorem z5z (m:Nat):∀ (n:Nat) (p:List Int×Nat),p∈Sx n m→Gd n m p
 | 0,p,h=>by
  simp [Sx] at h
  subst h
  exact ⟨rfl,fun x=>by simp,rfl,Nat.zero_le _,Nat.le_refl _,fun k x e=>by simp at e⟩
 | n+1,p,h=>by
  simp only [Sx,List.mem_flatMap,List.mem_map,List.mem_range] at h
  refine bq fun bG=>?_
  obtain ⟨q,hq,i,hi,rfl⟩:=h
  have g:=z5z m n q hq
  have him:i<m:=by omega
  have hiu:i≤q.2:=by omega
  refine bG (⟨by simp [g.len],fun x=>?_,?_,?_,?_,?_⟩)
  ·simp only [List.mem_append,List.mem_singleton,g.mem]
   omega
  ·show z4z (q.1++[(i:Int)])=max q.2 (i+1)
   rw [zh0,g.dist]
   by_cases hm:(i:Int)∈q.1
   ·rw [if_pos hm]
    have:=(g.mem _).mp hm
    omega
   ·rw [if_neg hm]
    have:¬ (i:Int)<q.2:=fun z=>hm ((g.mem _).mpr ⟨by omega,z⟩)
    omega
  ·have:=g.le
   show max q.2 (i+1)≤m
   omega
  ·have:=g.len2
   show max q.2 (i+1)≤n+1
   omega
  ·intro k x e
   have e:(q.1++[(i:Int)])[k]?=some x:=e
   show 0≤x∧x≤z4z ((q.1++[(i:Int)]).take k)
   by_cases hk:k<q.1.length
   ·rw [List.getElem?_append_left hk] at e
    rw [List.take_append_of_le_length (by omega)]
    exact g.rise k x e
   ·rw [List.getElem?_append_right (by omega)] at e
    have hz:k=q.1.length:=by
     have:=(List.getElem?_eq_some_iff.mp e).1
     simp at this
     omega
    subst hz
    simp at e
    subst e
    rw [List.take_append_of_le_length (by omega),List.take_length,g.dist]
    omega
theorem Gd.used {n m:Nat} {p:List Int×Nat} (g:Gd n m p):(mxL p.1).getD (-1)+1=(p.2:Int):=by
 cases hn:mxL p.1 with
 | none =>
  have:p.1=[]:=by cases h:p.1 with
   | nil=>rfl
   | cons a r=>rw [h] at hn;cases hn
  have h0:p.2=0:=by
   rcases Nat.eq_zero_or_pos p.2 with z | z
   ·exact z
   ·have:=(g.mem 0).mpr ⟨by omega,by omega⟩
    rw [‹p.1=[]›] at this
    cases this
  simp [h0]
 | some M =>
  have hM:=zp6 hn
  have h1:=(g.mem M).mp hM.1
  have h2:=hM.2 ((p.2:Int) - 1) ((g.mem _).mpr ⟨by omega,by omega⟩)
  simp only [Option.getD_some]
  omega
noncomputable def zde:Nat→List Int
 | 0=>[1]
 | n+1=>0::(List.range (zde n).length).map fun (j:Nat)=>((j:Int)+1)*(zde n++[0]).getD (j+1) 0+(zde n).getD j 0
theorem z7u:∀ n,(zde n).length=n+1
 | 0=>rfl
 | n+1=>by simp [zde,z7u n]
theorem zpk (n:Nat) {m:Nat} (h:8≤m):n≤7→Sx n m=Sx n 8:=by
 induction n with
 | zero=>intro _;rfl
 | succ n ih =>
  intro hn
  rw [Sx,Sx,ih (by omega)]
  rw [List.flatMap_def,List.flatMap_def]
  congr 1
  apply List.map_congr_left
  intro p hp
  have:=(z5z 8 n p hp).len2
  have e:min (p.2+1) m=min (p.2+1) 8:=by omega
  rw [e]
theorem zfw:∀ n<8,∀ m<9,((Sx n m).length:Int)=((zde n).take (m+1)).sum:=by decide +kernel
theorem Sx_many {n:Nat} (hn:n≤7) (m:Nat):((Sx n m).length:Int)=((zde n).take (m+1)).sum:=by
 by_cases h:m<9
 ·exact zfw n (by omega) m h
 ·rw [zpk n (by omega) hn,zfw n (by omega) 8 (by omega),List.take_of_length_le (by rw [z7u];omega),List.take_of_length_le (by rw [z7u];omega)]
theorem zlb:∀ n<8,∀ m<9,(Sx n m).length≤877:=by decide +kernel
theorem zd2 {n:Nat} (hn:n≤7) (m:Nat):(Sx n m).length≤877:=by
 by_cases h:m<9
 ·exact zlb n (by omega) m h
 ·rw [zpk n (by omega) hn];exact zlb n (by omega) 8 (by omega)
noncomputable def zcg (s:List Int) (as:List An):Bool:=as.all fun a=>decide (s.getD a.1 0=s.getD a.2.1 0)==a.2.2
def InN (n:Nat) (as:List An):Prop:=∀ a∈as,a.1<n∧a.2.1<n
theorem zrw {α:Type} (f:Nat→α) (m:Nat):∀ n,n≤m→∃ p∈Sx n m,∀ x y,x<n→y<n→(p.1.getD x 0=p.1.getD y 0↔f x=f y)
 | 0,_=>⟨([],0),by simp [Sx],fun x y h=>by omega⟩
 | n+1,hn=>by
  obtain ⟨p,hp,hf⟩:=zrw f m n (by omega)
  have g:=z5z m n p hp
  have hg:=g.len2
  have lt_of:∀ x,x<n→p.1.getD x 0∈p.1:=fun x hx=>by
   rw [List.getD_eq_getElem?_getD,List.getElem?_eq_getElem (by rw [g.len];exact hx)]
   exact List.getElem_mem _
  obtain ⟨i,hi,him⟩:∃ i:Nat,i<min (p.2+1) m∧∀ x,x<n→(p.1.getD x 0=(i:Int)↔f x=f n):=by
   by_cases h:∃ x,x<n∧f x=f n
   ·obtain ⟨x0,hx0,e0⟩:=h
    have h1:=(g.mem _).mp (lt_of x0 hx0)
    refine ⟨(p.1.getD x0 0).toNat,by have:=g.le;omega,fun x hx=>?_⟩
    have e:((p.1.getD x0 0).toNat:Int)=p.1.getD x0 0:=by omega
    rw [e,← e0]
    exact hf x x0 hx hx0
   ·refine ⟨p.2,by omega,fun x hx=>⟨fun e=>?_,fun e=>absurd ⟨x,hx,e⟩ h⟩⟩
    have h1:=(g.mem _).mp (lt_of x hx)
    omega
  refine ⟨(p.1++[(i:Int)],max p.2 (i+1)),?_,?_⟩
  ·simp only [Sx,List.mem_flatMap,List.mem_map,List.mem_range]
   exact ⟨p,hp,i,hi,rfl⟩
  ·have old:∀ x,x<n→(p.1++[(i:Int)]).getD x 0=p.1.getD x 0:=fun x hx=>by
    simp [List.getD_eq_getElem?_getD,List.getElem?_append_left (show x<p.1.length by rw [g.len];exact hx)]
   have new:(p.1++[(i:Int)]).getD n 0=(i:Int):=by
    have:n=p.1.length:=g.len.symm
    simp [List.getD_eq_getElem?_getD,this]
   intro x y hx hy
   show (p.1++[(i:Int)]).getD x 0=(p.1++[(i:Int)]).getD y 0↔_
   rcases Nat.lt_succ_iff_lt_or_eq.mp hx with hx | rfl <;> rcases Nat.lt_succ_iff_lt_or_eq.mp hy with hy | rfl
   ·rw [old x hx,old y hy];exact hf x y hx hy
   ·rw [old x hx,new];exact him x hx
   ·rw [old y hy,new]
    have:=him y hy
    constructor
    ·intro e;exact (this.mp e.symm).symm
    ·intro e;exact (this.mpr e.symm).symm
   ·simp
theorem zrq {n:Nat} {as:List An} (hv:InN n as) (h:zl0 as=true):∃ p∈Sx n n,zcg p.1 as=true:=by
 obtain ⟨p,hp,hf⟩:=zrw (fun x=>Conn as x) n n (Nat.le_refl _)
 have eqv:∀ x y,Conn as x=Conn as y↔Conn as x y:=fun x y =>
  ⟨fun e=>by rw [e];exact .refl y,fun c=>funext fun z=>propext ⟨fun d=>c.symm.trans d,fun d=>c.trans d⟩⟩
 refine ⟨p,hp,?_⟩
 unfold zcg
 rw [List.all_eq_true]
 intro a ha
 obtain ⟨h1,h2⟩:=hv a ha
 have e:=(hf a.1 a.2.1 h1 h2).trans (eqv _ _)
 have ok:=zb1 as
 cases hb:a.2.2 with
 | true =>
  have hm:(a.1,a.2.1,true)∈as:=by
   have e0:(a.1,a.2.1,true)=a:=by rw [← hb]
   rw [e0];exact ha
  have:Conn as a.1 a.2.1:=Conn.one (mem_nb.mpr (.inl hm))
  rw [decide_eq_true (e.mpr this)]
  rfl
 | false =>
  have hc:=List.all_eq_true.mp h a ha
  rw [hb] at hc
  simp at hc
  have:¬ Conn as a.1 a.2.1:=fun c=>hc (ok.conn c)
  rw [decide_eq_false (mt e.mp this)]
  rfl
theorem zrg {s:List Int} {as:List An} (h:zcg s as=true):zl0 as=true:=by
 have hall:=List.all_eq_true.mp h
 have con:∀ x y,Conn as x y→s.getD x 0=s.getD y 0:=by
  intro x y c
  induction c with
  | refl=>rfl
  | step _ e ih =>
   rw [ih]
   rcases mem_nb.mp e with z | z
   ·have:=hall _ z;simpa using this
   ·have:=hall _ z;simp at this;exact this.symm
 unfold zl0
 rw [List.all_eq_true]
 intro a ha
 have ok:=zb1 as
 cases hb:a.2.2 with
 | true=>simp
 | false =>
  have h1:=hall a ha
  rw [hb] at h1
  simp only [Bool.false_or,Bool.not_eq_true',decide_eq_false_iff_not]
  intro e
  have c:=(ok.iff (ok.named a ha).1).mp e
  rw [con _ _ c] at h1
  simp at h1
noncomputable def z5l (n:Nat) (as:List An):List (List Int):=((Sx n n).map (·.1)).filter fun s=>zcg s as
theorem znr {n:Nat} {as:List An} (hv:InN n as):z5l n as=[]↔zl0 as=false:=by
 constructor
 ·intro h
  cases hc:zl0 as with
  | false=>rfl
  | true =>
   obtain ⟨p,hp,hf⟩:=zrq hv hc
   have:p.1∈z5l n as:=List.mem_filter.mpr ⟨List.mem_map_of_mem hp,hf⟩
   rw [h] at this
   cases this
 ·intro h
  unfold z5l
  rw [List.filter_eq_nil_iff]
  intro s hs hf
  rw [zrg hf] at h
  cases h
noncomputable def zbi (gs:List (Int×List Int)) (k:Int) (t:Int):List (Int×List Int) :=
 if (gs.any fun g=>decide (g.1=k))=true then gs.map fun g=>if g.1=k then (g.1,g.2++[t]) else g else gs++[(k,[t])]
noncomputable def z43:Nat→List Int→List (Int×List Int)→List (Int×List Int)
 | _,[],gs=>gs
 | i,k::r,gs=>z43 (i+1) r (zbi gs k (i:Int))
noncomputable def grp (s:List Int):List (Int×List Int):=z43 0 s []
end Law
namespace Law
open PySem L2 L3
noncomputable def dA (a:An):D:=.tup [.int (a.1:Int),.int (a.2.1:Int),.bl a.2.2]
def Ls (μ:M) (d:D) (ds:List D):Prop:=z3s μ d=some ds∧∃ c,lsC μ d=some (ds,c)∧z2k c μ∧∀ μ',Gr μ μ'→z2k c μ'
theorem Ls.lst {μ:M} {ds:List D}:Ls μ (.lst ds) ds:=⟨rfl,none,rfl,trivial,fun _ _=>trivial⟩
theorem Ls.ref {μ:M} {k:Nat} {ds:List D} (h:μ[k]?=some (some (.lst ds))):Ls μ (.ref k) ds:=⟨z20 h,_,z5t h,h,fun _ g=>g.get h⟩
theorem z14 {μ:M} {d:D} {ds:List D} (h:Ls μ d ds):(∃ k,d=.ref k∧μ[k]?=some (some (.lst ds)))∨(d=.lst ds)∨d=.scr ds:=by
 obtain ⟨h1,_⟩:=h
 cases d with
 | lst xs=>cases h1;exact .inr (.inl rfl)
 | scr xs=>cases h1;exact .inr (.inr rfl)
 | ref k =>
  simp only [z3s] at h1
  split at h1
  ·rename_i xs hk;cases h1;exact .inl ⟨k,rfl,hk⟩
  ·cases h1
 | _=>cases h1
theorem Ls.gr {μ μ':M} {d:D} {ds:List D} (h:Ls μ d ds) (g:Gr μ μ'):Ls μ' d ds:=by
 rcases z14 h with ⟨k,rfl,hk⟩ | rfl | rfl
 ·exact .ref (g.get hk)
 ·exact .lst
 ·exact ⟨rfl,none,rfl,trivial,fun _ _=>trivial⟩
theorem zfl {c:Ck} {g:GV} {body:SX} (Pv:G→M→Prop):∀ (its:List D) (Γ:G) (μ:M),Pv Γ μ →
  (∀ d∈its,∀ Γ μ,Pv Γ μ→∃ Γ1 μ1 Γ2 μ2,g d Γ μ=some (Γ1,μ1)∧body Γ1 μ1=some (.nx,Γ2,μ2)∧z2k c μ2∧Pv Γ2 μ2)→∃ Γ' μ',zs2 c g body its Γ μ=some (.nx,Γ',μ')∧Pv Γ' μ'
 | [],Γ,μ,h,_=>⟨Γ,μ,rfl,h⟩
 | d::r,Γ,μ,h,hs=>by
  obtain ⟨Γ1,μ1,Γ2,μ2,h1,h2,h3,h4⟩:=hs d (by simp) Γ μ h
  obtain ⟨Γ',μ',h5,h6⟩:=zfl Pv r Γ2 μ2 h4 fun d hd=>hs d (by simp [hd])
  refine ⟨Γ',μ',?_,h6⟩
  simp only [zs2,h1,bs,h2]
  rw [z1p h3,h5]
def Ok2 (n:Nat) (as:List An):Prop:=∀ a∈as,a.1<n∧a.2.1<n∧a.1≠a.2.1
theorem Ok2.inN {n:Nat} {as:List An} (h:Ok2 n as):InN n as:=fun a ha=>⟨(h a ha).1,(h a ha).2.1⟩
theorem ziu {C:Addr} {n:Nat} {d:D} {as:List An} {μ:M} (hl:Ls μ d (as.map dA)) (hv:Ok2 n as):z1i C [.int (n:Int),d] μ=some (.ok .non,μ):=by
 obtain ⟨h1,c,h2,h3,h4⟩:=hl
 have main:=zfl (c:=c) (g:=(z21 3 (z0a (z00 2) (z0a (z00 3) (z0a (z00 4) z23))))) (body:=(z6k (zih (upB (zbg (zrt (vT (z57 fLe fLt (vC (.int 0)) (z01 2) (z01 0))) (vT (z57 fLe fLt (vC (.int 0)) (z01 3) (z01 0))))))
    (z5o C ((z01 2)::((z01 3)::((z01 0)::[]))))
    (upS sNx))
   (zih (upB (vT (v2 fEq (z01 2) (z01 3))))
    (z5o C ((z01 2)::[]))
    (upS sNx))))
  (fun Γ μ'=>μ'=μ∧∃ o2 o3 o4,Γ=[some (.int (n:Int)),some d,o2,o3,o4]) (as.map dA) [some (.int (n:Int)),some d,none,none,none] μ ⟨rfl,_,_,_,rfl⟩ ?_
 ·obtain ⟨Γ',μ',e,rfl,o2,o3,o4,rfl⟩:=main
  refine zix (Γ1:=[some (.int (n:Int)),some d,o2,o3,o4]) rfl ?_
  unfold z35
  show z6k _ _ [some (.int (n:Int)),some d,none,none,none] μ'=_
  have t:vT (v2 fLt (z01 0) (vC (.int 0))) [some (.int (n:Int)),some d,none,none,none] μ'=some (false,μ'):=by
   have:¬ ((n:Int)<0):=by omega
   simp [fLt,fI0,this]
  rw [z7w (Γ1:=[some (.int (n:Int)),some d,none,none,none]) (μ1:=μ') ((zk7 (zma t)).trans (zdc (o:=.nx) rfl))]
  have hi:ivL (z01 1) [some (.int (n:Int)),some d,none,none,none] μ'=some ((as.map dA,c),μ'):=by
   simp [h2]
  show (ivL (z01 1) _ μ').bind _=_
  rw [hi,bs]
  exact e
 ·rintro x hx Γ μ' ⟨rfl,o2,o3,o4,rfl⟩
  obtain ⟨a,ha,rfl⟩:=List.mem_map.mp hx
  obtain ⟨q1,q2,q3⟩:=hv a ha
  refine ⟨[some (.int (n:Int)),some d,some (.int (a.1:Int)),some (.int (a.2.1:Int)),some (.bl a.2.2)],μ',[some (.int (n:Int)),some d,some (.int (a.1:Int)),some (.int (a.2.1:Int)),some (.bl a.2.2)],μ',rfl,?_,h3,rfl,some (.int (a.1:Int)),some (.int (a.2.1:Int)),some (.bl a.2.2),rfl⟩
  have t1:(zbg (zrt (vT (z57 fLe fLt (vC (.int 0)) (z01 2) (z01 0))) (vT (z57 fLe fLt (vC (.int 0)) (z01 3) (z01 0))))) [some (.int (n:Int)),some d,some (.int (a.1:Int)),some (.int (a.2.1:Int)),some (.bl a.2.2)] μ'=some (false,μ'):=by
   have b1:(0:Int)≤(a.1:Int):=by omega
   have b2:(0:Int)≤(a.2.1:Int):=by omega
   have b3:(a.1:Int)<(n:Int):=by omega
   have b4:(a.2.1:Int)<(n:Int):=by omega
   simp [fLe,fLt,fI0,b1,b2,b3,b4]
  have t2:vT (v2 fEq (z01 2) (z01 3)) [some (.int (n:Int)),some d,some (.int (a.1:Int)),some (.int (a.2.1:Int)),some (.bl a.2.2)] μ'=some (false,μ'):=by
   have:¬ ((a.1:Int)=(a.2.1:Int)):=by omega
   simp [fEq,eqD,this]
  rw [z7w (Γ1:=[some (.int (n:Int)),some d,some (.int (a.1:Int)),some (.int (a.2.1:Int)),some (.bl a.2.2)]) (μ1:=μ') ((zk7 (zma t1)).trans (zdc (o:=.nx) rfl))]
  exact (zk7 (zma t2)).trans (zdc (o:=.nx) rfl)
noncomputable def kvH (hs:List (Nat×Nat)):List (Key×D):=hs.map fun p=>(Sum.inl (p.1:Int),D.int (p.2:Int))
theorem ze1 (hs:List (Nat×Nat)) (x:Nat):zbm (kvH hs) (Sum.inl (x:Int))=(z2h hs x).map fun r=>D.int (r:Int):=by
 unfold zbm z2h kvH
 induction hs with
 | nil=>rfl
 | cons p r ih =>
  rw [List.map_cons,List.find?_cons,List.find?_cons]
  by_cases z:p.1=x
  ·subst z;simp
  ·have z':¬ ((Sum.inl (p.1:Int):Key)=Sum.inl (x:Int)):=fun e=>z (by injection e with e;omega)
   simp only [z,z',decide_false]
   exact ih
theorem zf2 {kvs:List (Key×D)} {k:Key} (v:D) (h:zbm kvs k=none):zdm kvs k v=kvs++[(k,v)]:=by
 unfold zdm
 rw [if_neg]
 intro hc
 obtain ⟨kv,hm,he⟩:=List.any_eq_true.mp hc
 unfold zbm at h
 rw [Option.map_eq_none_iff,List.find?_eq_none] at h
 exact h kv hm he
theorem zjv {hs:List (Nat×Nat)} {k:Nat} (v:Nat) (h:k∉hs.map (·.1)):zdm (kvH hs) (Sum.inl (k:Int)) (.int (v:Int))=kvH (hs++[(k,v)]):=by
 rw [zf2 _ (by rw [ze1,hVal_none.mpr h];rfl)]
 simp [kvH]
theorem zfc {o w:Nat} {n:Nat}:∀ (hs done:List (Nat×Nat)) (o1 o2:Option D) (μ:M),μ[n]?=some (some (.dK (kvH (z8g done o w))))→((done++hs).map (·.1)).Nodup→(done++hs).length≤100000 →
  z5j n none (z21 2 (z0a (z00 0) (z0a (z00 1) z23))) z2c (z01 0) (vIf (vT (v2 fEq (z01 1) (z01 2))) (z01 3) (z01 1)) ((kvH hs).map fun kv=>.tup [zjy kv.1,kv.2]) [o1,o2,some (.int (o:Int)),some (.int (w:Int))] μ
   = some (μ.set n (some (.dK (kvH (z8g (done++hs) o w)))))
 | [],done,o1,o2,μ,h,_,_=>by
  simp only [kvH,List.map_nil,z5j,List.append_nil]
  congr 1
  apply List.ext_getElem?
  intro j
  by_cases e:j=n
  ·subst e;rw [h,z25 h];rfl
  ·rw [z0v e]
 | p::hs,done,o1,o2,μ,h,hn,hl=>by
  have hp:p.1∉(z8g done o w).map (·.1):=by
   rw [zcc]
   rw [List.map_append,List.nodup_append] at hn
   exact fun hm=>hn.2.2 p.1 hm p.1 (by simp) rfl
  have e1:z8g done o w++[(p.1,if p.2=o then w else p.2)]=z8g (done++[p]) o w:=by simp [z8g]
  have hset:=z25 (y:=some (O.dK (kvH (z8g (done++[p]) o w)))) h
  have ih:=zfc (n:=n) (o:=o) (w:=w) hs (done++[p]) (some (.int (p.1:Int))) (some (.int (p.2:Int))) (μ.set n (some (.dK (kvH (z8g (done++[p]) o w))))) hset (by simpa using hn) (by simpa using hl)
  have hg:z21 2 (z0a (z00 0) (z0a (z00 1) z23)) (.tup [.int (p.1:Int),.int (p.2:Int)]) [o1,o2,some (.int (o:Int)),some (.int (w:Int))] μ=some ([some (.int (p.1:Int)),some (.int (p.2:Int)),some (.int (o:Int)),some (.int (w:Int))],μ):=rfl
  have hv:vIf (vT (v2 fEq (z01 1) (z01 2))) (z01 3) (z01 1) [some (.int (p.1:Int)),some (.int (p.2:Int)),some (.int (o:Int)),some (.int (w:Int))] μ=some (.int ((if p.2=o then w else p.2:Nat):Int),μ):=by
   by_cases z:p.2=o
   ·subst z;simp [fEq,eqD]
   ·have z':¬ ((p.2:Int)=(o:Int)):=by omega
    simp [fEq,eqD,z,z']
  have hk:z01 0 [some (.int (p.1:Int)),some (.int (p.2:Int)),some (.int (o:Int)),some (.int (w:Int))] μ=some (.int (p.1:Int),μ):=rfl
  show z5j n none _ z2c (z01 0) _ (.tup [.int (p.1:Int),.int (p.2:Int)]::(kvH hs).map fun kv=>.tup [zjy kv.1,kv.2]) _ μ=_
  simp only [z5j,hg,bs]
  show (z2c _ _).bind _=_
  simp only [z2c,bs,if_true,hk,hv,zlu,z9y,h]
  rw [z1p ⟨by simp [kvH,z8g];simp at hl;omega,trivial⟩,zjv _ hp,e1]
  rw [ih]
  congr 1
  rw [List.set_set,List.append_assoc]
  rfl
theorem zil {h o w:Nat} {hs:List (Nat×Nat)} {μ:M} (hh:μ[h]?=some (some (.dK (kvH hs)))) (hn:hNd hs) (hl:hs.length≤100000) :
  z1y [.ref h,.int (o:Int),.int (w:Int)] μ=some (.ref μ.length,μ.set h none++[some (.dK (kvH (z8g hs o w)))]):=by
 have hlen:(μ.set h none).length=μ.length:=List.length_set ..
 have h0:(μ.set h none++[some (O.dK [])])[μ.length]?=some (some (.dK (kvH (z8g [] o w)))):=by
  rw [List.getElem?_append_right (by omega),hlen];simp [kvH,z8g]
 have e:=zfc (o:=o) (w:=w) (n:=μ.length) hs [] none none (μ.set h none++[some (.dK [])]) h0 (by simpa [hNd] using hn) (by simpa using hl)
 have hv:zaj ["thing", "home"] [("old",1),("new",2)] (z01 0) (z21 2 (z0a (z00 0) (z0a (z00 1) z23))) z2c (z01 0) (vIf (vT (v2 fEq (z01 1) (z01 2))) (z01 3) (z01 1)) [some (.ref h),some (.int (o:Int)),some (.int (w:Int))] μ=some (.ref μ.length,μ.set h none++[some (.dK (kvH (z8g hs o w)))]):=by
  unfold zaj
  have hv0:z01 0 [some (.ref h),some (.int (o:Int)),some (.int (w:Int))] μ=some (.ref h,μ):=rfl
  rw [hv0,bs]
  show (z9y μ (.ref h)).bind _=_
  simp only [z9y,hh,bs]
  rw [z1p (by simp [kvH];omega)]
  have hc:z50 (["thing", "home"]:List Str) [("old",1),("new",2)] [some (.ref h),some (.int (o:Int)),some (.int (w:Int))]=[none,none,some (.int (o:Int)),some (.int (w:Int))]:=rfl
  rw [hc,e,bs]
  congr 2
  have:(μ.set h none++[some (O.dK [])]).set μ.length (some (.dK (kvH (z8g ([]++hs) o w))))=μ.set h none++[some (.dK (kvH (z8g hs o w)))]:=by
   rw [List.set_append_right _ _ (by omega),hlen]
   simp
  exact this
 unfold z1y zb9
 rw [z1x,if_pos (show [D.ref h,D.int (o:Int),D.int (w:Int)].length=3 from rfl)]
 show z9v (z2p _ [some (.ref h),some (.int (o:Int)),some (.int (w:Int))] μ)=_
 rw [z6l,hv]
 rfl
structure On (s:Nat) (μ μ':M):Prop where
 len:μ'.length=μ.length
 at_:∀ j,j≠s→μ'[j]?=μ[j]?
theorem On.refl {s:Nat} {μ:M}:On s μ μ:=⟨rfl,fun _ _=>rfl⟩
theorem zp4 {s:Nat} {μ:M} {o:Option O}:On s μ (μ.set s o):=⟨by simp,fun j n=>z0v n⟩
theorem On.trans {s:Nat} {μ μ1 μ2:M} (h:On s μ μ1) (g:On s μ1 μ2):On s μ μ2:=⟨g.len.trans h.len,fun j n=>(g.at_ j n).trans (h.at_ j n)⟩
theorem On.gr {s:Nat} {μ μ1 μ2:M} (g:Gr μ μ1) (h:On s μ1 μ2) (hs:μ.length≤s):Gr μ μ2:=⟨by rw [h.len];exact g.len,fun j hj=>by rw [h.at_ j (by omega)];exact g.at_ j hj⟩
theorem zis {h x:Nat} {hs:List (Nat×Nat)} {μ:M} {Γ:G} {ek:EV} (h0:Γ[1]?=some (some (.ref h))) (hk:ek Γ μ=some (.int (x:Int),μ)) (hh:μ[h]?=some (some (.dK (kvH hs)))) (hl:hs.length<100000) :
  ∃ d μ',z24 (z01 1) ek ek Γ μ=some (d,μ')∧μ'[h]?=some (some (.dK (kvH (z2r hs x))))∧On h μ μ':=by
 have hv:z01 1 Γ μ=some (.ref h,μ):=zvg h0
 have hd:z9y μ (.ref h)=some (kvH hs):=by simp only [z9y,hh]
 have hlen:(kvH hs).length<1000000:=by simp [kvH];omega
 unfold z24
 rw [hv,bs]
 simp only [hd,bs,hk,zlu,if_pos hlen,ze1]
 cases hx:z2h hs x with
 | some r =>
  refine ⟨.int (r:Int),μ,rfl,?_,.refl⟩
  unfold z2r;rw [hx];exact hh
 | none =>
  refine ⟨.int (x:Int),μ.set h (some (.dK (zdm (kvH hs) (Sum.inl (x:Int)) (.int (x:Int))))),rfl,?_,zp4⟩
  rw [z25 hh,zjv _ (hVal_none.mp hx)]
  unfold z2r;rw [hx];rfl
theorem z7j {h x r:Nat} {hs:List (Nat×Nat)} {μ:M} (hh:μ[h]?=some (some (.dK (kvH hs)))) (hx:z2h hs x=some r):z5v (.ref h) (.int (x:Int)) μ=some (.int (r:Int),μ):=by
 unfold z5v
 simp only [z9y,hh,bs,zlu,ze1,hx]
 rfl
noncomputable abbrev znq:SV:=(z0u (z2j (z24 (z01 1) (z01 2) (z01 2)))
   (z0u (z2j (z24 (z01 1) (z01 3) (z01 3)))
   (sIf (z5k (z01 4))
    (z0z (vL z1y (z04 (z01 1) (z04 (v2 z5v (z01 1) (z01 3)) (z04 (v2 z5v (z01 1) (z01 2)) z0e)))) (z00 1))
    sNx)))
theorem zir {d:D} {h:Nat} {a:An} {hs:List (Nat×Nat)} {μ:M} (hh:μ[h]?=some (some (.dK (kvH hs)))) (hn:hNd hs) (hl:hs.length<10000) :
  ∃ h' μ',znq [some d,some (.ref h),some (.int (a.1:Int)),some (.int (a.2.1:Int)),some (.bl a.2.2)] μ=some (.nx,[some d,some (.ref h'),some (.int (a.1:Int)),some (.int (a.2.1:Int)),some (.bl a.2.2)],μ')∧μ'[h']?=some (some (.dK (kvH (z6t hs a))))∧(∀ μ0,Gr μ0 μ→μ0.length≤h→Gr μ0 μ'∧μ0.length≤h'):=by
 obtain ⟨d1,μ1,e1,h1,o1⟩:=zis (x:=a.1) (Γ:=[some d,some (.ref h),some (.int (a.1:Int)),some (.int (a.2.1:Int)),some (.bl a.2.2)]) (ek:=z01 2) rfl rfl hh (by omega)
 have l1:=z7h hs a.1
 obtain ⟨d2,μ2,e2,h2,o2⟩:=zis (x:=a.2.1) (Γ:=[some d,some (.ref h),some (.int (a.1:Int)),some (.int (a.2.1:Int)),some (.bl a.2.2)]) (ek:=z01 3) (μ:=μ1) rfl rfl h1 (by omega)
 have l2:=z7h (z2r hs a.1) a.2.1
 have s12:znq [some d,some (.ref h),some (.int (a.1:Int)),some (.int (a.2.1:Int)),some (.bl a.2.2)] μ=sIf (z5k (z01 4)) (z0z (vL z1y (z04 (z01 1) (z04 (v2 z5v (z01 1) (z01 3)) (z04 (v2 z5v (z01 1) (z01 2)) z0e)))) (z00 1)) sNx [some d,some (.ref h),some (.int (a.1:Int)),some (.int (a.2.1:Int)),some (.bl a.2.2)] μ2:=by
  unfold znq
  rw [z0t,z38,e1]
  show zk1 _ (some (.nx,_,μ1))=_
  rw [z1j,z0t,z38,e2]
  rfl
 rw [s12]
 have hb:z5k (z01 4) [some d,some (.ref h),some (.int (a.1:Int)),some (.int (a.2.1:Int)),some (.bl a.2.2)] μ2=some (a.2.2,μ2):=by simp
 cases hc:a.2.2 with
 | false =>
  rw [hc] at hb
  refine ⟨h,μ2,by rw [z37,hb];rfl,?_,fun μ0 g0 hle=>⟨On.gr g0 (o1.trans o2) hle,hle⟩⟩
  rw [h2]
  unfold z6t;simp [hc]
 | true =>
  rw [hc] at hb
  have vi:∃ r,z2h (z2r (z2r hs a.1) a.2.1) a.1=some r:=by
   rw [z42]
   split
   ·exact ⟨_,rfl⟩
   ·rw [z42,if_pos rfl];exact ⟨_,rfl⟩
  have vj:∃ r,z2h (z2r (z2r hs a.1) a.2.1) a.2.1=some r:=by rw [z42,if_pos rfl];exact ⟨_,rfl⟩
  obtain ⟨ri,hi⟩:=vi
  obtain ⟨rj,hj⟩:=vj
  have nd2:=zb2 (zb2 hn a.1) a.2.1
  have em:=zil (o:=rj) (w:=ri) h2 nd2 (by omega)
  refine ⟨μ2.length,μ2.set h none++[some (.dK (kvH (z8g (z2r (z2r hs a.1) a.2.1) rj ri)))],?_,?_,fun μ0 g0 hle=>?_⟩
  ·rw [z37,hb]
   show z0z _ _ _ _=_
   have gj:=z7j h2 hj
   have gi:=z7j h2 hi
   simp [gj,gi,em]
  ·have:(μ2.set h none).length=μ2.length:=List.length_set ..
   rw [List.getElem?_append_right (by omega),this]
   simp [z6t,hc,hi,hj]
  ·have g2:=On.gr g0 (o1.trans o2) hle
   refine ⟨⟨by simp;have:=g2.len;omega,fun j hj'=>?_⟩,g2.len⟩
   have hlt:j<μ2.length:=by have:=g2.len;omega
   rw [List.getElem?_append_left (by simpa using hlt),z0v (by omega)]
   exact g2.at_ j hj'
theorem ziq {d:D} {as:List An} {μ:M} (hl:Ls μ d (as.map dA)) (hs:as.length≤1000):∃ h μ',z1s z1y [d] μ=some (.ref h,μ')∧μ'[h]?=some (some (.dK (kvH (z2q as))))∧Gr μ μ':=by
 obtain ⟨h1,c,h2,h3,h4⟩:=hl
 have main:=z8h (c:=c) (g:=(z21 3 (z0a (z00 2) (z0a (z00 3) (z0a (z00 4) z23))))) (body:=znq)
  (fun i Γ μ'=>∃ h o2 o3 o4,Γ=[some d,some (.ref h),o2,o3,o4]∧μ'[h]?=some (some (.dK (kvH (z2q (as.take i)))))∧Gr μ μ'∧μ.length≤h)
  (as.map dA) 0 [some d,some (.ref μ.length),none,none,none] (μ++[some (.dK [])]) ⟨μ.length,_,_,_,rfl,by simp [kvH,z2q],z32,Nat.le_refl _⟩ ?_
 ·obtain ⟨Γ',μ',e,h,o2,o3,o4,rfl,hh,g,_⟩:=main
  rw [Nat.zero_add,List.length_map,List.take_length] at hh
  refine ⟨h,μ',?_,hh,g⟩
  unfold z1s z5x
  rw [z1x,if_pos (show [d].length=1 from rfl)]
  show z9v (z0u _ _ [some d,none,none,none,none] μ)=_
  have s1:z0z zhx (z00 1) [some d,none,none,none,none] μ=some (.nx,[some d,some (.ref μ.length),none,none,none],μ++[some (.dK [])]):=rfl
  have hi:ivL (z01 0) [some d,some (.ref μ.length),none,none,none] (μ++[some (.dK [])])=some ((as.map dA,c),μ++[some (.dK [])]):=by
   have hL:Ls (μ++[some (.dK [])]) d (as.map dA):=Ls.gr ⟨h1,c,h2,h3,h4⟩ z32
   have:lsC (μ++[some (.dK [])]) d=some (as.map dA,c):=by
    cases d with
    | ref k =>
     rcases z14 (μ:=μ) (d:=.ref k) ⟨h1,c,h2,h3,h4⟩ with ⟨k',e,hk⟩ | e | e
     ·cases e
      rw [z5t hk] at h2
      rw [z5t ((z32 (ex:=[some (.dK [])])).get hk)]
      exact h2
     ·cases e
     ·cases e
    | _=>exact h2
   simp [this]
  rw [z0t,s1,z1j,z0t,z2y,hi,z4n,e]
  rfl
 ·rintro j x Γ μ1 hx ⟨h,o2,o3,o4,rfl,hh,g,hle⟩
  rw [Nat.zero_add] at hh
  rw [List.getElem?_map] at hx
  cases ha:as[j]? with
  | none=>rw [ha] at hx;cases hx
  | some a =>
   rw [ha] at hx
   cases hx
   have hlen:(z2q (as.take j)).length<10000:=by
    have:=zk8 (as.take j)
    have:=List.length_take_le j as
    rw [List.length_take] at *
    omega
   obtain ⟨h',μ2,e,hh2,hg⟩:=zir (d:=d) (a:=a) hh (znm _) hlen
   obtain ⟨g2,hle2⟩:=hg μ g hle
   refine ⟨[some d,some (.ref h),some (.int (a.1:Int)),some (.int (a.2.1:Int)),some (.bl a.2.2)],μ1,_,μ2,rfl,e,h4 _ g2,h',some (.int (a.1:Int)),some (.int (a.2.1:Int)),some (.bl a.2.2),rfl,?_,g2,hle2⟩
   rw [hh2,Nat.zero_add,zgs as j a ha]
theorem z29 {c:Ck} {g:GV} {tc:BV} {te:EV} {α:Type} {dn:α→D} {keep:α→Bool} {val:α→D} (Pv:G→Prop) {μ:M} (hc:z2k c μ):∀ (l:List α) (Γ:G),Pv Γ →
  (∀ x∈l,∀ Γ,Pv Γ→∃ Γ1,g (dn x) Γ μ=some (Γ1,μ)∧tc Γ1 μ=some (keep x,μ)∧(keep x=true→te Γ1 μ=some (val x,μ))∧Pv Γ1) →
  z1m c g tc te (l.map dn) Γ μ=some ((l.filter keep).map val,μ)
 | [],_,_,_=>rfl
 | x::r,Γ,h,hs=>by
  obtain ⟨Γ1,h1,h2,h3,h4⟩:=hs x (by simp) Γ h
  have ih:=z29 Pv hc r Γ1 h4 fun x hx=>hs x (by simp [hx])
  simp only [List.map_cons,z1m,h1,bs,h2]
  cases hk:keep x with
  | true=>simp only [if_true,h3 hk,bs,z1p hc,ih,List.filter_cons_of_pos hk,List.map_cons]
  | false=>simp only [Bool.false_eq_true,if_false,z1p hc,ih,List.filter_cons,hk]
theorem zab {α:Type} (l:List α):l.filter (fun _=>true)=l:=List.filter_eq_self.mpr (by simp)
section
variable {α:Type} {own:Str} {cap:List (Str×Nat)} {z1w:G} {iv:IV} {tc:BV} {te:EV} {Γ:G} {μ:M} {c:Ck} {l:List α} {dn:α→D}
theorem zfr {keep:α→Bool} {val:α→D} (hi:iv Γ μ=some ((l.map dn,c),μ)) (hl:l.length≤1000000) (hc:z2k c μ) (he:z50 [own] cap Γ=none::z1w)
  (ht:∀ x∈l,tc (some (dn x)::z1w) μ=some (keep x,μ)) (hv:∀ x∈l,keep x=true→te (some (dn x)::z1w) μ=some (val x,μ)):z10 [own] cap iv (z00 0) tc te Γ μ=some (.lst ((l.filter keep).map val),μ):=by
 rw [z63,hi,z8d,if_pos (by simpa using hl),he]
 rw [z29 (g:=z00 0) (tc:=tc) (te:=te) (keep:=keep) (val:=val) (fun Γ=>∃ o,Γ=o::z1w) hc l (none::z1w) ⟨none,rfl⟩ (by
  rintro x hx Γ ⟨o,rfl⟩
  exact ⟨some (dn x)::z1w,rfl,ht x hx,hv x hx,_,rfl⟩)]
 rfl
theorem z8u {val:α→D} (hi:iv Γ μ=some ((l.map dn,c),μ)) (hl:l.length≤1000000) (hc:z2k c μ) (he:z50 [own] cap Γ=none::z1w)
  (hv:∀ x∈l,te (some (dn x)::z1w) μ=some (val x,μ)):z10 [own] cap iv (z00 0) z2c te Γ μ=some (.lst (l.map val),μ):=by
 rw [zfr (keep:=fun _=>true) (val:=val) hi hl hc he (fun _ _=>rfl) (fun x hx _=>hv x hx),zab]
end
theorem Ls.iv {μ:M} {d:D} {ds:List D} {Γ:G} {i:Nat} (h:Ls μ d ds) (hΓ:Γ[i]?=some (some d)):∃ c,ivL (z01 i) Γ μ=some ((ds,c),μ)∧z2k c μ∧∀ μ',Gr μ μ'→z2k c μ':=by
 obtain ⟨h1,c,h2,h3,h4⟩:=h
 exact ⟨c,by unfold ivL;rw [zvg hΓ,bs];show (lsC μ d).bind _=_;rw [h2,bs],h3,h4⟩
section
variable {C CF CT:Addr} {n:Nat} {d:D} {as:List An} {μ:M}
noncomputable abbrev zjo (C:Addr):FX:=z88 (z1s z1y) (z1i C)
noncomputable abbrev zdy (C CF:Addr):FX:=z3o (zjo C) CF
theorem zq8 (hl:Ls μ d (as.map dA)) (hv:Ok2 n as) (hs:as.length≤1000):∃ μ',zjo C [.int (n:Int),d] μ=some (.ok (.bl (zl0 as)),μ')∧Gr μ μ':=by
 obtain ⟨h,μ1,e1,hh,g⟩:=ziq hl hs
 refine ⟨μ1,?_,g⟩
 have hc1:=ziu (C:=C) hl hv
 obtain ⟨c,hi,hck,_⟩:=(hl.gr g).iv (Γ:=[some (.int (n:Int)),some d,some (.ref h)]) (i:=1) rfl
 have hcmp:z10 ["i", "j", "alike"] [("homes",2)] (ivL (z01 1)) (z21 3 (z0a (z00 0) (z0a (z00 1) (z0a (z00 2) z23)))) z2c (vOr (z01 2) (v2 fNe (v2 z5v (z01 3) (z01 0)) (v2 z5v (z01 3) (z01 1)))) [some (.int (n:Int)),some d,some (.ref h)] μ1=some (.lst ((as.map fun a=>a.2.2||!decide (z2h (z2q as) a.1=z2h (z2q as) a.2.1)).map D.bl),μ1):=by
  rw [z63,hi,z8d,if_pos (by simp;omega)]
  have ec:z50 (["i", "j", "alike"]:List Str) [("homes",2)] [some (.int (n:Int)),some d,some (.ref h)]=[none,none,none,some (.ref h)]:=rfl
  rw [ec,z29 (dn:=dA) (keep:=fun _=>true) (val:=fun a=>D.bl (a.2.2||!decide (z2h (z2q as) a.1=z2h (z2q as) a.2.1))) (fun Γ=>∃ o1 o2 o3,Γ=[o1,o2,o3,some (.ref h)]) hck as _ ⟨_,_,_,rfl⟩ ?_,zab]
  ·simp
  ·rintro a ha Γ ⟨o1,o2,o3,rfl⟩
   obtain ⟨n1,n2⟩:=(zb1 as).named a ha
   obtain ⟨r1,q1⟩:=Option.isSome_iff_exists.mp n1
   obtain ⟨r2,q2⟩:=Option.isSome_iff_exists.mp n2
   have g1:=z7j hh q1
   have g2:=z7j hh q2
   refine ⟨[some (.int (a.1:Int)),some (.int (a.2.1:Int)),some (.bl a.2.2),some (.ref h)],rfl,rfl,fun _=>?_,_,_,_,rfl⟩
   have ht:v2 fNe (v2 z5v (z01 3) (z01 0)) (v2 z5v (z01 3) (z01 1)) [some (.int (a.1:Int)),some (.int (a.2.1:Int)),some (.bl a.2.2),some (.ref h)] μ1=some (.bl (!decide (z2h (z2q as) a.1=z2h (z2q as) a.2.1)),μ1):=by
    rw [e_2 (x:=.int (r1:Int)) (μ1:=μ1) (y:=.int (r2:Int)) (μ2:=μ1) (by rw [e_2 (x:=.ref h) (μ1:=μ1) (y:=.int (a.1:Int)) (μ2:=μ1) rfl rfl];exact g1) (by rw [e_2 (x:=.ref h) (μ1:=μ1) (y:=.int (a.2.1:Int)) (μ2:=μ1) rfl rfl];exact g2),q1,q2]
    simp [fNe,eqD]
    omega
   cases hb:a.2.2 with
   | true=>rfl
   | false =>
    rw [hb] at ht
    rw [zsn]
    show zvv _ _ (some (.bl false,μ1))=_
    exact ht
 refine zan (Γ1:=[some (.int (n:Int)),some d,some (.ref h)]) rfl ?_
 unfold z8l
 show z6k _ _ [some (.int (n:Int)),some d,none] μ=_
 rw [z7w (Γ1:=[some (.int (n:Int)),some d,none]) (μ1:=μ) (zko (d:=.non) (by rw [zg5 (ds:=[.int (n:Int),d]) (μ1:=μ) (zi1 rfl)];exact hc1))]
 refine zdc (o:=.rt _) ?_
 have s1:z0z (vL (z1s z1y) (z04 (z01 1) z0e)) (z00 2) [some (.int (n:Int)),some d,none] μ=some (.nx,[some (.int (n:Int)),some d,some (.ref h)],μ1):=by
  simp [e1]
 rw [z0t,s1,z1j,z6l,e_1 hcmp]
 simp only [zri,z3s,bs,zd1]
 show some (Out.rt (.bl _),_,_)=_
 congr 4
 unfold zl0
 simp [List.all_map]
theorem zbs (hl:Ls μ d (as.map dA)) (hv:Ok2 n as) (hs:as.length≤1000) (hc:zl0 as=true):∃ μ',zdy C CF [.int (n:Int),d] μ=some (.ok .non,μ')∧Gr μ μ':=by
 obtain ⟨μ1,e,g⟩:=zq8 (C:=C) hl hv hs
 rw [hc] at e
 refine ⟨μ1,zix (Γ1:=[some (.int (n:Int)),some d]) rfl ?_,g⟩
 unfold z3q
 show zih _ _ _ [some (.int (n:Int)),some d] μ=_
 have e2:vLX (zjo C) (upL (z04 (z01 0) (z04 (z01 1) z0e))) [some (.int (n:Int)),some d] μ=some (.ok (.bl true),μ1):=by
  rw [zg5 (ds:=[.int (n:Int),d]) (μ1:=μ) (zi1 rfl)];exact e
 have e3:zo2 (bTX (vLX (zjo C) (upL (z04 (z01 0) (z04 (z01 1) z0e))))) [some (.int (n:Int)),some d] μ=some (.ok false,μ1):=by
  unfold zo2 bTX;rw [e2];rfl
 rw [zk7 e3]
 exact zdc (o:=.nx) rfl
end
noncomputable def dI (s:List Int):D:=.lst (s.map D.int)
theorem zks (a b:Bool) (μ:M):eqD (.bl a) (.bl b) μ=some (a==b):=by
 cases a <;> cases b <;> rfl
noncomputable abbrev zcl:SV:=(sIf (vT (v2 fNe (v2 fEq (v2 fIx (z01 0) (z01 2)) (v2 fIx (z01 0) (z01 3))) (z01 4)))
    (z2p (vC (.bl false)))
    sNx)
theorem zcf {s:List Int} {d:D} {c:Ck} {μ:M} (hc:z2k c μ):∀ (as:List An) (o2 o3 o4:Option D),InN s.length as →
  (zcg s as=true→∃ o2' o3' o4',z4d c (z21 3 (z0a (z00 2) (z0a (z00 3) (z0a (z00 4) z23)))) zcl (as.map dA) [some (dI s),some d,o2,o3,o4] μ=some (.nx,[some (dI s),some d,o2',o3',o4'],μ)) ∧
  (zcg s as=false→∃ Γ',z4d c (z21 3 (z0a (z00 2) (z0a (z00 3) (z0a (z00 4) z23)))) zcl (as.map dA) [some (dI s),some d,o2,o3,o4] μ=some (.rt (.bl false),Γ',μ))
 | [],o2,o3,o4,_=>⟨fun _=>⟨o2,o3,o4,rfl⟩,fun h=>by cases h⟩
 | a::as,o2,o3,o4,hv=>by
  obtain ⟨h1,h2⟩:=hv a (by simp)
  obtain ⟨ih1,ih2⟩:=zcf (s:=s) (d:=d) hc as (some (.int (a.1:Int))) (some (.int (a.2.1:Int))) (some (.bl a.2.2)) (fun x hx=>hv x (by simp [hx]))
  have hg:z21 3 (z0a (z00 2) (z0a (z00 3) (z0a (z00 4) z23))) (dA a) [some (dI s),some d,o2,o3,o4] μ=some ([some (dI s),some d,some (.int (a.1:Int)),some (.int (a.2.1:Int)),some (.bl a.2.2)],μ):=rfl
  have ix:∀ x:Nat,x<s.length→fIx (dI s) (.int (x:Int)) μ=some (.int (s.getD x 0),μ):=fun x hx=>by
   simp only [fIx,dI,z3s]
   rw [z6e (j:=x) (v:=.int (s.getD x 0)) (by rw [List.getElem?_map,List.getD_eq_getElem?_getD];simp [List.getElem?_eq_getElem hx])]
   rfl
  have t:vT (v2 fNe (v2 fEq (v2 fIx (z01 0) (z01 2)) (v2 fIx (z01 0) (z01 3))) (z01 4)) [some (dI s),some d,some (.int (a.1:Int)),some (.int (a.2.1:Int)),some (.bl a.2.2)] μ=some (!(decide (s.getD a.1 0=s.getD a.2.1 0)==a.2.2),μ):=by
   rw [zbn,e_2 (x:=.bl (decide (s.getD a.1 0=s.getD a.2.1 0))) (μ1:=μ) (y:=.bl a.2.2) (μ2:=μ) (by
    rw [e_2 (x:=.int (s.getD a.1 0)) (μ1:=μ) (y:=.int (s.getD a.2.1 0)) (μ2:=μ) (by rw [e_2 (x:=dI s) (μ1:=μ) (y:=.int (a.1:Int)) (μ2:=μ) rfl rfl];exact ix _ h1) (by rw [e_2 (x:=dI s) (μ1:=μ) (y:=.int (a.2.1:Int)) (μ2:=μ) rfl rfl];exact ix _ h2)]
    rfl) rfl]
   simp only [fNe,zks,bs]
   rfl
  have ef:zcg s (a::as)=((decide (s.getD a.1 0=s.getD a.2.1 0)==a.2.2)&&zcg s as):=rfl
  rw [ef]
  cases hb:(decide (s.getD a.1 0=s.getD a.2.1 0)==a.2.2) with
  | true =>
   rw [hb] at t
   have hbd:zcl [some (dI s),some d,some (.int (a.1:Int)),some (.int (a.2.1:Int)),some (.bl a.2.2)] μ=some (.nx,[some (dI s),some d,some (.int (a.1:Int)),some (.int (a.2.1:Int)),some (.bl a.2.2)],μ):=by
    unfold zcl;rw [z37,t];rfl
   have step:z4d c (z21 3 (z0a (z00 2) (z0a (z00 3) (z0a (z00 4) z23)))) zcl ((a::as).map dA) [some (dI s),some d,o2,o3,o4] μ=z4d c (z21 3 (z0a (z00 2) (z0a (z00 3) (z0a (z00 4) z23)))) zcl (as.map dA) [some (dI s),some d,some (.int (a.1:Int)),some (.int (a.2.1:Int)),some (.bl a.2.2)] μ:=by
    rw [List.map_cons]
    simp only [z4d,hg,bs,hbd]
    rw [z1p hc]
   rw [step,Bool.true_and]
   exact ⟨ih1,ih2⟩
  | false =>
   rw [hb] at t
   have hbd:zcl [some (dI s),some d,some (.int (a.1:Int)),some (.int (a.2.1:Int)),some (.bl a.2.2)] μ=some (.rt (.bl false),[some (dI s),some d,some (.int (a.1:Int)),some (.int (a.2.1:Int)),some (.bl a.2.2)],μ):=by
    unfold zcl;rw [z37,t];rfl
   refine ⟨fun z=>by simp at z,fun _=>⟨[some (dI s),some d,some (.int (a.1:Int)),some (.int (a.2.1:Int)),some (.bl a.2.2)],?_⟩⟩
   rw [List.map_cons]
   simp only [z4d,hg,bs,hbd]
theorem zmq {s:List Int} {d:D} {as:List An} {μ:M} (hl:Ls μ d (as.map dA)) (hv:InN s.length as):z4m [dI s,d] μ=some (.bl (zcg s as),μ):=by
 obtain ⟨c,hi,hck,_⟩:=hl.iv (Γ:=[some (dI s),some d,none,none,none]) (i:=1) rfl
 obtain ⟨l1,l2⟩:=zcf (s:=s) (d:=d) hck as none none none hv
 unfold z4m ze9
 rw [z1x,if_pos (show [dI s,d].length=2 from rfl)]
 show z9v (z0u _ _ [some (dI s),some d,none,none,none] μ)=_
 rw [z0t,z2y,hi,z4n]
 cases hb:zcg s as with
 | true =>
  obtain ⟨o2,o3,o4,e⟩:=l1 hb
  rw [e]
  rfl
 | false =>
  obtain ⟨Γ',e⟩:=l2 hb
  rw [e]
  rfl
noncomputable def ext (m:Nat) (p:List Int×Nat):List (List Int×Nat):=(List.range (min (p.2+1) m)).map fun (i:Nat)=>(p.1++[(i:Int)],max p.2 (i+1))
noncomputable def dS (p:List Int×Nat):D:=dI p.1
theorem zmm {μ:M} {s:List Int×Nat} {k:Int} {n:Nat} (g:Gd n k.toNat s) (hn:n≤7):z0f [dS s,.int k] μ=some (.lst ((ext k.toNat s).map dS),μ):=by
 have hl:s.1.length≤1000:=by rw [g.len];omega
 have hu:=g.used
 have h2:=g.len2
 have s1:z0z (v2 z0w (v2 zgw (z01 0) (v1 zns (vC (.int 1)))) (vC (.int 1))) (z00 2) [some (dS s),some (.int k),none] μ=some (.nx,[some (dS s),some (.int k),some (.int (s.2:Int))],μ):=by
  have e1:v2 zgw (z01 0) (v1 zns (vC (.int 1))) [some (dS s),some (.int k),none] μ=some (.int ((mxL s.1).getD (-1)),μ):=by
   rw [e_2 (x:=dS s) (μ1:=μ) (y:=.int (-1)) (μ2:=μ) rfl (by simp [zns])]
   simp only [zgw,dS,dI,z3s,bs,all_ints]
  rw [z6m,e_2 (x:=.int ((mxL s.1).getD (-1))) (μ1:=μ) (y:=.int 1) (μ2:=μ) e1 rfl]
  simp only [z0w,hu]
  rfl
 have s2:v2 zkm (v2 z0w (z01 2) (vC (.int 1))) (z01 1) [some (dS s),some (.int k),some (.int (s.2:Int))] μ=some (.int (min ((s.2:Int)+1) k),μ):=by
  rw [e_2 (x:=.int ((s.2:Int)+1)) (μ1:=μ) (y:=.int k) (μ2:=μ) (by simp [z0w]) rfl]
  show some (D.int (if k<(s.2:Int)+1 then k else (s.2:Int)+1),μ)=_
  have e0:(if k<(s.2:Int)+1 then k else (s.2:Int)+1)=min ((s.2:Int)+1) k:=by
   simp only [Int.min_def]
   split <;> split <;> omega
  rw [e0]
 have s3:z10 ["number"] [("sort",0)] (zv2 (v2 zkm (v2 z0w (z01 2) (vC (.int 1))) (z01 1))) (z00 0) z2c (v2 z0w (z01 1) (vL z2m (z04 (z01 0) z0e))) [some (dS s),some (.int k),some (.int (s.2:Int))] μ=some (.lst ((List.range (min (s.2+1) k.toNat)).map fun i:Nat=>dI (s.1++[(i:Int)])),μ):=by
  refine z8u (l:=List.range (min (s.2+1) k.toNat)) (dn:=fun i:Nat=>D.int (i:Int)) (c:=none) (z1w:=[some (dS s)]) ?_ (by simp;omega) trivial rfl ?_
  ·rw [zv1 s2 (by have:=Int.min_le_left ((s.2:Int)+1) k;omega)]
   have hm:(min ((s.2:Int)+1) k).toNat=min (s.2+1) k.toNat:=by simp only [Int.min_def,Nat.min_def];split <;> split <;> omega
   rw [hm]
   simp [z2z]
  ·intro i _
   rw [e_2 (x:=dS s) (μ1:=μ) (y:=.lst [.int (i:Int)]) (μ2:=μ) rfl rfl]
   show zgy (.lst (s.1.map D.int)) (.lst [.int (i:Int)]) μ=_
   unfold zgy
   simp only [zhq,bs]
   rw [if_pos (by simp;omega)]
   simp [dI]
 unfold z0f z28
 rw [z1x,if_pos (show [dS s,D.int k].length=2 from rfl)]
 show z9v (z0u _ _ [some (dS s),some (.int k),none] μ)=_
 rw [z0t,s1,z1j,z6l,s3]
 simp [ext,dS,Function.comp_def,z9v,kRt]
theorem zfk {α:Type} {f:α→D} {μ:M} {k:D}:∀ (l:List α) (a o:Option D),∃ o',z77 none (z00 1) z2c (z01 1) (l.map f) [a,o,some k] μ=some (l.map f,[a,o',some k],μ)
 | [],a,o=>⟨o,rfl⟩
 | p::l,a,o=>by
  obtain ⟨o',e⟩:=zfk l a (some (f p))
  refine ⟨o',?_⟩
  have hg:z00 1 (f p) [a,o,some k] μ=some ([a,some (f p),some k],μ):=rfl
  have hv:z01 1 [a,some (f p),some k] μ=some (f p,μ):=rfl
  simp only [List.map_cons,z77,hg,bs]
  show (z2c _ _).bind _=_
  simp only [z2c,bs,if_true,hv,z3g]
  rw [e]
  rfl
theorem zfs {n:Nat} {k:Int} {μ:M} (hn:n≤7):∀ (ps:List (List Int×Nat)) (a o:Option D),(∀ p∈ps,Gd n k.toNat p) →
  z4b none (z00 0) z2c (ivL (vL z0f (z04 (z01 0) (z04 (z01 2) z0e)))) (z00 1) z2c (z01 1) (ps.map dS) [a,o,some (.int k)] μ=some ((ps.flatMap (ext k.toNat)).map dS,μ)
 | [],a,o,_=>rfl
 | p::ps,a,o,hg=>by
  have e1:=zmm (μ:=μ) (hg p (by simp)) hn
  obtain ⟨o',e3⟩:=zfk (f:=dS) (μ:=μ) (k:=.int k) (ext k.toNat p) (some (dS p)) o
  have e4:=zfs (μ:=μ) hn ps (some (dS p)) o' (fun q hq=>hg q (by simp [hq]))
  have h0:z00 0 (dS p) [a,o,some (.int k)] μ=some ([some (dS p),o,some (.int k)],μ):=rfl
  have hv:ivL (vL z0f (z04 (z01 0) (z04 (z01 2) z0e))) [some (dS p),o,some (.int k)] μ=some (((ext k.toNat p).map dS,none),μ):=by
   simp [e1,lsC]
  rw [List.map_cons]
  simp only [z4b,h0,bs]
  show (z2c _ _).bind _=_
  simp only [z2c,bs,if_true,hv,z3g]
  rw [e3]
  simp only [bs,z3g]
  rw [e4]
  simp
theorem zbh (n m:Nat):Sx (n+1) m=(Sx n m).flatMap (ext m):=rfl
theorem zq9 {μ:M} {n:Nat} {k:Int} {C:Addr} (hn:n≤7):z1u z0f (.int 7) C [.int (n:Int),.int k] μ=some (.ok (.lst ((Sx n k.toNat).map dS)),μ):=by
 have main:=z8h (c:=none) (g:=z00 3) (body:=(z0z (z9z ["sort", "longer"] [("most",1)] (ivL (z01 2)) (z00 0) z2c (ivL (vL z0f (z04 (z01 0) (z04 (z01 2) z0e)))) (z00 1) z2c (z01 1)) (z00 2)))
  (fun i Γ μ'=>∃ (o:Option D),Γ=[some (.int (n:Int)),some (.int k),some (.lst ((Sx i k.toNat).map dS)),o]∧μ'=μ)
  (z2z 0 n) 0 [some (.int (n:Int)),some (.int k),some (.lst [.lst []]),none] μ ⟨none,rfl,rfl⟩ ?_
 ·obtain ⟨Γ',μ',e,o,rfl,rfl⟩:=main
  rw [zex,Nat.zero_add] at e
  refine zan (Γ1:=[some (.int (n:Int)),some (.int k),some (.lst ((Sx n k.toNat).map dS)),o]) rfl ?_
  unfold z4u
  show z6k _ _ [some (.int (n:Int)),some (.int k),none,none] μ'=_
  have t:(bOr (vT (v2 fLt (z01 0) (vC (.int 0)))) (vT (v2 fGt (z01 0) (vC (.int 7))))) [some (.int (n:Int)),some (.int k),none,none] μ'=some (false,μ'):=by
   have a1:¬ ((n:Int)<0):=by omega
   have a2:¬ ((7:Int)<n):=by omega
   simp [fLt,fGt,fI0,a1,a2]
  rw [z7w (Γ1:=[some (.int (n:Int)),some (.int k),none,none]) (μ1:=μ') ((zk7 (zma t)).trans (zdc (o:=.nx) rfl))]
  refine zdc (o:=.rt _) ?_
  have s1:z0z (vL z2m (z04 (vL z2m z0e) z0e)) (z00 2) [some (.int (n:Int)),some (.int k),none,none] μ'=some (.nx,[some (.int (n:Int)),some (.int k),some (.lst [.lst []]),none],μ'):=rfl
  have hr:ivR (z01 0) [some (.int (n:Int)),some (.int k),some (.lst [.lst []]),none] μ'=some ((z2z 0 n,none),μ'):=by
   have hb:(-1000000000:Int)≤(n:Int)∧(n:Int)≤1000000000:=by omega
   simp [hb]
  rw [z0t,s1,z1j,z0t,z2y,hr,z4n,e]
  rfl
 ·rintro j d Γ μ1 hd ⟨o,rfl,rfl⟩
  obtain ⟨hjn,rfl⟩:=zey hd
  rw [Nat.zero_add]
  have e:=zfs (n:=j) (k:=k) (μ:=μ1) (by omega) (Sx j k.toNat) none none (fun p hp=>z5z _ j p hp)
  rw [← zbh] at e
  have hl:((Sx (j+1) k.toNat).map dS).length≤1000000:=by
   have:=zd2 (n:=j+1) (by omega) k.toNat
   simp;omega
  refine ⟨[some (.int (n:Int)),some (.int k),some (.lst ((Sx j k.toNat).map dS)),some (.int (j:Int))],μ1,[some (.int (n:Int)),some (.int k),some (.lst ((Sx (j+1) k.toNat).map dS)),some (.int (j:Int))],μ1,rfl,?_,trivial,some (.int (j:Int)),rfl,rfl⟩
  have hv:ivL (z01 2) [some (.int (n:Int)),some (.int k),some (.lst ((Sx j k.toNat).map dS)),some (.int (j:Int))] μ1=some (((Sx j k.toNat).map dS,none),μ1):=rfl
  have hc:z50 (["sort", "longer"]:List Str) [("most",1)] [some (.int (n:Int)),some (.int k),some (.lst ((Sx j k.toNat).map dS)),some (.int (j:Int))]=[none,none,some (.int k)]:=rfl
  rw [z6m,zhy,hv,znk,hc,e,zr9,if_pos hl]
  rfl
section
variable {C CF CT:Addr} {n:Nat} {d:D} {as:List An} {μ:M}
noncomputable abbrev zgn (C CF CT:Addr):FX:=z26 z4m (zdy C CF) (z1u z0f (.int 7) CT)
theorem zfx {n m:Nat} {s:List Int} (h:s∈(Sx n m).map (·.1)):s.length=n:=by
 obtain ⟨p,hp,rfl⟩:=List.mem_map.mp h
 exact (z5z m n p hp).len
theorem zga (hl:Ls μ d (as.map dA)) (hv:Ok2 n as) (hs:as.length≤1000) (hn:n≤7) (hc:zl0 as=true):∃ μ',zgn C CF CT [.int (n:Int),d] μ=some (.ok (.lst ((z5l n as).map dI)),μ')∧Gr μ μ':=by
 obtain ⟨μ1,e,g⟩:=zbs (C:=C) (CF:=CF) hl hv hs hc
 refine ⟨μ1,?_,g⟩
 refine zan (Γ1:=[some (.int (n:Int)),some d]) rfl ?_
 unfold z27
 show z6k _ _ [some (.int (n:Int)),some d] μ=_
 rw [z7w (Γ1:=[some (.int (n:Int)),some d]) (μ1:=μ1) (zko (d:=.non) (by rw [zg5 (ds:=[.int (n:Int),d]) (μ1:=μ) (zi1 rfl)];exact e))]
 refine zop ?_
 have ea:vLX (z1u z0f (.int 7) CT) (upL (z04 (z01 0) (z04 (z01 0) z0e))) [some (.int (n:Int)),some d] μ1=some (.ok (.lst (((Sx n n).map (·.1)).map dI)),μ1):=by
  rw [zg5 (ds:=[.int (n:Int),.int (n:Int)]) (μ1:=μ1) (zi1 rfl),zq9 hn]
  simp [dS,Function.comp_def]
 have hlen:((Sx n n).map (·.1)).length≤1000000:=by have:=zd2 hn n;simp;omega
 have ec:z1m none (z00 0) (z5k (vL z4m (z04 (z01 0) (z04 (z01 1) z0e)))) (z01 0) (((Sx n n).map (·.1)).map dI) [none,some d] μ1=some ((((Sx n n).map (·.1)).filter fun s=>zcg s as).map dI,μ1):=by
  refine z29 (c:=none) (fun Γ=>∃ o,Γ=[o,some d]) trivial _ _ ⟨none,rfl⟩ ?_
  rintro s hs Γ ⟨o,rfl⟩
  have hf:=zmq (s:=s) (hl.gr g) (by rw [zfx hs];exact hv.inN)
  exact ⟨[some (dI s),some d],rfl,by simp [hf],fun _=>rfl,_,rfl⟩
 unfold z7r
 rw [ea]
 show (if (((Sx n n).map (·.1)).map dI).length≤1000000 then _ else _)=_
 rw [if_pos (by simpa using hlen)]
 have hcap:z50 (["sort"]:List Str) [("answers",1)] [some (.int (n:Int)),some d]=[none,some d]:=rfl
 show (z1m none (z00 0) (z5k (vL z4m (z04 (z01 0) (z04 (z01 1) z0e)))) (z01 0) (((Sx n n).map (·.1)).map dI) (z50 ["sort"] [("answers",1)] [some (.int (n:Int)),some d]) μ1).bind _=_
 rw [hcap,ec]
 rfl
end
noncomputable abbrev Gp:=Int×Nat×List Int
structure Gs (μ:M) (lo:Nat) (b:Nat) (gs:List Gp):Prop where
 dic:μ[b]?=some (some (.dK (gs.map fun g=>(Sum.inl g.1,D.ref g.2.1))))
 at_:∀ g∈gs,μ[g.2.1]?=some (some (.lst (g.2.2.map D.int)))
 key:(gs.map (·.1)).Nodup
 lo1:lo≤b
 lo2:∀ g∈gs,lo≤g.2.1
 nd:(gs.map (·.2.1)).Nodup
 len:∀ g∈gs,g.2.2.length≤1000
noncomputable def z22 (gs:List Gp):List (Int×List Int):=gs.map fun g=>(g.1,g.2.2)
theorem zkc (gs:List Gp) (k:Int):zbm (gs.map fun g=>((Sum.inl g.1:Key),D.ref g.2.1)) (Sum.inl k)=(gs.find? fun g=>decide (g.1=k)).map fun g=>D.ref g.2.1:=by
 unfold zbm
 induction gs with
 | nil=>rfl
 | cons p r ih =>
  rw [List.map_cons,List.find?_cons,List.find?_cons]
  by_cases z:p.1=k
  ·simp [z]
  ·have z':¬ ((Sum.inl p.1:Key)=Sum.inl k):=fun e=>z (by injection e)
   simp only [z,z',decide_false]
   exact ih
theorem za3 {gs:List Gp} {k t:Int} {g:Gp} (hk:(gs.map (·.1)).Nodup) (hf:gs.find? (fun g=>decide (g.1=k))=some g) :
  zbi (z22 gs) k t=z22 (gs.map fun x=>if x.1=k then (x.1,x.2.1,x.2.2++[t]) else x):=by
 have hm:=List.mem_of_find?_eq_some hf
 have he:g.1=k:=by simpa using List.find?_some hf
 unfold zbi
 rw [if_pos (by
  rw [List.any_eq_true]
  exact ⟨(g.1,g.2.2),List.mem_map.mpr ⟨g,hm,rfl⟩,by simpa using he⟩)]
 unfold z22
 rw [List.map_map,List.map_map]
 apply List.map_congr_left
 intro x _
 simp only [Function.comp]
 split <;> rfl
theorem zf3 {gs:List Gp} {k t:Int} {r:Nat} (hf:gs.find? (fun g=>decide (g.1=k))=none):zbi (z22 gs) k t=z22 (gs++[(k,r,[t])]):=by
 unfold zbi
 rw [if_neg]
 ·simp [z22]
 ·intro hc
  obtain ⟨x,hx,e⟩:=List.any_eq_true.mp hc
  obtain ⟨g,hg,rfl⟩:=List.mem_map.mp hx
  rw [List.find?_eq_none] at hf
  exact hf g hg e
noncomputable abbrev zo4:SV:=(z2j (v2l z6v (z24 (z01 1) (z01 3) (vL z8j z0e)) (z01 2)))
theorem ziw {d:D} {b lo:Nat} {gs:List Gp} {μ:M} {t k:Int} (h:Gs μ lo b gs) (hlo:lo≤μ.length) (hl:gs.length<1000) (hlt:∀ g∈gs,g.2.2.length<1000) :
  ∃ gs' μ',zo4 [some d,some (.ref b),some (.int t),some (.int k)] μ=some (.nx,[some d,some (.ref b),some (.int t),some (.int k)],μ')∧Gs μ' lo b gs'∧z22 gs'=zbi (z22 gs) k t∧(∀ j,j<lo→μ'[j]?=μ[j]?)∧μ.length≤μ'.length:=by
 have hb:b<μ.length:=(List.getElem?_eq_some_iff.mp h.dic).1
 have hv1:z01 1 [some d,some (.ref b),some (.int t),some (.int k)] μ=some (.ref b,μ):=rfl
 have hd:z9y μ (.ref b)=some (gs.map fun g=>(Sum.inl g.1,D.ref g.2.1)):=by simp only [z9y,h.dic]
 have g1:Gr μ (μ++[some (O.lst [])]):=z32
 have hd2:z9y (μ++[some (O.lst [])]) (.ref b)=some (gs.map fun g=>(Sum.inl g.1,D.ref g.2.1)):=by simp only [z9y,g1.get h.dic]
 have hv3:z01 3 [some d,some (.ref b),some (.int t),some (.int k)] μ=some (.int k,μ):=rfl
 have hnw:vL z8j z0e [some d,some (.ref b),some (.int t),some (.int k)] μ=some (.ref μ.length,μ++[some (.lst [])]):=rfl
 have hlen:(gs.map fun g=>((Sum.inl g.1:Key),D.ref g.2.1)).length<1000000:=by simp;omega
 cases hf:gs.find? (fun g=>decide (g.1=k)) with
 | some g =>
  have hm:=List.mem_of_find?_eq_some hf
  have he:g.1=k:=by simpa using List.find?_some hf
  have hs:z24 (z01 1) (z01 3) (vL z8j z0e) [some d,some (.ref b),some (.int t),some (.int k)] μ=some (.ref g.2.1,μ++[some (.lst [])]):=by
   unfold z24
   rw [hv1,bs]
   simp only [hd,bs,hv3,hnw,zlu,hd2,if_pos hlen,zkc,hf]
   rfl
  have ha:=g1.get (h.at_ g hm)
  generalize hμ1:μ++[some (O.lst [])]=μ1 at hs g1 ha
  have hlen1:μ1.length=μ.length+1:=by rw [← hμ1];simp
  have hap:z6v (.ref g.2.1) (.int t) μ1=some (.non,μ1.set g.2.1 (some (.lst (g.2.2.map D.int++[.int t])))):=by
   have:=hlt g hm
   simp only [z6v,z4k ha,if_pos (show (g.2.2.map D.int).length<1000000 by simp;omega),zr8]
  refine ⟨gs.map fun x=>if x.1=k then (x.1,x.2.1,x.2.2++[t]) else x,μ1.set g.2.1 (some (.lst (g.2.2.map D.int++[.int t]))),?_,?_,(za3 h.key hf).symm,fun j hj=>?_,by rw [List.length_set,hlen1];omega⟩
  ·unfold zo4
   rw [z38]
   unfold v2l
   rw [hs,bs]
   show kEx _ ((z3s μ1 (.ref g.2.1)).bind _)=_
   rw [z20 ha,bs]
   show kEx _ (z6v (.ref g.2.1) (.int t) μ1)=_
   rw [hap]
   rfl
  ·have hkeys:(gs.map fun x=>if x.1=k then (x.1,x.2.1,x.2.2++[t]) else x).map (fun g=>((Sum.inl g.1:Key),D.ref g.2.1))=gs.map fun g=>(Sum.inl g.1,D.ref g.2.1):=by
    rw [List.map_map]
    apply List.map_congr_left
    intro x _
    simp only [Function.comp]
    split <;> rfl
   have hk1:(gs.map fun x=>if x.1=k then (x.1,x.2.1,x.2.2++[t]) else x).map (·.1)=gs.map (·.1):=by
    rw [List.map_map]
    apply List.map_congr_left
    intro x _
    simp only [Function.comp]
    split <;> rfl
   have hk2:(gs.map fun x=>if x.1=k then (x.1,x.2.1,x.2.2++[t]) else x).map (·.2.1)=gs.map (·.2.1):=by
    rw [List.map_map]
    apply List.map_congr_left
    intro x _
    simp only [Function.comp]
    split <;> rfl
   have hbg:b≠g.2.1:=fun z=>by
    have h1:=h.dic
    rw [z,h.at_ g hm] at h1
    cases h1
   refine ⟨?_,fun x hx=>?_,by rw [hk1];exact h.key,h.lo1,fun x hx=>?_,by rw [hk2];exact h.nd,fun x hx=>?_⟩
   ·rw [hkeys,z0v hbg];exact g1.get h.dic
   ·obtain ⟨y,hy,rfl⟩:=List.mem_map.mp hx
    by_cases hyk:y.1=k
    ·have:y=g:=by
      have hn:=h.key
      obtain ⟨i,hi⟩:=List.getElem?_of_mem hy
      obtain ⟨j,hj⟩:=List.getElem?_of_mem hm
      have e1:(gs.map (·.1))[i]?=some k:=by rw [List.getElem?_map,hi];simp [hyk]
      have e2:(gs.map (·.1))[j]?=some k:=by rw [List.getElem?_map,hj];simp [he]
      obtain ⟨l1,q1⟩:=List.getElem?_eq_some_iff.mp e1
      obtain ⟨l2,q2⟩:=List.getElem?_eq_some_iff.mp e2
      have hp:=List.pairwise_iff_getElem.mp hn
      rcases Nat.lt_trichotomy i j with z | z | z
      ·exact absurd (q1.trans q2.symm) (hp i j l1 l2 z)
      ·subst z;rw [hi] at hj;cases hj;rfl
      ·exact absurd (q2.trans q1.symm) (hp j i l2 l1 z)
     subst this
     rw [if_pos hyk]
     show (μ1.set y.2.1 _)[y.2.1]?=_
     rw [z25 ha]
     simp
    ·rw [if_neg hyk]
     have hne:y.2.1≠g.2.1:=fun z=>by
      have hn:=h.nd
      obtain ⟨i,hi⟩:=List.getElem?_of_mem hy
      obtain ⟨j,hj⟩:=List.getElem?_of_mem hm
      have e1:(gs.map (·.2.1))[i]?=some g.2.1:=by rw [List.getElem?_map,hi];simp [z]
      have e2:(gs.map (·.2.1))[j]?=some g.2.1:=by rw [List.getElem?_map,hj];simp
      obtain ⟨l1,q1⟩:=List.getElem?_eq_some_iff.mp e1
      obtain ⟨l2,q2⟩:=List.getElem?_eq_some_iff.mp e2
      have hp:=List.pairwise_iff_getElem.mp hn
      rcases Nat.lt_trichotomy i j with w | w | w
      ·exact absurd (q1.trans q2.symm) (hp i j l1 l2 w)
      ·subst w;rw [hi] at hj;cases hj;exact hyk he
      ·exact absurd (q2.trans q1.symm) (hp j i l2 l1 w)
     rw [z0v hne]
     exact g1.get (h.at_ y hy)
   ·obtain ⟨y,hy,rfl⟩:=List.mem_map.mp hx
    split
    ·exact h.lo2 y hy
    ·exact h.lo2 y hy
   ·obtain ⟨y,hy,rfl⟩:=List.mem_map.mp hx
    have:=hlt y hy
    split
    ·simp;omega
    ·omega
  ·rw [z0v (by have:=h.lo2 g hm;omega)]
   exact g1.at_ j (by omega)
 | none =>
  have hs:z24 (z01 1) (z01 3) (vL z8j z0e) [some d,some (.ref b),some (.int t),some (.int k)] μ=some (.ref μ.length,(μ++[some (O.lst [])]).set b (some (O.dK (zdm (gs.map fun g=>((Sum.inl g.1:Key),D.ref g.2.1)) (Sum.inl k) (.ref μ.length))))):=by
   unfold z24
   rw [hv1,bs]
   simp only [hd,bs,hv3,hnw,zlu,hd2,if_pos hlen,zkc,hf]
   rfl
  have hput:zdm (gs.map fun g=>((Sum.inl g.1:Key),D.ref g.2.1)) (Sum.inl k) (.ref μ.length)=(gs++[(k,μ.length,[t])]).map fun g=>(Sum.inl g.1,D.ref g.2.1):=by
   rw [zf2 _ (by rw [zkc,hf];rfl)]
   simp
  rw [hput] at hs
  have ha:((μ++[some (O.lst [])]).set b (some (.dK ((gs++[(k,μ.length,[t])]).map fun g=>(Sum.inl g.1,D.ref g.2.1)))))[μ.length]?=some (some (.lst [])):=by
   rw [z0v (by omega)];simp
  have hbk:((μ++[some (O.lst [])]).set b (some (.dK ((gs++[(k,μ.length,[t])]).map fun g=>(Sum.inl g.1,D.ref g.2.1)))))[b]?=some (some (.dK ((gs++[(k,μ.length,[t])]).map fun g=>(Sum.inl g.1,D.ref g.2.1)))):=z25 (g1.get h.dic)
  have hold:∀ j,j<μ.length→j≠b→((μ++[some (O.lst [])]).set b (some (.dK ((gs++[(k,μ.length,[t])]).map fun g=>(Sum.inl g.1,D.ref g.2.1)))))[j]?=μ[j]?:=fun j hj hne=>by
   rw [z0v hne];exact g1.at_ j hj
  have hlen1:((μ++[some (O.lst [])]).set b (some (.dK ((gs++[(k,μ.length,[t])]).map fun g=>(Sum.inl g.1,D.ref g.2.1))))).length=μ.length+1:=by simp
  generalize hμ1:(μ++[some (O.lst [])]).set b (some (.dK ((gs++[(k,μ.length,[t])]).map fun g=>(Sum.inl g.1,D.ref g.2.1))))=μ1 at hs ha hbk hold hlen1
  have hap:z6v (.ref μ.length) (.int t) μ1=some (.non,μ1.set μ.length (some (.lst [.int t]))):=by
   simp only [z6v,z4k ha,if_pos (show ([]:List D).length<1000000 by decide),zr8]
   rfl
  refine ⟨gs++[(k,μ.length,[t])],μ1.set μ.length (some (.lst [.int t])),?_,?_,(zf3 hf).symm,fun j hj=>?_,by rw [List.length_set,hlen1];omega⟩
  ·unfold zo4
   rw [z38]
   unfold v2l
   rw [hs,bs]
   show kEx _ ((z3s μ1 (.ref μ.length)).bind _)=_
   rw [z20 ha,bs]
   show kEx _ (z6v (.ref μ.length) (.int t) μ1)=_
   rw [hap]
   rfl
  ·have hgl:∀ g∈gs,g.2.1<μ.length:=fun g hg=>(List.getElem?_eq_some_iff.mp (h.at_ g hg)).1
   refine ⟨by rw [z0v (by omega)];exact hbk,fun x hx=>?_,?_,h.lo1,fun x hx=>?_,?_,fun x hx=>?_⟩
   ·rcases List.mem_append.mp hx with hx | hx
    ·have hl1:=hgl x hx
     have hxb:x.2.1≠b:=fun z=>by
      have h1:=h.dic
      rw [← z,h.at_ x hx] at h1
      cases h1
     rw [z0v (by omega),hold _ hl1 hxb]
     exact h.at_ x hx
    ·have:x=(k,μ.length,[t]):=by simpa using hx
     subst this
     exact z25 ha
   ·rw [List.map_append,List.nodup_append]
    refine ⟨h.key,by simp,fun a ha1 c hc e=>?_⟩
    have:c=k:=by simpa using hc
    subst this e
    obtain ⟨g,hg,rfl⟩:=List.mem_map.mp ha1
    rw [List.find?_eq_none] at hf
    exact hf g hg (by simp)
   ·rcases List.mem_append.mp hx with hx | hx
    ·exact h.lo2 x hx
    ·have:x=(k,μ.length,[t]):=by simpa using hx
     subst this
     exact hlo
   ·rw [List.map_append,List.nodup_append]
    refine ⟨h.nd,by simp,fun a ha1 c hc e=>?_⟩
    have:c=μ.length:=by simpa using hc
    subst this e
    obtain ⟨g,hg,e⟩:=List.mem_map.mp ha1
    have:=hgl g hg
    omega
   ·rcases List.mem_append.mp hx with hx | hx
    ·exact h.len x hx
    ·have:x=(k,μ.length,[t]):=by simpa using hx
     subst this
     simp
  ·have hb2:=h.lo1
   rw [z0v (by omega)]
   exact hold j (by omega) (by omega)
theorem z4o:∀ (l:List Int) (i:Nat) (k:Int) (gs:List (Int×List Int)),z43 i (l++[k]) gs=zbi (z43 i l gs) k ((i+l.length:Nat):Int)
 | [],i,k,gs=>by simp [z43]
 | x::l,i,k,gs=>by
  rw [List.cons_append,z43,z43,z4o l (i+1) k]
  congr 2
  simp;omega
theorem zf5 (gs:List (Int×List Int)) (k t:Int):(zbi gs k t).length≤gs.length+1:=by
 unfold zbi;split <;> simp
theorem zf4 {gs:List (Int×List Int)} {k t:Int} {m:Nat} (h:∀ g∈gs,g.2.length≤m):∀ g∈zbi gs k t,g.2.length≤m+1:=by
 intro g hg
 unfold zbi at hg
 split at hg
 ·obtain ⟨x,hx,rfl⟩:=List.mem_map.mp hg
  have:=h x hx
  split
  ·simp;omega
  ·omega
 ·rcases List.mem_append.mp hg with hg | hg
  ·have:=h g hg;omega
  ·have:g=(k,[t]):=by simpa using hg
   subst this;simp
theorem ziv {s:List Int} {μ:M} (hs:s.length≤500):∃ b gs μ',z0x [dI s] μ=some (.lst (gs.map fun g:Gp=>D.ref g.2.1),μ')∧Gs μ' μ.length b gs∧z22 gs=grp s∧Gr μ μ':=by
 have main:=z8h (c:=none) (g:=(z21 2 (z0a (z00 2) (z0a (z00 3) z23)))) (body:=zo4)
  (fun i Γ μ'=>∃ (gs:List Gp) (o2 o3:Option D),Γ=[some (dI s),some (.ref μ.length),o2,o3]∧Gs μ' μ.length μ.length gs∧z22 gs=grp (s.take i)∧gs.length≤i∧(∀ g∈gs,g.2.2.length≤i)∧Gr μ μ')
  ((List.range s.length).map fun i:Nat=>D.tup [.int (i:Int),.int (s.getD i 0)]) 0 [some (dI s),some (.ref μ.length),none,none] (μ++[some (.dK [])])
  ⟨[],none,none,rfl,⟨by simp,fun g h=>by simp at h,by simp,Nat.le_refl _,fun g h=>by simp at h,by simp,fun g h=>by simp at h⟩,rfl,Nat.le_refl _,fun g h=>by simp at h,z32⟩ ?_
 ·obtain ⟨Γ',μ',e,gs,o2,o3,rfl,G1,hst,_,_,gr⟩:=main
  rw [Nat.zero_add,List.length_map,List.length_range,List.take_length] at hst
  refine ⟨μ.length,gs,μ',?_,G1,hst,gr⟩
  unfold z0x z36
  rw [z1x,if_pos (show [dI s].length=1 from rfl)]
  show z9v (z0u _ _ [some (dI s),none,none,none] μ)=_
  have s1:z0z zhx (z00 1) [some (dI s),none,none,none] μ=some (.nx,[some (dI s),some (.ref μ.length),none,none],μ++[some (.dK [])]):=rfl
  have hi:zx1 (z01 0) [some (dI s),some (.ref μ.length),none,none] (μ++[some (.dK [])])=some (((List.range s.length).map fun i:Nat=>D.tup [.int (i:Int),.int (s.getD i 0)],none),μ++[some (.dK [])]):=by
   have he:zcn (s.map D.int)=(List.range s.length).map fun i:Nat=>D.tup [.int (i:Int),.int (s.getD i 0)]:=by
    apply List.ext_getElem?
    intro i
    by_cases hi:i<s.length
    ·simp [zcn,hi]
    ·simp [zcn]
     rw [List.getElem?_eq_none (by simpa using hi),List.getElem?_eq_none (by simpa using hi)]
     rfl
   show some ((zcn (s.map D.int),none),_)=_
   rw [he]
  rw [z0t,s1,z1j,z0t,z2y,hi,z4n,e,z1j,z6l]
  have hv:v1 zfn (z01 1) [some (dI s),some (.ref μ.length),o2,o3] μ'=some (.lst (gs.map fun g:Gp=>D.ref g.2.1),μ'):=by
   rw [e_1 (x:=.ref μ.length) (μ1:=μ') rfl]
   unfold zfn
   simp only [z9y,G1.dic,bs,List.map_map]
   rfl
  rw [hv]
  rfl
 ·rintro j x Γ μ1 hx ⟨gs,o2,o3,rfl,G1,hst,hl,hlt,gr⟩
  rw [Nat.zero_add] at hst hl hlt
  have hj:j<s.length:=by
   have:=(List.getElem?_eq_some_iff.mp hx).1
   simpa using this
  rw [List.getElem?_map,List.getElem?_range hj] at hx
  simp at hx
  subst hx
  obtain ⟨gs',μ2,e,G2,hst2,hold,hlen⟩:=ziw (d:=dI s) (t:=(j:Int)) (k:=s.getD j 0) G1 gr.len (by omega) (fun g hg=>by have:=hlt g hg;omega)
  have hsj:s[j]?=some (s.getD j 0):=by rw [List.getD_eq_getElem?_getD,List.getElem?_eq_getElem hj];rfl
  have hgrp:grp (s.take (j+1))=zbi (grp (s.take j)) (s.getD j 0) (j:Int):=by
   rw [List.take_succ,hsj]
   show z43 0 (s.take j++[s.getD j 0]) []=_
   rw [z4o]
   have:(s.take j).length=j:=by rw [List.length_take];omega
   rw [this,Nat.zero_add]
   rfl
  refine ⟨[some (dI s),some (.ref μ.length),some (.int (j:Int)),some (.int (s.getD j 0))],μ1,_,μ2,?_,e,trivial,gs',_,_,rfl,G2,?_,?_,?_,?_⟩
  ·simp
  ·rw [Nat.zero_add,hst2,hst,hgrp]
  ·have:gs'.length=(zbi (z22 gs) (s.getD j 0) (j:Int)).length:=by rw [← hst2];simp [z22]
   have h2:=zf5 (z22 gs) (s.getD j 0) (j:Int)
   have:(z22 gs).length=gs.length:=by simp [z22]
   omega
  ·intro g hg
   have hm:(g.1,g.2.2)∈zbi (z22 gs) (s.getD j 0) (j:Int):=by rw [← hst2];exact List.mem_map.mpr ⟨g,hg,rfl⟩
   have:=zf4 (m:=j) (fun x hx=>by
    obtain ⟨y,hy,rfl⟩:=List.mem_map.mp hx
    exact hlt y hy) _ hm
   have:g.2.2.length≤j+1:=this
   omega
  ·exact ⟨Nat.le_trans gr.len hlen,fun i hi=>(hold i hi).trans (gr.at_ i hi)⟩
noncomputable def z15 (s:List Int):List Int:=match (grp s).find? fun g=>decide ((s.length:Int)<2*(g.2.length:Int)) with
 | some g=>g.2
 | none=>[]
theorem znc:∀ n<8,∀ p∈Sx n n,z15 p.1=((List.range n).filter fun t:Nat=>decide ((t:Int)∈z15 p.1)).map fun t:Nat=>(t:Int):=by decide +kernel
theorem Ls.intsR {μ:M} {d:D} {ns:List Int} (h:Ls μ d (ns.map D.int)):Rds μ d (List Int) ns:=by
 rcases z14 h with ⟨k,rfl,hk⟩ | rfl | rfl
 ·exact ziy (by decide) hk
 ·exact zqb (α:=List Int) (by decide) ns
 ·unfold Rds
  rw [zj9]
  have:=z6z (α:=Int) (μ:=μ) (n:=64) (by decide) ns
  have e:ns.map D.int=ns.map Enc.d:=rfl
  rw [e,this]
  rfl
theorem zkr {μ:M} {x y:D} {ns ms:List Int} (h1:Ls μ x (ns.map D.int)) (h2:Ls μ y (ms.map D.int)):eqD x y μ=some (decide (ns=ms)):=by
 have hi:∀ {z:D} {ds:List D},Ls μ z ds→isInt z=false∧ze4 z=false:=fun h=>by
  rcases z14 h with ⟨k,rfl,_⟩ | rfl | rfl <;> exact ⟨rfl,rfl⟩
 rw [zea (α:=List Int) (by decide) h1.intsR h2.intsR (by simp [(hi h1).1]) (by simp [(hi h1).2])]
noncomputable abbrev zc9:SV:=(sIf (vT (v2 fGt (v2 z1n (vC (.int 2)) (v1 z2b (z01 1))) (v1 z2b (z01 0)))) (z2p (z01 1)) sNx)
theorem zc7 {s:List Int} {μ:M} (hs:s.length≤500):∀ (gs:List Gp) (o:Option D),(∀ g∈gs,μ[g.2.1]?=some (some (.lst (g.2.2.map D.int))))→(∀ g∈gs,g.2.2.length≤1000) →
  (∀ g,gs.find? (fun g=>decide ((s.length:Int)<2*(g.2.2.length:Int)))=some g→∃ Γ',z4d none (z00 1) zc9 (gs.map fun g:Gp=>D.ref g.2.1) [some (dI s),o] μ=some (.rt (.ref g.2.1),Γ',μ)) ∧
  (gs.find? (fun g=>decide ((s.length:Int)<2*(g.2.2.length:Int)))=none→∃ o',z4d none (z00 1) zc9 (gs.map fun g:Gp=>D.ref g.2.1) [some (dI s),o] μ=some (.nx,[some (dI s),o'],μ))
 | [],o,_,_=>⟨(fun g h=>by cases h),fun _=>⟨o,rfl⟩⟩
 | g::gs,o,h,hl=>by
  have h0:=h g (by simp)
  have hl0:=hl g (by simp)
  obtain ⟨i1,i2⟩:=zc7 (s:=s) hs gs (some (.ref g.2.1)) (fun x hx=>h x (by simp [hx])) (fun x hx=>hl x (by simp [hx]))
  have hg:z00 1 (.ref g.2.1) [some (dI s),o] μ=some ([some (dI s),some (.ref g.2.1)],μ):=rfl
  have t:vT (v2 fGt (v2 z1n (vC (.int 2)) (v1 z2b (z01 1))) (v1 z2b (z01 0))) [some (dI s),some (.ref g.2.1)] μ=some (decide ((s.length:Int)<2*(g.2.2.length:Int)),μ):=by
   have a1:v1 z2b (z01 1) [some (dI s),some (.ref g.2.1)] μ=some (.int (g.2.2.length:Int),μ):=by
    rw [e_1 (x:=.ref g.2.1) (μ1:=μ) rfl,z4w h0];simp
   have a2:v1 z2b (z01 0) [some (dI s),some (.ref g.2.1)] μ=some (.int (s.length:Int),μ):=by
    rw [e_1 (x:=dI s) (μ1:=μ) rfl];simp [dI,z2b,z3s]
   have a3:v2 z1n (vC (.int 2)) (v1 z2b (z01 1)) [some (dI s),some (.ref g.2.1)] μ=some (.int (2*(g.2.2.length:Int)),μ):=by
    rw [e_2 (x:=.int 2) (μ1:=μ) (y:=.int (g.2.2.length:Int)) (μ2:=μ) rfl a1]
    have hc:CMul 2 (g.2.2.length:Int):=.inl ⟨by decide,by decide⟩
    simp only [z1n,if_pos hc]
   rw [zbn,e_2 a3 a2]
   rfl
  rw [List.find?_cons]
  cases hb:decide ((s.length:Int)<2*(g.2.2.length:Int)) with
  | true =>
   rw [hb] at t
   have hbd:zc9 [some (dI s),some (.ref g.2.1)] μ=some (.rt (.ref g.2.1),[some (dI s),some (.ref g.2.1)],μ):=by
    unfold zc9;rw [z37,t];rfl
   refine ⟨fun g' h=>?_,fun h=>by cases h⟩
   cases h
   refine ⟨[some (dI s),some (.ref g.2.1)],?_⟩
   rw [List.map_cons]
   simp only [z4d,hg,bs,hbd]
  | false =>
   rw [hb] at t
   have hbd:zc9 [some (dI s),some (.ref g.2.1)] μ=some (.nx,[some (dI s),some (.ref g.2.1)],μ):=by
    unfold zc9;rw [z37,t];rfl
   have step:z4d none (z00 1) zc9 ((g::gs).map fun g:Gp=>D.ref g.2.1) [some (dI s),o] μ=z4d none (z00 1) zc9 (gs.map fun g:Gp=>D.ref g.2.1) [some (dI s),some (.ref g.2.1)] μ:=by
    rw [List.map_cons]
    simp only [z4d,hg,bs,hbd,z3g]
   rw [step]
   exact ⟨i1,i2⟩
theorem za6 {s:List Int} {gs:List Gp} (hst:z22 gs=grp s):z15 s=match gs.find? (fun g=>decide ((s.length:Int)<2*(g.2.2.length:Int))) with
  | some g=>g.2.2
  | none=>[]:=by
 unfold z15
 rw [← hst]
 unfold z22
 rw [List.find?_map]
 simp only [Function.comp_def]
 cases gs.find? fun g=>decide ((s.length:Int)<2*(g.2.2.length:Int)) <;> rfl
noncomputable abbrev z89:List D→M→Option (D×M):=z17 z0x
theorem zmp {s:List Int} {μ:M} (hs:s.length≤500):∃ d μ',z89 [dI s] μ=some (d,μ')∧Ls μ' d ((z15 s).map D.int)∧Gr μ μ':=by
 obtain ⟨b,gs,μ1,e,G1,hst,gr⟩:=ziv (μ:=μ) hs
 obtain ⟨l1,l2⟩:=zc7 (s:=s) (μ:=μ1) hs gs none G1.at_ G1.len
 have hi:ivL (vL z0x (z04 (z01 0) z0e)) [some (dI s),none] μ=some ((gs.map fun g:Gp=>D.ref g.2.1,none),μ1):=by
  have:vL z0x (z04 (z01 0) z0e) [some (dI s),none] μ=some (.lst (gs.map fun g:Gp=>D.ref g.2.1),μ1):=e
  unfold ivL
  rw [this]
  rfl
 have hm:=za6 hst
 cases hf:gs.find? (fun g=>decide ((s.length:Int)<2*(g.2.2.length:Int))) with
 | some g =>
  rw [hf] at hm
  obtain ⟨Γ',e2⟩:=l1 g hf
  refine ⟨.ref g.2.1,μ1,?_,?_,gr⟩
  ·unfold z89 z17 z1l
   rw [z1x,if_pos (show [dI s].length=1 from rfl)]
   show z9v (z0u _ _ [some (dI s),none] μ)=_
   rw [z0t,z2y,hi,z4n,e2]
   rfl
  ·rw [hm]
   exact .ref (G1.at_ g (List.mem_of_find?_eq_some hf))
 | none =>
  rw [hf] at hm
  obtain ⟨o',e2⟩:=l2 hf
  refine ⟨.lst [],μ1,?_,by rw [hm];exact .lst,gr⟩
  unfold z89 z17 z1l
  rw [z1x,if_pos (show [dI s].length=1 from rfl)]
  show z9v (z0u _ _ [some (dI s),none] μ)=_
  rw [z0t,z2y,hi,z4n,e2]
  rfl
noncomputable def dE (x:Option Int):D:=match x with
 | some t=>.tup [.str "one",.int t]
 | none=>.tup [.str "none"]
noncomputable def hE (s:List Int):List (Option Int):=if z15 s=[] then [none] else (z15 s).map some
noncomputable abbrev z6b:List D→M→Option (D×M):=z3d z89
theorem zmr {s:List Int} {μ:M} (hs:s.length≤500) (hl:(z15 s).length≤1000):∃ μ',z6b [dI s] μ=some (.lst ((hE s).map dE),μ')∧Gr μ μ':=by
 obtain ⟨d,μ1,e,hL,g⟩:=zmp (μ:=μ) hs
 refine ⟨μ1,?_,g⟩
 have s1:z0z (vL z89 (z04 (z01 0) z0e)) (z00 1) [some (dI s),none] μ=some (.nx,[some (dI s),some d],μ1):=by
  have:vL z89 (z04 (z01 0) z0e) [some (dI s),none] μ=some (d,μ1):=e
  rw [z6m,this]
  rfl
 have t:z5k (z01 1) [some (dI s),some d] μ1=some (!decide (z15 s=[]),μ1):=by
  rw [zl8]
  show zut (some (d,μ1))=_
  rcases z14 hL with ⟨k,rfl,hk⟩ | rfl | rfl
  ·simp only [zut]
   cases hm:z15 s with
   | nil=>rw [hm] at hk;simp [tru,hk,kTr]
   | cons a r=>rw [hm] at hk;simp [tru,hk,kTr]
  ·cases hm:z15 s with
   | nil=>rfl
   | cons a r=>rfl
  ·cases hm:z15 s with
   | nil=>rfl
   | cons a r=>rfl
 obtain ⟨c,hi,hck,_⟩:=hL.iv (Γ:=[some (dI s),some d]) (i:=1) rfl
 have c2:z10 ["thing"] [] (ivL (z01 1)) (z00 0) z2c (vL zac (z04 (vC (.str "one")) (z04 (z01 0) z0e))) [some (dI s),some d] μ1=some (.lst ((z15 s).map fun t=>dE (some t)),μ1) :=
  z8u (l:=z15 s) (dn:=D.int) (c:=c) (z1w:=[]) hi (by omega) hck rfl fun t _=>rfl
 unfold z6b z3d z4t
 rw [z1x,if_pos (show [dI s].length=1 from rfl)]
 show z9v (z0u _ _ [some (dI s),none] μ)=_
 rw [z0t,s1,z1j,z6l]
 unfold hE
 by_cases h0:z15 s=[]
 ·rw [if_pos h0]
  rw [decide_eq_true h0] at t
  have:vIf (z5k (z01 1)) (z10 ["thing"] [] (ivL (z01 1)) (z00 0) z2c (vL zac (z04 (vC (.str "one")) (z04 (z01 0) z0e)))) (vL z2m (z04 (vL zac (z04 (vC (.str "none")) z0e)) z0e)) [some (dI s),some d] μ1=some (.lst ([none].map dE),μ1):=by
   rw [zog,t]
   rfl
  rw [this]
  rfl
 ·rw [if_neg h0]
  rw [decide_eq_false h0] at t
  have:vIf (z5k (z01 1)) (z10 ["thing"] [] (ivL (z01 1)) (z00 0) z2c (vL zac (z04 (vC (.str "one")) (z04 (z01 0) z0e)))) (vL z2m (z04 (vL zac (z04 (vC (.str "none")) z0e)) z0e)) [some (dI s),some d] μ1=some (.lst (((z15 s).map some).map dE),μ1):=by
   rw [zog,t]
   show z10 _ _ _ _ _ _ _ μ1=_
   rw [c2,List.map_map]
   rfl
  rw [this]
  rfl
theorem so1:PyData.strOk "one" = true:=by decide +kernel
theorem so2:PyData.strOk "none" = true:=by decide +kernel
noncomputable def pE (x:Option Int):PyData:=match x with
 | some t=>.tuple [.str "one",.int t]
 | none=>.tuple [.str "none"]
theorem zxu {μ:M} (x:Option Int):py 65 μ (dE x)=some (pE x):=by cases x <;> rfl
theorem zuk (x:Option Int):(pE x).canLay0=true:=by cases x <;> simp [pE,PyData.canLay0,PyData.canLayAll0,so1,so2]
theorem zxe (x:Option Int):(pE x).depth≤60:=by cases x <;> simp [pE,PyData.depth,PyData.depthAll]
theorem zxa (x y:Option Int):PyData.eqv (pE x) (pE y)=decide (x=y):=by
 rw [Bool.eq_iff_iff]
 cases x <;> cases y <;> simp [pE,PyData.eqv,PyData.eqvAll]
theorem zff:∀ l:List (Option Int),PyData.canLayAll0 (l.map pE)=true
 | []=>rfl
 | x::l=>by simp [PyData.canLayAll0,zuk x,zff l]
theorem zrd {μ:M} (x:Option Int) (l:List (Option Int)):znu false (dE x) (.lst (l.map dE)) μ=some (.bl (decide (x∈l)),μ):=by
 have h1:z0s (py 65 μ) (l.map dE)=some (l.map pE):=z2u fun x _=>zxu x
 have h4:decide ((pE x).depth≤60)=true:=decide_eq_true (zxe x)
 have h5:(l.map pE).any (fun e=>PyData.eqv e (pE x))=decide (x∈l):=by
  rw [Bool.eq_iff_iff,List.any_map,List.any_eq_true]
  simp only [Function.comp,decide_eq_true_eq,zxa]
  constructor
  ·rintro ⟨y,hy,rfl⟩;exact hy
  ·intro h;exact ⟨x,h,rfl⟩
 unfold znu
 rw [if_neg (by simp)]
 simp only [z3s,bs,h1,zxu,zff,zuk,h4,Bool.and_self,if_true,h5]
noncomputable def zpi (ss:List (List Int)):Option (Option Int):=(hE (ss.getD 0 [])).find? fun t=>ss.all fun s=>decide (t∈hE s)
noncomputable def dEs (ss:List (List Int)):D:=.lst (ss.map fun s=>.lst ((hE s).map dE))
noncomputable abbrev zcw:SV:=(sIf (z5k (v1 zri (z10 ["others"] [("end",1)] (ivL (z01 0)) (z00 0) z2c (v2 (znu false) (z01 1) (z01 0)))))
    (z2p (z01 1))
    sNx)
theorem zfo {ss:List (List Int)} {μ:M} (hl:ss.length≤1000000):∀ (l:List (Option Int)) (o:Option D),
  (∀ t,l.find? (fun t=>ss.all fun s=>decide (t∈hE s))=some t→∃ Γ',z4d none (z00 1) zcw (l.map dE) [some (dEs ss),o] μ=some (.rt (dE t),Γ',μ)) ∧
  (l.find? (fun t=>ss.all fun s=>decide (t∈hE s))=none→∃ o',z4d none (z00 1) zcw (l.map dE) [some (dEs ss),o] μ=some (.nx,[some (dEs ss),o'],μ))
 | [],o=>⟨(fun t h=>by cases h),fun _=>⟨o,rfl⟩⟩
 | t::l,o=>by
  obtain ⟨i1,i2⟩:=zfo (ss:=ss) (μ:=μ) hl l (some (dE t))
  have hc:z10 ["others"] [("end",1)] (ivL (z01 0)) (z00 0) z2c (v2 (znu false) (z01 1) (z01 0)) [some (dEs ss),some (dE t)] μ=some (.lst (ss.map fun s=>D.bl (decide (t∈hE s))),μ) :=
   z8u (l:=ss) (dn:=fun s=>D.lst ((hE s).map dE)) (c:=none) (z1w:=[some (dE t)]) rfl hl trivial rfl fun s _=>by
    rw [e_2 (x:=dE t) (μ1:=μ) (y:=.lst ((hE s).map dE)) (μ2:=μ) rfl rfl]
    exact zrd t (hE s)
  have ht:z5k (v1 zri (z10 ["others"] [("end",1)] (ivL (z01 0)) (z00 0) z2c (v2 (znu false) (z01 1) (z01 0)))) [some (dEs ss),some (dE t)] μ=some (ss.all fun s=>decide (t∈hE s),μ):=by
   rw [zl8,e_1 hc]
   have:ss.map (fun s=>D.bl (decide (t∈hE s)))=(ss.map fun s=>decide (t∈hE s)).map D.bl:=by simp
   rw [this]
   simp only [zri,z3s,bs,zd1,List.all_map]
   rfl
  have hg:z00 1 (dE t) [some (dEs ss),o] μ=some ([some (dEs ss),some (dE t)],μ):=rfl
  rw [List.find?_cons]
  cases hb:ss.all fun s=>decide (t∈hE s) with
  | true =>
   rw [hb] at ht
   have hbd:zcw [some (dEs ss),some (dE t)] μ=some (.rt (dE t),[some (dEs ss),some (dE t)],μ):=by
    unfold zcw;rw [z37,ht];rfl
   refine ⟨fun t' h=>?_,fun h=>by cases h⟩
   cases h
   refine ⟨[some (dEs ss),some (dE t)],?_⟩
   rw [List.map_cons]
   simp only [z4d,hg,bs,hbd]
  | false =>
   rw [hb] at ht
   have hbd:zcw [some (dEs ss),some (dE t)] μ=some (.nx,[some (dEs ss),some (dE t)],μ):=by
    unfold zcw;rw [z37,ht];rfl
   have step:z4d none (z00 1) zcw ((t::l).map dE) [some (dEs ss),o] μ=z4d none (z00 1) zcw (l.map dE) [some (dEs ss),some (dE t)] μ:=by
    rw [List.map_cons]
    simp only [z4d,hg,bs,hbd,z3g]
   rw [step]
   exact ⟨i1,i2⟩
noncomputable def zkx:D:=.gt [.str "open"]
noncomputable def zvk (o:Option (Option Int)):D:=match o with
 | some t=>dE t
 | none=>zkx
theorem zgc {ss:List (List Int)} {μ:M} (hl:ss.length≤1000000) (h0:ss≠[]):z1c zkx [dEs ss] μ=some (zvk (zpi ss),μ):=by
 have hi:ivL (v2 fIx (z01 0) (vC (.int 0))) [some (dEs ss),none] μ=some (((hE (ss.getD 0 [])).map dE,none),μ):=by
  cases ss with
  | nil=>exact absurd rfl h0
  | cons s ss =>
   have h1:v2 fIx (z01 0) (vC (.int 0)) [some (dEs (s::ss)),none] μ=some (.lst ((hE s).map dE),μ):=by
    rw [e_2 (x:=dEs (s::ss)) (μ1:=μ) (y:=.int 0) (μ2:=μ) rfl rfl]
    simp only [fIx,dEs,z3s]
    rw [show (0:Int)=((0:Nat):Int) from rfl,z6e (j:=0) (v:=.lst ((hE s).map dE)) rfl]
    rfl
   unfold ivL
   rw [h1]
   rfl
 obtain ⟨l1,l2⟩:=zfo (ss:=ss) (μ:=μ) hl (hE (ss.getD 0 [])) none
 unfold z1c z46
 rw [z1x,if_pos (show [dEs ss].length=1 from rfl)]
 show z9v (z0u _ _ [some (dEs ss),none] μ)=_
 rw [z0t,z2y,hi,z4n]
 cases hc:zpi ss with
 | some t =>
  obtain ⟨Γ',e⟩:=l1 t hc
  rw [e]
  rfl
 | none =>
  obtain ⟨o',e⟩:=l2 hc
  rw [e]
  rfl
theorem zfd {n:Nat} (hn:n≤7) {s:List Int} (hs:s∈(Sx n n).map (·.1)):z15 s=((List.range n).filter fun t:Nat=>decide ((t:Int)∈z15 s)).map fun t:Nat=>(t:Int):=by
 obtain ⟨p,hp,rfl⟩:=List.mem_map.mp hs
 exact znc n (by omega) p hp
theorem znb {n:Nat} (hn:n≤7) {s:List Int} (hs:s∈(Sx n n).map (·.1)):(z15 s).length≤n:=by
 rw [zfd hn hs,List.length_map]
 have:=List.length_filter_le (fun t:Nat=>decide ((t:Int)∈z15 s)) (List.range n)
 simpa using this
section
variable {C CF CT:Addr} {n:Nat} {d:D} {as:List An} {μ:M}
noncomputable abbrev zdx (C CF CT:Addr):FX:=zax (z1c zkx) z6b (zgn C CF CT)
theorem zcp {n:Nat} (hn:n≤7):∀ (l:List (List Int)) (o:Option D) (μ:M),(∀ s∈l,s∈(Sx n n).map (·.1)) →
  ∃ μ',z1m none (z00 0) z2c (vL z6b (z04 (z01 0) z0e)) (l.map dI) [o] μ=some (l.map fun s=>.lst ((hE s).map dE),μ')∧Gr μ μ'
 | [],o,μ,_=>⟨μ,rfl,.refl⟩
 | s::l,o,μ,h=>by
  have hs:=h s (by simp)
  have h1:=zfx hs
  have h2:=znb hn hs
  obtain ⟨μ1,e1,g1⟩:=zmr (s:=s) (μ:=μ) (by omega) (by omega)
  obtain ⟨μ2,e2,g2⟩:=zcp hn l (some (dI s)) μ1 (fun x hx=>h x (by simp [hx]))
  refine ⟨μ2,?_,g1.trans g2⟩
  have hg:z00 0 (dI s) [o] μ=some ([some (dI s)],μ):=rfl
  have hv:vL z6b (z04 (z01 0) z0e) [some (dI s)] μ=some (.lst ((hE s).map dE),μ1):=e1
  rw [List.map_cons]
  simp only [z1m,hg,bs]
  show (z2c _ _).bind _=_
  simp only [z2c,bs,if_true,hv,z3g]
  rw [e2]
  rfl
theorem zb5 {s:List Int} (h:s∈z5l n as):s∈(Sx n n).map (·.1):=(List.mem_filter.mp h).1
theorem zfm (hn:n≤7):(z5l n as).length≤1000:=by
 have h1:=List.length_filter_le (fun s=>zcg s as) ((Sx n n).map (·.1))
 have:=zd2 hn n
 unfold z5l
 rw [List.length_map] at h1
 omega
theorem zij (hl:Ls μ d (as.map dA)) (hv:Ok2 n as) (hs:as.length≤1000) (hn:n≤7) (hf:z5l n as≠[]):∃ μ',zdx C CF CT [.int (n:Int),d] μ=some (.ok (zvk (zpi (z5l n as))),μ')∧Gr μ μ':=by
 have hc:zl0 as=true:=by
  cases h:zl0 as with
  | true=>rfl
  | false=>exact absurd ((znr hv.inN).mpr h) hf
 obtain ⟨μ1,e1,g1⟩:=zga (C:=C) (CF:=CF) (CT:=CT) hl hv hs hn hc
 obtain ⟨μ2,e2,g2⟩:=zcp hn (z5l n as) none μ1 (fun s h=>zb5 h)
 refine ⟨μ2,?_,g1.trans g2⟩
 have hlen:=zfm (as:=as) hn
 refine zan (Γ1:=[some (.int (n:Int)),some d]) rfl ?_
 unfold zb8
 show zg9 _ [some (.int (n:Int)),some d] μ=_
 have ec:z7r ["sort"] [] (vLX (zgn C CF CT) (upL (z04 (z01 0) (z04 (z01 1) z0e)))) (z00 0) z2c (vL z6b (z04 (z01 0) z0e)) [some (.int (n:Int)),some d] μ=some (.ok (dEs (z5l n as)),μ2):=by
  have ea:vLX (zgn C CF CT) (upL (z04 (z01 0) (z04 (z01 1) z0e))) [some (.int (n:Int)),some d] μ=some (.ok (.lst ((z5l n as).map dI)),μ1):=by
   rw [zg5 (ds:=[.int (n:Int),d]) (μ1:=μ) (zi1 rfl)];exact e1
  unfold z7r
  rw [ea]
  show (if ((z5l n as).map dI).length≤1000000 then _ else _)=_
  rw [if_pos (by simp;omega)]
  have hcap:z50 (["sort"]:List Str) [] [some (.int (n:Int)),some d]=[none]:=rfl
  show (z1m none (z00 0) z2c (vL z6b (z04 (z01 0) z0e)) ((z5l n as).map dI) (z50 ["sort"] [] [some (.int (n:Int)),some d]) μ1).bind _=_
  rw [hcap,e2]
  rfl
 have el:zfh (z7r ["sort"] [] (vLX (zgn C CF CT) (upL (z04 (z01 0) (z04 (z01 1) z0e)))) (z00 0) z2c (vL z6b (z04 (z01 0) z0e))) (upL z0e) [some (.int (n:Int)),some d] μ=some (.ok [dEs (z5l n as)],μ2):=by
  unfold zfh
  rw [ec]
  rfl
 refine zop ?_
 rw [zg5 el]
 show (upF (z1c zkx)) _ _=_
 have hco:=zgc (ss:=z5l n as) (μ:=μ2) (by omega) hf
 unfold upF
 rw [hco]
 rfl
end
theorem zfv {μ:M} {k:Nat} {ds:List D} {y:D} (h:μ[k]?=some (some (.lst ds))) (hl:ds.length<1000000):∃ μ',z6v (.ref k) y μ=some (.non,μ')∧μ'[k]?=some (some (.lst (ds++[y])))∧On k μ μ' :=
 ⟨_,by simp only [z6v,z4k h,if_pos hl,zr8],z25 h,zp4⟩
theorem zjl {α β:Type} {l:List α} {f:α→β} (h:(l.map f).Nodup) {x y:α} (hx:x∈l) (hy:y∈l) (e:f x=f y):x=y:=by
 obtain ⟨i,hi⟩:=List.getElem?_of_mem hx
 obtain ⟨j,hj⟩:=List.getElem?_of_mem hy
 have e1:(l.map f)[i]?=some (f x):=by rw [List.getElem?_map,hi];rfl
 have e2:(l.map f)[j]?=some (f y):=by rw [List.getElem?_map,hj];rfl
 obtain ⟨l1,q1⟩:=List.getElem?_eq_some_iff.mp e1
 obtain ⟨l2,q2⟩:=List.getElem?_eq_some_iff.mp e2
 have hp:=List.pairwise_iff_getElem.mp h
 rcases Nat.lt_trichotomy i j with z | z | z
 ·exact absurd (q1.trans (e.trans q2.symm)) (hp i j l1 l2 z)
 ·subst z;rw [hi] at hj;cases hj;rfl
 ·exact absurd (q2.trans (e.symm.trans q1.symm)) (hp j i l2 l1 z)
structure Lg (μ:M) (lo r:Nat) (s:List Int) (gs:List Gp):Prop where
 li:μ[r]?=some (some (.lst (gs.map fun g=>D.ref g.2.1)))
 at_:∀ g∈gs,μ[g.2.1]?=some (some (.lst (g.2.2.map D.int)))
 hd:∀ g∈gs,∃ (t:Nat) (z1w:List Int),g.2.2=(t:Int)::z1w∧t<s.length∧s.getD t 0=g.1
 key:(gs.map (·.1)).Nodup
 nd:(gs.map (·.2.1)).Nodup
 rn:∀ g∈gs,g.2.1≠r
 lo1:lo≤r
 lo2:∀ g∈gs,lo≤g.2.1
noncomputable abbrev zfe:SV:=(z0u (z0z (z10 ["group"] [("kinds",0),("thing",2)] (ivL (z01 1)) (z00 0) (vT (v2 fEq (v2 fIx (z01 1) (v2 fIx (z01 0) (vC (.int 0)))) (v2 fIx (z01 1) (z01 2)))) (z01 0)) (z00 3))
   (sIf (vT (v2 fEq (z01 3) (vL z2m z0e)))
    (z2j (v2l z6v (z01 1) (vL z8j (z04 (z01 2) z0e))))
    (z2j (v2l z6v (v2 fIx (z01 3) (vC (.int 0))) (z01 2)))))
theorem zv0 {s:List Int} {μ:M} {x:Nat} (hx:x<s.length):fIx (dI s) (.int (x:Int)) μ=some (.int (s.getD x 0),μ):=by
 simp only [fIx,dI,z3s]
 rw [z6e (j:=x) (v:=.int (s.getD x 0)) (by rw [List.getElem?_map,List.getD_eq_getElem?_getD];simp [List.getElem?_eq_getElem hx])]
 rfl
theorem zch {gs:List Gp} {k:Int} (hk:(gs.map (·.1)).Nodup):∀ g,gs.find? (fun g=>decide (g.1=k))=some g→gs.filter (fun g=>decide (g.1=k))=[g]:=by
 induction gs with
 | nil=>intro g h;cases h
 | cons x r ih =>
  intro g h
  rw [List.map_cons,List.nodup_cons] at hk
  rw [List.find?_cons] at h
  by_cases e:x.1=k
  ·simp [e] at h
   subst h
   rw [List.filter_cons,if_pos (by simpa using e)]
   congr 1
   rw [List.filter_eq_nil_iff]
   intro y hy hyk
   have:y.1=k:=by simpa using hyk
   exact hk.1 (by rw [e,← this];exact List.mem_map_of_mem hy)
  ·simp [e] at h
   rw [List.filter_cons,if_neg (by simpa using e)]
   exact ih hk.2 g h
theorem zgb {s:List Int} {r lo j:Nat} {o3:Option D} {gs:List Gp} {μ:M} (h:Lg μ lo r s gs) (hlo:lo≤μ.length) (hj:j<s.length) (hl:gs.length≤500) (hlt:∀ g∈gs,g.2.2.length≤500) :
  ∃ gs' o3' μ',zfe [some (dI s),some (.ref r),some (.int (j:Int)),o3] μ=some (.nx,[some (dI s),some (.ref r),some (.int (j:Int)),o3'],μ')∧Lg μ' lo r s gs'∧z22 gs'=zbi (z22 gs) (s.getD j 0) (j:Int)∧(∀ i,i<lo→μ'[i]?=μ[i]?)∧μ.length≤μ'.length:=by
 have hi:ivL (z01 1) [some (dI s),some (.ref r),some (.int (j:Int)),o3] μ=some ((gs.map fun g=>D.ref g.2.1,some (r,gs.map fun g=>D.ref g.2.1)),μ):=by
  show (lsC μ (.ref r)).bind _=_
  rw [z5t h.li]
  rfl
 have hc:z10 ["group"] [("kinds",0),("thing",2)] (ivL (z01 1)) (z00 0) (vT (v2 fEq (v2 fIx (z01 1) (v2 fIx (z01 0) (vC (.int 0)))) (v2 fIx (z01 1) (z01 2)))) (z01 0) [some (dI s),some (.ref r),some (.int (j:Int)),o3] μ=some (.lst ((gs.filter fun g=>decide (g.1=s.getD j 0)).map fun g=>D.ref g.2.1),μ):=by
  refine zfr (l:=gs) (dn:=fun g=>D.ref g.2.1) (z1w:=[some (dI s),some (.int (j:Int))]) hi (by omega) h.li rfl (fun g hg=>?_) (fun g _ _=>rfl)
  obtain ⟨t,z1w,e1,e2,e3⟩:=h.hd g hg
  have ha:=h.at_ g hg
  have a0:v2 fIx (z01 0) (vC (.int 0)) [some (D.ref g.2.1),some (dI s),some (.int (j:Int))] μ=some (.int (t:Int),μ):=by
   rw [e_2 (x:=.ref g.2.1) (μ1:=μ) (y:=.int 0) (μ2:=μ) rfl rfl,z8k ha,show (0:Int)=((0:Nat):Int) from rfl,z6e (j:=0) (v:=.int (t:Int)) (by rw [e1];rfl)]
   rfl
  rw [zbn,e_2 (x:=.int g.1) (μ1:=μ) (y:=.int (s.getD j 0)) (μ2:=μ) (by rw [e_2 (x:=dI s) (μ1:=μ) (y:=.int (t:Int)) (μ2:=μ) rfl a0,zv0 e2,e3]) (by rw [e_2 (x:=dI s) (μ1:=μ) (y:=.int (j:Int)) (μ2:=μ) rfl rfl];exact zv0 hj)]
  rfl
 have hs1:z0z (z10 ["group"] [("kinds",0),("thing",2)] (ivL (z01 1)) (z00 0) (vT (v2 fEq (v2 fIx (z01 1) (v2 fIx (z01 0) (vC (.int 0)))) (v2 fIx (z01 1) (z01 2)))) (z01 0)) (z00 3) [some (dI s),some (.ref r),some (.int (j:Int)),o3] μ=some (.nx,[some (dI s),some (.ref r),some (.int (j:Int)),some (.lst ((gs.filter fun g=>decide (g.1=s.getD j 0)).map fun g=>D.ref g.2.1))],μ):=by
  rw [z6m,hc]
  rfl
 cases hf:gs.find? (fun g=>decide (g.1=s.getD j 0)) with
 | some g =>
  have hm:=List.mem_of_find?_eq_some hf
  have he:g.1=s.getD j 0:=by simpa using List.find?_some hf
  rw [zch h.key g hf] at hs1
  have ha:=h.at_ g hm
  obtain ⟨μ1,e1,h1,o1⟩:=zfv (y:=.int (j:Int)) ha (by have:=hlt g hm;simp;omega)
  refine ⟨gs.map fun x=>if x.1=s.getD j 0 then (x.1,x.2.1,x.2.2++[(j:Int)]) else x,some (.lst [.ref g.2.1]),μ1,?_,?_,(za3 h.key hf).symm,fun i hi'=>o1.at_ i (by have:=h.lo2 g hm;omega),Nat.le_of_eq o1.len.symm⟩
  ·have t:vT (v2 fEq (z01 3) (vL z2m z0e)) [some (dI s),some (.ref r),some (.int (j:Int)),some (.lst [.ref g.2.1])] μ=some (false,μ):=by
    rw [zbn,e_2 (x:=.lst [.ref g.2.1]) (μ1:=μ) (y:=.lst []) (μ2:=μ) rfl rfl]
    have hpy:py 65 μ (.lst [.ref g.2.1])=some (.list [.list (g.2.2.map PyData.int)]):=by
     have h2:py 64 μ (.ref g.2.1)=some (.list (g.2.2.map PyData.int)):=by
      rw [zja ha]
      have h3:z0s (py 63 μ) (g.2.2.map D.int)=some (g.2.2.map PyData.int):=z2u fun x _=>rfl
      rw [h3]
      rfl
     rw [zf0]
     simp only [z0s,h2,bs]
    have hd:(PyData.list [.list (g.2.2.map PyData.int)]).canLay0=true:=by simp [PyData.canLay0,PyData.canLayAll0,zfg]
    unfold fEq
    rw [zpe rfl rfl,hpy]
    have hpy2:py 65 μ (.lst [])=some (.list []):=rfl
    rw [hpy2]
    simp only [bs,hd]
    have hdd:(PyData.list [.list (g.2.2.map PyData.int)]).depth≤64:=by simp [PyData.depth,PyData.depthAll,zae]
    rw [if_pos (by simp [PyData.canLay0,PyData.canLayAll0,hdd])]
    simp [PyData.eqv,PyData.eqvAll,kT]
   unfold zfe
   rw [z0t,hs1]
   show zk1 _ (some (.nx,[some (dI s),some (.ref r),some (.int (j:Int)),some (.lst [.ref g.2.1])],μ))=_
   rw [z1j,z37,t]
   show z2j _ _ μ=_
   rw [z38]
   unfold v2l
   have hx:v2 fIx (z01 3) (vC (.int 0)) [some (dI s),some (.ref r),some (.int (j:Int)),some (.lst [.ref g.2.1])] μ=some (.ref g.2.1,μ):=by
    rw [e_2 (x:=.lst [.ref g.2.1]) (μ1:=μ) (y:=.int 0) (μ2:=μ) rfl rfl]
    rfl
   rw [hx,bs]
   show kEx _ ((z3s μ (.ref g.2.1)).bind _)=_
   rw [z20 ha,bs]
   show kEx _ (z6v (.ref g.2.1) (.int (j:Int)) μ)=_
   rw [e1]
   rfl
  ·have m1:∀ (f:Gp→Nat),(∀ x:Gp,∀ l,f (x.1,x.2.1,l)=f x)→(gs.map fun x=>if x.1=s.getD j 0 then (x.1,x.2.1,x.2.2++[(j:Int)]) else x).map f=gs.map f:=fun f hfx=>by
    rw [List.map_map]
    apply List.map_congr_left
    intro x _
    simp only [Function.comp]
    split
    ·exact hfx x _
    ·rfl
   have m2:(gs.map fun x=>if x.1=s.getD j 0 then (x.1,x.2.1,x.2.2++[(j:Int)]) else x).map (·.1)=gs.map (·.1):=by
    rw [List.map_map]
    apply List.map_congr_left
    intro x _
    simp only [Function.comp]
    split <;> rfl
   have m3:(gs.map fun x=>if x.1=s.getD j 0 then (x.1,x.2.1,x.2.2++[(j:Int)]) else x).map (fun g=>D.ref g.2.1)=gs.map fun g=>D.ref g.2.1:=by
    rw [List.map_map]
    apply List.map_congr_left
    intro x _
    simp only [Function.comp]
    split <;> rfl
   refine ⟨?_,fun x hx=>?_,fun x hx=>?_,by rw [m2];exact h.key,by rw [m1 (·.2.1) (fun _ _=>rfl)];exact h.nd,fun x hx=>?_,h.lo1,fun x hx=>?_⟩
   ·rw [m3,o1.at_ r (Ne.symm (h.rn g hm))];exact h.li
   ·obtain ⟨y,hy,rfl⟩:=List.mem_map.mp hx
    by_cases hyk:y.1=s.getD j 0
    ·have:y=g:=zjl (f:=fun g:Gp=>g.1) h.key hy hm (by rw [hyk,he])
     subst this
     rw [if_pos hyk]
     show μ1[y.2.1]?=_
     rw [h1]
     simp
    ·rw [if_neg hyk]
     have hne:y.2.1≠g.2.1:=fun z=>hyk (by rw [zjl (f:=fun g:Gp=>g.2.1) h.nd hy hm z];exact he)
     rw [o1.at_ _ hne]
     exact h.at_ y hy
   ·obtain ⟨y,hy,rfl⟩:=List.mem_map.mp hx
    obtain ⟨t,z1w,q1,q2,q3⟩:=h.hd y hy
    split
    ·exact ⟨t,z1w++[(j:Int)],by simp [q1],q2,q3⟩
    ·exact ⟨t,z1w,q1,q2,q3⟩
   ·obtain ⟨y,hy,rfl⟩:=List.mem_map.mp hx
    split
    ·exact h.rn y hy
    ·exact h.rn y hy
   ·obtain ⟨y,hy,rfl⟩:=List.mem_map.mp hx
    split
    ·exact h.lo2 y hy
    ·exact h.lo2 y hy
 | none =>
  have hfl:gs.filter (fun g=>decide (g.1=s.getD j 0))=[]:=by
   rw [List.filter_eq_nil_iff]
   rw [List.find?_eq_none] at hf
   exact hf
  rw [hfl] at hs1
  have g1:Gr μ (μ++[some (O.lst [.int (j:Int)])]):=z32
  have hli:=g1.get h.li
  obtain ⟨μ1,e1,h1,o1⟩:=zfv (y:=.ref μ.length) hli (by simp;omega)
  have hrl:r<μ.length:=(List.getElem?_eq_some_iff.mp h.li).1
  have hgl:∀ g∈gs,g.2.1<μ.length:=fun g hg=>(List.getElem?_eq_some_iff.mp (h.at_ g hg)).1
  refine ⟨gs++[(s.getD j 0,μ.length,[(j:Int)])],some (.lst []),μ1,?_,?_,(zf3 hf).symm,fun i hi'=>?_,by rw [o1.len];simp⟩
  ·have t:vT (v2 fEq (z01 3) (vL z2m z0e)) [some (dI s),some (.ref r),some (.int (j:Int)),some (.lst [])] μ=some (true,μ):=rfl
   unfold zfe
   rw [z0t,hs1]
   show zk1 _ (some (.nx,[some (dI s),some (.ref r),some (.int (j:Int)),some (.lst [])],μ))=_
   rw [z1j,z37,t]
   show z2j _ _ μ=_
   rw [z38]
   unfold v2l
   have hx:z01 1 [some (dI s),some (.ref r),some (.int (j:Int)),some (.lst [])] μ=some (.ref r,μ):=rfl
   rw [hx,bs]
   show kEx _ ((z3s μ (.ref r)).bind _)=_
   rw [z20 h.li,bs]
   show kEx _ (z6v (.ref r) (.ref μ.length) (μ++[some (O.lst [.int (j:Int)])]))=_
   rw [e1]
   rfl
  ·refine ⟨by rw [h1];simp,fun x hx=>?_,fun x hx=>?_,?_,?_,fun x hx=>?_,h.lo1,fun x hx=>?_⟩
   ·rcases List.mem_append.mp hx with hx | hx
    ·rw [o1.at_ _ (h.rn x hx)];exact g1.get (h.at_ x hx)
    ·have:x=(s.getD j 0,μ.length,[(j:Int)]):=by simpa using hx
     subst this
     show μ1[μ.length]?=_
     rw [o1.at_ _ (by omega)]
     simp
   ·rcases List.mem_append.mp hx with hx | hx
    ·exact h.hd x hx
    ·have:x=(s.getD j 0,μ.length,[(j:Int)]):=by simpa using hx
     subst this
     exact ⟨j,[],rfl,hj,rfl⟩
   ·rw [List.map_append,List.nodup_append]
    refine ⟨h.key,by simp,fun a ha c hc e=>?_⟩
    have:c=s.getD j 0:=by simpa using hc
    subst this e
    obtain ⟨g,hg,e⟩:=List.mem_map.mp ha
    rw [List.find?_eq_none] at hf
    exact hf g hg (by simpa using e)
   ·rw [List.map_append,List.nodup_append]
    refine ⟨h.nd,by simp,fun a ha c hc e=>?_⟩
    have:c=μ.length:=by simpa using hc
    subst this e
    obtain ⟨g,hg,e⟩:=List.mem_map.mp ha
    have:=hgl g hg
    omega
   ·rcases List.mem_append.mp hx with hx | hx
    ·exact h.rn x hx
    ·have:x=(s.getD j 0,μ.length,[(j:Int)]):=by simpa using hx
     subst this
     show μ.length≠r
     omega
   ·rcases List.mem_append.mp hx with hx | hx
    ·exact h.lo2 x hx
    ·have:x=(s.getD j 0,μ.length,[(j:Int)]):=by simpa using hx
     subst this
     exact hlo
  ·have hb2:=h.lo1
   rw [o1.at_ i (by omega)]
   exact g1.at_ i (by omega)
theorem zdh {s:List Int} {μ:M} (hs:s.length≤400):∃ r gs μ',z0y [dI s] μ=some (.ref r,μ')∧Lg μ' μ.length r s gs∧z22 gs=grp s∧gs.length≤s.length∧(∀ g∈gs,g.2.2.length≤s.length)∧Gr μ μ':=by
 have main:=z8h (c:=none) (g:=z00 2) (body:=zfe)
  (fun i Γ μ'=>∃ (gs:List Gp) (o2 o3:Option D),Γ=[some (dI s),some (.ref μ.length),o2,o3]∧Lg μ' μ.length μ.length s gs∧z22 gs=grp (s.take i)∧gs.length≤i∧(∀ g∈gs,g.2.2.length≤i)∧Gr μ μ')
  (z2z 0 s.length) 0 [some (dI s),some (.ref μ.length),none,none] (μ++[some (.lst [])])
  ⟨[],none,none,rfl,⟨by simp,fun g h=>by simp at h,fun g h=>by simp at h,by simp,by simp,fun g h=>by simp at h,Nat.le_refl _,fun g h=>by simp at h⟩,rfl,Nat.le_refl _,fun g h=>by simp at h,z32⟩ ?_
 ·obtain ⟨Γ',μ',e,gs,o2,o3,rfl,G1,hst,hl,hlt,gr⟩:=main
  rw [zex,Nat.zero_add] at hst hl hlt
  rw [List.take_length] at hst
  refine ⟨μ.length,gs,μ',?_,G1,hst,hl,hlt,gr⟩
  unfold z0y z45
  rw [z1x,if_pos (show [dI s].length=1 from rfl)]
  show z9v (z0u _ _ [some (dI s),none,none,none] μ)=_
  have s1:z0z (vL z8j z0e) (z00 1) [some (dI s),none,none,none] μ=some (.nx,[some (dI s),some (.ref μ.length),none,none],μ++[some (.lst [])]):=rfl
  have hi:ivR (v1 z2b (z01 0)) [some (dI s),some (.ref μ.length),none,none] (μ++[some (.lst [])])=some ((z2z 0 s.length,none),μ++[some (.lst [])]):=by
   have a2:v1 z2b (z01 0) [some (dI s),some (.ref μ.length),none,none] (μ++[some (.lst [])])=some (.int (s.length:Int),μ++[some (.lst [])]):=by
    rw [e_1 (x:=dI s) (μ1:=μ++[some (.lst [])]) rfl];simp [dI,z2b,z3s]
   rw [zp9,a2,zuv,if_pos (by omega)]
   simp
  rw [z0t,s1,z1j,z0t,z2y,hi,z4n,e]
  rfl
 ·rintro j x Γ μ1 hx ⟨gs,o2,o3,rfl,G1,hst,hl,hlt,gr⟩
  obtain ⟨hj,rfl⟩:=zey hx
  rw [Nat.zero_add] at hst hl hlt
  obtain ⟨gs',o3',μ2,e,G2,hst2,hold,hlen⟩:=zgb (o3:=o3) G1 gr.len hj (by omega) (fun g hg=>by have:=hlt g hg;omega)
  have hsj:s[j]?=some (s.getD j 0):=by rw [List.getD_eq_getElem?_getD,List.getElem?_eq_getElem hj];rfl
  have hgrp:grp (s.take (j+1))=zbi (grp (s.take j)) (s.getD j 0) (j:Int):=by
   rw [List.take_succ,hsj]
   show z43 0 (s.take j++[s.getD j 0]) []=_
   rw [z4o]
   have:(s.take j).length=j:=by rw [List.length_take];omega
   rw [this,Nat.zero_add]
   rfl
  refine ⟨[some (dI s),some (.ref μ.length),some (.int (j:Int)),o3],μ1,[some (dI s),some (.ref μ.length),some (.int (j:Int)),o3'],μ2,rfl,e,trivial,gs',some (.int (j:Int)),o3',rfl,G2,?_,?_,?_,?_⟩
  ·rw [Nat.zero_add,hst2,hst,hgrp]
  ·have:gs'.length=(zbi (z22 gs) (s.getD j 0) (j:Int)).length:=by rw [← hst2];simp [z22]
   have h2:=zf5 (z22 gs) (s.getD j 0) (j:Int)
   have:(z22 gs).length=gs.length:=by simp [z22]
   omega
  ·intro g hg
   have hm:(g.1,g.2.2)∈zbi (z22 gs) (s.getD j 0) (j:Int):=by rw [← hst2];exact List.mem_map.mpr ⟨g,hg,rfl⟩
   have:=zf4 (m:=j) (fun x hx=>by
    obtain ⟨y,hy,rfl⟩:=List.mem_map.mp hx
    exact hlt y hy) _ hm
   have:g.2.2.length≤j+1:=this
   omega
  ·exact ⟨Nat.le_trans gr.len hlen,fun i hi=>(hold i hi).trans (gr.at_ i hi)⟩
noncomputable abbrev znd:List D→M→Option (D×M):=z40 z0y
theorem zim {s:List Int} {μ:M} (hs:s.length≤400):∃ d μ',znd [dI s] μ=some (d,μ')∧Ls μ' d ((z15 s).map D.int)∧Gr μ μ':=by
 obtain ⟨r,gs,μ1,e,G1,hst,hl,hlt,gr⟩:=zdh (μ:=μ) hs
 have hi:ivL (vL z0y (z04 (z01 0) z0e)) [some (dI s),none] μ=some ((gs.map fun g:Gp=>D.ref g.2.1,some (r,gs.map fun g:Gp=>D.ref g.2.1)),μ1):=by
  have:vL z0y (z04 (z01 0) z0e) [some (dI s),none] μ=some (.ref r,μ1):=e
  unfold ivL
  rw [this,bs]
  show (lsC μ1 (.ref r)).bind _=_
  rw [z5t G1.li]
  rfl
 have hc:z10 ["group"] [("kinds",0)] (ivL (vL z0y (z04 (z01 0) z0e))) (z00 0) (vT (v2 fGt (v2 z1n (vC (.int 2)) (v1 z2b (z01 0))) (v1 z2b (z01 1)))) (z01 0) [some (dI s),none] μ=some (.lst ((gs.filter fun g=>decide ((s.length:Int)<2*(g.2.2.length:Int))).map fun g:Gp=>D.ref g.2.1),μ1):=by
  rw [z63,hi,z8d,if_pos (by simp;omega)]
  have ec:z50 (["group"]:List Str) [("kinds",0)] [some (dI s),none]=[none,some (dI s)]:=rfl
  rw [ec,z29 (c:=some (r,gs.map fun g:Gp=>D.ref g.2.1)) (dn:=fun g:Gp=>D.ref g.2.1) (keep:=fun g=>decide ((s.length:Int)<2*(g.2.2.length:Int))) (val:=fun g:Gp=>D.ref g.2.1) (fun Γ=>∃ o1,Γ=[o1,some (dI s)]) G1.li gs _ ⟨_,rfl⟩ ?_]
  ·rfl
  ·rintro g hg Γ ⟨o1,rfl⟩
   refine ⟨[some (.ref g.2.1),some (dI s)],rfl,?_,fun _=>rfl,_,rfl⟩
   have h0:=G1.at_ g hg
   have hl0:=hlt g hg
   have a1:v1 z2b (z01 0) [some (.ref g.2.1),some (dI s)] μ1=some (.int (g.2.2.length:Int),μ1):=by
    rw [e_1 (x:=.ref g.2.1) (μ1:=μ1) rfl,z4w h0];simp
   have a2:v1 z2b (z01 1) [some (.ref g.2.1),some (dI s)] μ1=some (.int (s.length:Int),μ1):=by
    rw [e_1 (x:=dI s) (μ1:=μ1) rfl];simp [dI,z2b,z3s]
   have a3:v2 z1n (vC (.int 2)) (v1 z2b (z01 0)) [some (.ref g.2.1),some (dI s)] μ1=some (.int (2*(g.2.2.length:Int)),μ1):=by
    rw [e_2 (x:=.int 2) (μ1:=μ1) (y:=.int (g.2.2.length:Int)) (μ2:=μ1) rfl a1]
    have hc:CMul 2 (g.2.2.length:Int):=.inl ⟨by decide,by decide⟩
    simp only [z1n,if_pos hc]
   rw [zbn,e_2 a3 a2]
   rfl
 have hm:=za6 hst
 have hrun:∀ d,v2 fIx (v2 z0w (z01 1) (vL z2m (z04 (vL z2m z0e) z0e))) (vC (.int 0)) [some (dI s),some (.lst ((gs.filter fun g=>decide ((s.length:Int)<2*(g.2.2.length:Int))).map fun g:Gp=>D.ref g.2.1))] μ1=some (d,μ1)→znd [dI s] μ=some (d,μ1):=by
  intro d hd
  unfold znd z40 z5w
  rw [z1x,if_pos (show [dI s].length=1 from rfl)]
  show z9v (z0u _ _ [some (dI s),none] μ)=_
  rw [z0t,z6m,hc]
  show z9v (zk1 _ (some (.nx,[some (dI s),some (.lst ((gs.filter fun g=>decide ((s.length:Int)<2*(g.2.2.length:Int))).map fun g:Gp=>D.ref g.2.1))],μ1)))=_
  rw [z1j,z6l,hd]
  rfl
 have hcat:∀ l:List D,l.length≤1000→v2 z0w (z01 1) (vL z2m (z04 (vL z2m z0e) z0e)) [some (dI s),some (.lst l)] μ1=some (.lst (l++[.lst []]),μ1):=by
  intro l hl'
  rw [e_2 (x:=.lst l) (μ1:=μ1) (y:=.lst [.lst []]) (μ2:=μ1) rfl rfl]
  show zgy _ _ μ1=_
  unfold zgy
  simp only [zhq,bs]
  rw [if_pos (by simp;omega)]
 have hfl:((gs.filter fun g=>decide ((s.length:Int)<2*(g.2.2.length:Int))).map fun g:Gp=>D.ref g.2.1).length≤1000:=by
  rw [List.length_map]
  have:=List.length_filter_le (fun g:Gp=>decide ((s.length:Int)<2*(g.2.2.length:Int))) gs
  omega
 rw [← List.head?_filter] at hm
 cases hf:gs.filter fun g=>decide ((s.length:Int)<2*(g.2.2.length:Int)) with
 | nil =>
  rw [hf] at hm hrun hfl
  refine ⟨.lst [],μ1,hrun _ ?_,by rw [hm];exact .lst,gr⟩
  rw [e_2 (y:=.int 0) (μ2:=μ1) (hcat _ hfl) rfl]
  rfl
 | cons g l =>
  rw [hf] at hm hrun hfl
  refine ⟨.ref g.2.1,μ1,hrun _ ?_,?_,gr⟩
  ·rw [e_2 (y:=.int 0) (μ2:=μ1) (hcat _ hfl) rfl]
   simp only [fIx,z3s]
   rw [show (0:Int)=((0:Nat):Int) from rfl,z6e (j:=0) (v:=.ref g.2.1) rfl]
   rfl
  ·rw [hm]
   have:g∈gs.filter fun g=>decide ((s.length:Int)<2*(g.2.2.length:Int)):=by rw [hf];simp
   exact .ref (G1.at_ g (List.mem_filter.mp this).1)
theorem zfy:∀ (n m:Nat),n≤m→Sx n m=Sx n n
 | 0,_,_=>rfl
 | n+1,m,h=>by
  rw [zbh,zbh,zfy n m (by omega),zfy n (n+1) (by omega),List.flatMap_def,List.flatMap_def]
  congr 1
  apply List.map_congr_left
  intro p hp
  have:=(z5z n n p hp).len2
  unfold ext
  rw [show min (p.2+1) m=min (p.2+1) (n+1) by omega]
theorem Ls.on {μ μ':M} {d:D} {ds:List D} {r:Nat} (h:Ls μ d ds) (hr:∀ k,d=.ref k→k≠r) (ho:On r μ μ'):Ls μ' d ds:=by
 rcases z14 h with ⟨k,rfl,hk⟩ | rfl | rfl
 ·exact .ref (by rw [ho.at_ k (hr k rfl)];exact hk)
 ·exact .lst
 ·exact ⟨rfl,none,rfl,trivial,fun _ _=>trivial⟩
noncomputable abbrev lIn:SV:=(z2j (v2l z6v (z01 1) (v2 z0w (z01 2) (vL z2m (z04 (z01 3) z0e)))))
theorem zjt {a0:Option D} {r:Nat} {p:List Int×Nat} (hp:p.1.length≤1000):∀ (l:List Nat) (o:Option D) (ds:List D) (μ:M),μ[r]?=some (some (.lst ds))→ds.length+l.length≤100000 →
  ∃ o' μ',z4d none (z00 3) lIn (l.map fun i:Nat=>D.int (i:Int)) [a0,some (.ref r),some (dS p),o] μ=some (.nx,[a0,some (.ref r),some (dS p),o'],μ')∧μ'[r]?=some (some (.lst (ds++l.map fun i:Nat=>dI (p.1++[(i:Int)]))))∧On r μ μ'
 | [],o,ds,μ,h,_=>⟨o,μ,rfl,by simpa using h,.refl⟩
 | i::l,o,ds,μ,h,hl=>by
  simp at hl
  obtain ⟨μ1,e1,h1,o1⟩:=zfv (y:=dI (p.1++[(i:Int)])) h (by omega)
  obtain ⟨o',μ2,e2,h2,o2⟩:=zjt (a0:=a0) hp l (some (.int (i:Int))) (ds++[dI (p.1++[(i:Int)])]) μ1 h1 (by simp;omega)
  refine ⟨o',μ2,?_,by simpa using h2,o1.trans o2⟩
  have hg:z00 3 (.int (i:Int)) [a0,some (.ref r),some (dS p),o] μ=some ([a0,some (.ref r),some (dS p),some (.int (i:Int))],μ):=rfl
  have hv:v2 z0w (z01 2) (vL z2m (z04 (z01 3) z0e)) [a0,some (.ref r),some (dS p),some (.int (i:Int))] μ=some (dI (p.1++[(i:Int)]),μ):=by
   rw [e_2 (x:=dS p) (μ1:=μ) (y:=.lst [.int (i:Int)]) (μ2:=μ) rfl rfl]
   show zgy (.lst (p.1.map D.int)) (.lst [.int (i:Int)]) μ=_
   unfold zgy
   simp only [zhq,bs]
   rw [if_pos (by simp;omega)]
   simp [dI]
  have hb:lIn [a0,some (.ref r),some (dS p),some (.int (i:Int))] μ=some (.nx,[a0,some (.ref r),some (dS p),some (.int (i:Int))],μ1):=by
   unfold lIn
   rw [z38]
   unfold v2l
   have hv3:z01 1 [a0,some (.ref r),some (dS p),some (.int (i:Int))] μ=some (.ref r,μ):=rfl
   rw [hv3,bs]
   show kEx _ ((z3s μ (.ref r)).bind _)=_
   rw [z20 h,bs,hv,bs]
   show kEx _ (z6v (.ref r) _ μ)=_
   rw [e1]
   rfl
  rw [List.map_cons]
  simp only [z4d,hg,bs,hb,z3g]
  exact e2
noncomputable abbrev zwv:SV:=(z8y (ivR (v2 z0w (v1 z5u (z01 2)) (vC (.int 1)))) (z00 3) lIn)
theorem zum {a0:Option D} {r n j:Nat} {c:Ck} (hj:j<n) (hn:n≤7):∀ (ps:List (List Int×Nat)) (o4 o5:Option D) (ds:List D) (μ:M),μ[r]?=some (some (.lst ds))→(∀ p∈ps,Gd j n p)→ds.length+ps.length*8≤100000→(∀ μ',On r μ μ'→z2k c μ') →
  ∃ o4' o5' μ',z4d c (z00 2) zwv (ps.map dS) [a0,some (.ref r),o4,o5] μ=some (.nx,[a0,some (.ref r),o4',o5'],μ')∧μ'[r]?=some (some (.lst (ds++(ps.flatMap (ext n)).map dS)))∧On r μ μ'
 | [],o4,o5,ds,μ,h,_,_,_=>⟨o4,o5,μ,rfl,by simpa using h,.refl⟩
 | p::ps,o4,o5,ds,μ,h,hg,hl,hck=>by
  have g:=hg p (by simp)
  have hu:=g.len2
  have hlen:=g.len
  have hm:min (p.2+1) n=p.2+1:=by omega
  simp at hl
  obtain ⟨o5',μ1,e1,h1,o1⟩:=zjt (a0:=a0) (p:=p) (by omega) (List.range (p.2+1)) o5 ds μ h (by simp;omega)
  obtain ⟨o4'',o5'',μ2,e2,h2,o2⟩:=zum (a0:=a0) (c:=c) hj hn ps (some (dS p)) o5' _ μ1 h1 (fun q hq=>hg q (by simp [hq])) (by simp;omega) (fun μ' ho=>hck μ' (o1.trans ho))
  refine ⟨o4'',o5'',μ2,?_,?_,o1.trans o2⟩
  ·have hgv:z00 2 (dS p) [a0,some (.ref r),o4,o5] μ=some ([a0,some (.ref r),some (dS p),o5],μ):=rfl
   have hi:ivR (v2 z0w (v1 z5u (z01 2)) (vC (.int 1))) [a0,some (.ref r),some (dS p),o5] μ=some (((List.range (p.2+1)).map fun i:Nat=>D.int (i:Int),none),μ):=by
    have hs:v1 z5u (z01 2) [a0,some (.ref r),some (dS p),o5] μ=some (.int (p.2:Int),μ):=by
     rw [e_1 (x:=dS p) (μ1:=μ) rfl]
     unfold z5u
     simp only [dS,dI,z3s,bs,all_ints]
     rw [if_pos (by omega),g.dist]
    have hp1:v2 z0w (v1 z5u (z01 2)) (vC (.int 1)) [a0,some (.ref r),some (dS p),o5] μ=some (.int ((p.2+1:Nat):Int),μ):=by
     rw [e_2 (y:=.int 1) (μ2:=μ) hs rfl]
     simp [z0w]
    rw [zp9,hp1,zuv,if_pos (by omega)]
    simp [z2z]
   have hb:zwv [a0,some (.ref r),some (dS p),o5] μ=some (.nx,[a0,some (.ref r),some (dS p),o5'],μ1):=by
    unfold zwv
    rw [z2y,hi,z4n]
    exact e1
   rw [List.map_cons]
   simp only [z4d,hgv,bs,hb]
   rw [z1p (hck _ o1)]
   exact e2
  ·rw [h2,List.flatMap_cons,List.map_append,List.append_assoc]
   congr 4
   unfold ext
   rw [hm]
   simp [dS]
noncomputable def z1b:Nat→List D→M→Option (D×M)
 | 0=>fun _ _=>none
 | k+1=>z1h (z1b k)
theorem za2:∀ (n k:Nat) (μ:M),n≤7→n<k→∃ f μ',z1b k [.int (n:Int)] μ=some (f,μ')∧Ls μ' f ((Sx n n).map dS)∧Gr μ μ'∧∀ q,f=.ref q→μ.length≤q
 | 0,k,μ,_,hk=>by
  obtain ⟨k,rfl⟩:∃ j,k=j+1:=⟨k - 1,by omega⟩
  refine ⟨.lst [.lst []],μ,?_,.lst,.refl,fun q h=>by cases h⟩
  show z1h (z1b k) [.int 0] μ=_
  unfold z1h z3f
  rw [z1x,if_pos (show [D.int 0].length=1 from rfl)]
  show z9v (z0u _ _ [some (.int 0),none,none,none] μ)=_
  have t:vT (v2 fEq (z01 0) (vC (.int 0))) [some (.int 0),none,none,none] μ=some (true,μ):=rfl
  rw [z0t,z37,t]
  rfl
 | n+1,k,μ,hn,hk=>by
  obtain ⟨k,rfl⟩:∃ j,k=j+1:=⟨k - 1,by omega⟩
  obtain ⟨f,μ1,e1,hf,g1,hq⟩:=za2 n k (μ++[some (O.lst [])]) (by omega) (by omega)
  have g0:Gr μ (μ++[some (O.lst [])]):=z32
  have g01:=g0.trans g1
  have hr:μ1[μ.length]?=some (some (.lst [])):=g1.get (by simp)
  obtain ⟨_,c,h2,h3,_⟩:=id hf
  have hck:∀ μ',On μ.length μ1 μ'→z2k c μ':=by
   intro μ' ho
   rcases z14 hf with ⟨q,rfl,hqq⟩ | rfl | rfl
   ·rw [z5t hqq] at h2
    cases h2
    have:=hq q rfl
    simp at this
    show μ'[q]?=_
    rw [ho.at_ q (by omega)]
    exact hqq
   ·cases h2;trivial
   ·cases h2;trivial
  have hfew:=zd2 (n:=n) (by omega) n
  obtain ⟨o4,o5,μ2,e2,hr2,o2⟩:=zum (a0:=some (.int ((n+1:Nat):Int))) (r:=μ.length) (n:=n+1) (j:=n) (c:=c) (by omega) hn (Sx n n) none none [] μ1 hr (fun p hp=>by
   have:=z5z (n+1) n p (by rw [zfy n (n+1) (by omega)];exact hp)
   exact this) (by simp;omega) hck
  refine ⟨.ref μ.length,μ2,?_,?_,On.gr g01 o2 (Nat.le_refl _),fun q h=>by cases h;exact Nat.le_refl _⟩
  ·show z1h (z1b k) [.int ((n+1:Nat):Int)] μ=_
   unfold z1h z3f
   rw [z1x,if_pos (show [D.int ((n+1:Nat):Int)].length=1 from rfl)]
   show z9v (z0u _ _ [some (.int ((n+1:Nat):Int)),none,none,none] μ)=_
   have t:vT (v2 fEq (z01 0) (vC (.int 0))) [some (.int ((n+1:Nat):Int)),none,none,none] μ=some (false,μ):=by
    rw [zbn,e_2 (x:=.int ((n+1:Nat):Int)) (μ1:=μ) (y:=.int 0) (μ2:=μ) rfl rfl]
    have:¬ (((n+1:Nat):Int)=0):=by omega
    simp only [fEq,eqD,bs]
    rw [decide_eq_false this]
    rfl
   have s1:z0z (vL z8j z0e) (z00 1) [some (.int ((n+1:Nat):Int)),none,none,none] μ=some (.nx,[some (.int ((n+1:Nat):Int)),some (.ref μ.length),none,none],μ++[some (O.lst [])]):=rfl
   have hi:ivL (vL (z1b k) (z04 (v2 zd7 (z01 0) (vC (.int 1))) z0e)) [some (.int ((n+1:Nat):Int)),some (.ref μ.length),none,none] (μ++[some (O.lst [])])=some (((Sx n n).map dS,c),μ1):=by
    have hsub:v2 zd7 (z01 0) (vC (.int 1)) [some (.int ((n+1:Nat):Int)),some (.ref μ.length),none,none] (μ++[some (O.lst [])])=some (.int (n:Int),μ++[some (O.lst [])]):=by
     rw [e_2 (x:=.int ((n+1:Nat):Int)) (μ1:=μ++[some (O.lst [])]) (y:=.int 1) (μ2:=μ++[some (O.lst [])]) rfl rfl]
     show some (D.int (((n+1:Nat):Int) - 1),_)=_
     congr 3
     omega
    have hl:z04 (v2 zd7 (z01 0) (vC (.int 1))) z0e [some (.int ((n+1:Nat):Int)),some (.ref μ.length),none,none] (μ++[some (O.lst [])])=some ([.int (n:Int)],μ++[some (O.lst [])]):=by
     rw [zng,hsub]
     rfl
    have hv:vL (z1b k) (z04 (v2 zd7 (z01 0) (vC (.int 1))) z0e) [some (.int ((n+1:Nat):Int)),some (.ref μ.length),none,none] (μ++[some (O.lst [])])=some (f,μ1):=by
     rw [zw7,hl]
     exact e1
    unfold ivL
    rw [hv,bs]
    show (lsC μ1 f).bind _=_
    rw [h2]
    rfl
   rw [z0t,z37,t]
   show z9v (zk1 _ (some (.nx,_,μ)))=_
   rw [z1j,z0t,s1,z1j,z0t,z2y,hi,z4n,e2]
   rfl
  ·rw [zbh,zfy n (n+1) (by omega)]
   exact .ref (by simpa using hr2)
end Law
namespace Law
open PySem PySem.Spec L2 L3
noncomputable def z3n:Nat→List D→M→Option (D×M)
 | 0=>fun _ _=>none
 | n+1=>z1r (z3n n)
theorem zk4 {μ:M} {x:D} (h:tyD μ x=some "tuple"):ze7 ["list", "tuple"] x μ=some (.bl true,μ)∧zhd "list" x μ=some (.bl false,μ):=by
 constructor
 ·simp only [ze7,h,Option.bind_some];rfl
 ·simp only [zhd,h,Option.bind_some];rfl
theorem zek {f:List D→M→Option (D×M)} {μ:M}:∀ (xs ys:List D) (a b:Option D),(∀ (i:Nat) (p q:D),xs[i]?=some p→ys[i]?=some q→f [p,q] μ=some (.bl true,μ)) →
  z1m none (z21 2 (z0a (z00 0) (z0a (z00 1) z23))) (zbg (z5k (vL f (z04 (z01 0) (z04 (z01 1) z0e))))) (vC (.int 1)) (zen xs ys) [a,b] μ=some ([],μ)
 | [],_,a,b,_=>rfl
 | _::_,[],a,b,_=>rfl
 | x::xs,y::ys,a,b,h=>by
  have h0:=h 0 x y rfl rfl
  have ih:=zek xs ys (some x) (some y) fun i p q hp hq=>h (i+1) p q (by simpa using hp) (by simpa using hq)
  have ht:zbg (z5k (vL f (z04 (z01 0) (z04 (z01 1) z0e)))) [some x,some y] μ=some (false,μ):=by simp [h0,zes]
  have hg:z21 2 (z0a (z00 0) (z0a (z00 1) z23)) (.tup [x,y]) [a,b] μ=some ([some x,some y],μ):=rfl
  show (z21 2 (z0a (z00 0) (z0a (z00 1) z23)) (.tup [x,y]) [a,b] μ).bind _=_
  rw [hg,Option.bind_some,ht,Option.bind_some]
  simp only [Bool.false_eq_true,if_false,z3g]
  exact ih
theorem zam {f:List D→M→Option (D×M)} {μ:M} {x y:D} {xs ys:List D} (tx:tyD μ x=some "tuple") (ty:tyD μ y=some "tuple") (qx:sqC x=some (xs, "tuple_iterator")) (qy:sqC y=some (ys, "tuple_iterator"))
  (lx:z2b x μ=some (.int (xs.length:Nat),μ)) (ly:z2b y μ=some (.int (ys.length:Nat),μ)) (hl:xs.length=ys.length) (hz:(zen xs ys).length≤1000000) (h:∀ (i:Nat) (p q:D),xs[i]?=some p→ys[i]?=some q→f [p,q] μ=some (.bl true,μ)) :
  z1r f [x,y] μ=some (.bl true,μ):=by
 obtain ⟨a1,a2⟩:=zk4 tx
 obtain ⟨b1,b2⟩:=zk4 ty
 have hi:zx0 (z01 0) (z01 1) [some x,some y] μ=some ((zen xs ys,none),μ):=by
  show (sqC x).bind _=_
  rw [qx,Option.bind_some,qy]
  rfl
 have hc:=zek xs ys none none h
 rw [hl] at lx
 have he:eqD (.lst []) (.lst []) μ=some true:=rfl
 simp [z1r,z33,a1,a2,b1,b2,zes,fNe,fEq,zks,zba,lx,ly,hi,z50,hz,hc,z2m,he]
theorem zmk {μ:M} {a:Int} {n:Nat}:z3n (n+1) [.int a,.int a] μ=some (.bl true,μ):=by
 have t0:zs8 (.int a) .non μ=some (.bl false,μ):=rfl
 have t1:ze7 ["list", "tuple"] (.int a) μ=some (.bl false,μ):=rfl
 have t2:zhd "str" (.int a) μ=some (.bl false,μ):=rfl
 have t3:zhd "bool" (.int a) μ=some (.bl false,μ):=rfl
 have t4:zhd "int" (.int a) μ=some (.bl true,μ):=rfl
 simp [z3n,z1r,z33,t0,t1,t2,t3,t4,zes,fEq,zba,zs6]
theorem zew {μ:M} {x:Str} {n:Nat} (so:PyData.strOk x=true):z3n (n+1) [.str x,.str x] μ=some (.bl true,μ):=by
 have t0:zs8 (.str x) .non μ=some (.bl false,μ):=rfl
 have t1:ze7 ["list", "tuple"] (.str x) μ=some (.bl false,μ):=rfl
 have t2:zhd "str" (.str x) μ=some (.bl true,μ):=rfl
 have e:eqD (.str x) (.str x) μ=some true:=by
  show (if (PyData.strOk x&&PyData.strOk x)=true then some (decide (x=x)) else none)=_
  rw [so];simp
 simp [z3n,z1r,z33,t0,t1,t2,zes,fEq,e]
noncomputable def zy0 (o:Option (Option Int)):D:=match o with
 | some (some t)=>.tup [.str "one",.int t]
 | some none=>.tup [.str "none"]
 | none=>.tup [.str "open"]
theorem zbq {μ:M} {o:Option (Option Int)} {n:Nat}:z3n (n+2) [zvk o,zy0 o] μ=some (.bl true,μ):=by
 have s1:PyData.strOk (Str.ofString "one")=true:=by decide +kernel
 have s2:PyData.strOk (Str.ofString "none")=true:=by decide +kernel
 have s3:PyData.strOk (Str.ofString "open")=true:=by decide +kernel
 have one:∀ (x:Str) (p q:D) (i:Nat),PyData.strOk x=true→[D.str x][i]?=some p→[D.str x][i]?=some q→z3n (n+1) [p,q] μ=some (.bl true,μ):=fun x p q i so hp hq=>by
  cases i with
  | zero=>cases hp;cases hq;exact zew so
  | succ i=>simp at hp
 match o with
 | some (some t) =>
  refine zam (x:=.tup [.str "one",.int t]) (y:=.tup [.str "one",.int t]) rfl rfl rfl rfl rfl rfl rfl (by simp [zen]) fun i p q hp hq=>?_
  match i with
  | 0=>cases hp;cases hq;exact zew s1
  | 1=>cases hp;cases hq;exact zmk
  | i+2=>simp at hp
 | some none=>exact zam (x:=.tup [.str "none"]) (y:=.tup [.str "none"]) rfl rfl rfl rfl rfl rfl rfl (by decide) fun i p q hp hq=>one _ p q i s2 hp hq
 | none=>exact zam (x:=.gt [.str "open"]) (y:=.tup [.str "open"]) rfl rfl rfl rfl rfl rfl rfl (by decide) fun i p q hp hq=>one _ p q i s3 hp hq
end Law
namespace Law
open PySem L2 L3
noncomputable abbrev zm9:EV:=z10 ["i", "j", "alike"] [("sorts",3)] (ivL (z01 1)) (z21 3 (z0a (z00 0) (z0a (z00 1) (z0a (z00 2) z23)))) (vT (v2 fNe (z01 2) (v2 fEq (v2 fIx (z01 3) (z01 0)) (v2 fIx (z01 3) (z01 1))))) (vC (.int 1))
noncomputable abbrev zkd:SV:=(z0u (z0z zm9 (z00 4))
   (sIf (vT (v2 fEq (z01 4) (vL z2m z0e)))
    (z2j (v2l z6v (z01 2) (z01 3)))
    sNx))
noncomputable def z2e (s:List Int) (as:List An):List D:=(as.filter fun a=>!(a.2.2==decide (s.getD a.1 0=s.getD a.2.1 0))).map fun _=>D.int 1
theorem wrongs_nil {s:List Int} {as:List An}:z2e s as=[]↔zcg s as=true:=by
 unfold z2e zcg
 rw [List.map_eq_nil_iff,List.filter_eq_nil_iff,List.all_eq_true]
 constructor
 ·intro h a ha
  have:=h a ha
  cases q:a.2.2 <;> cases p:decide (s.getD a.1 0=s.getD a.2.1 0) <;> simp_all
 ·intro h a ha
  have:=h a ha
  cases q:a.2.2 <;> cases p:decide (s.getD a.1 0=s.getD a.2.1 0) <;> simp_all
theorem zii {n r:Nat} {d:D} {as:List An} {s:List Int} {o:Option D} {μ:M} (hL:Ls μ d (as.map dA)) (hv:InN n as) (hla:as.length≤1000) (hsl:s.length=n) :
  zm9 [some (.int (n:Int)),some d,some (.ref r),some (dI s),o] μ=some (.lst (z2e s as),μ):=by
 obtain ⟨c2,hi,hc2,_⟩:=hL.iv (Γ:=[some (.int (n:Int)),some d,some (.ref r),some (dI s),o]) (i:=1) rfl
 have ix:∀ x:Nat,x<s.length→fIx (dI s) (.int (x:Int)) μ=some (.int (s.getD x 0),μ):=fun x hx=>by
  simp only [fIx,dI,z3s]
  rw [z6e (j:=x) (v:=.int (s.getD x 0)) (by rw [List.getElem?_map,List.getD_eq_getElem?_getD];simp [List.getElem?_eq_getElem hx])]
  rfl
 unfold zm9
 rw [z63,hi,z8d,if_pos (by simp;omega)]
 have ec:z50 (["i", "j", "alike"]:List Str) [("sorts",3)] [some (.int (n:Int)),some d,some (.ref r),some (dI s),o]=[none,none,none,some (dI s)]:=rfl
 rw [ec,z29 (dn:=dA) (keep:=fun a=>!(a.2.2==decide (s.getD a.1 0=s.getD a.2.1 0))) (val:=fun _=>D.int 1) (fun Γ=>∃ o1 o2 o3,Γ=[o1,o2,o3,some (dI s)]) hc2 as _ ⟨_,_,_,rfl⟩ ?_]
 ·rfl
 ·rintro a ha Γ ⟨o1,o2,o3,rfl⟩
  obtain ⟨q1,q2⟩:=hv a ha
  refine ⟨[some (.int (a.1:Int)),some (.int (a.2.1:Int)),some (.bl a.2.2),some (dI s)],rfl,?_,fun _=>rfl,_,_,_,rfl⟩
  rw [zbn,e_2 (x:=.bl a.2.2) (μ1:=μ) (y:=.bl (decide (s.getD a.1 0=s.getD a.2.1 0))) (μ2:=μ) rfl (by
   rw [e_2 (x:=.int (s.getD a.1 0)) (μ1:=μ) (y:=.int (s.getD a.2.1 0)) (μ2:=μ) (by rw [e_2 (x:=dI s) (μ1:=μ) (y:=.int (a.1:Int)) (μ2:=μ) rfl rfl];exact ix _ (by omega)) (by rw [e_2 (x:=dI s) (μ1:=μ) (y:=.int (a.2.1:Int)) (μ2:=μ) rfl rfl];exact ix _ (by omega))]
   simp only [fEq,zba,bs])]
  simp only [fNe,zks,bs]
  cases a.2.2 <;> cases decide (s.getD a.1 0=s.getD a.2.1 0) <;> rfl
theorem zb6 {r n:Nat} {d:D} {as:List An} {c:Ck} (hv:InN n as) (hla:as.length≤1000):∀ (ss:List (List Int)) (o p:Option D) (done:List (List Int)) (μ:M),μ[r]?=some (some (.lst (done.map dI)))→(∀ μ',On r μ μ'→Ls μ' d (as.map dA))→(∀ μ',On r μ μ'→z2k c μ')→(∀ s∈ss,s.length=n)→done.length+ss.length≤100000 →
  ∃ o' p' μ',z4d c (z00 3) zkd (ss.map dI) [some (.int (n:Int)),some d,some (.ref r),o,p] μ=some (.nx,[some (.int (n:Int)),some d,some (.ref r),o',p'],μ')∧μ'[r]?=some (some (.lst ((done++ss.filter fun s=>zcg s as).map dI)))∧On r μ μ'
 | [],o,p,done,μ,h,_,_,_,_=>⟨o,p,μ,rfl,by simpa using h,.refl⟩
 | s::ss,o,p,done,μ,h,hL,hck,hlen,hl=>by
  simp at hl
  have hsl:=hlen s (by simp)
  have hw:z0z zm9 (z00 4) [some (.int (n:Int)),some d,some (.ref r),some (dI s),p] μ=some (.nx,[some (.int (n:Int)),some d,some (.ref r),some (dI s),some (.lst (z2e s as))],μ):=by
   rw [z6m,zii (hL μ .refl) hv hla hsl]
   rfl
  have ht:vT (v2 fEq (z01 4) (vL z2m z0e)) [some (.int (n:Int)),some d,some (.ref r),some (dI s),some (.lst (z2e s as))] μ=some (decide (z2e s as=[]),μ):=by
   rw [zbn,e_2 (x:=.lst (z2e s as)) (μ1:=μ) (y:=.lst []) (μ2:=μ) rfl rfl]
   have e1:z2e s as=((as.filter fun a=>!(a.2.2==decide (s.getD a.1 0=s.getD a.2.1 0))).map fun _=>(1:Int)).map D.int:=by unfold z2e;rw [List.map_map];rfl
   have e2:eqD (.lst (z2e s as)) (.lst []) μ=some (decide (((as.filter fun a=>!(a.2.2==decide (s.getD a.1 0=s.getD a.2.1 0))).map fun _=>(1:Int))=[])):=by
    rw [e1]
    exact zkr (ms:=[]) .lst .lst
   have e3:decide (z2e s as=[])=decide (((as.filter fun a=>!(a.2.2==decide (s.getD a.1 0=s.getD a.2.1 0))).map fun _=>(1:Int))=[]):=by
    rw [e1,decide_eq_decide,List.map_eq_nil_iff]
   unfold fEq
   rw [e2,e3]
   rfl
  have hg:z00 3 (dI s) [some (.int (n:Int)),some d,some (.ref r),o,p] μ=some ([some (.int (n:Int)),some d,some (.ref r),some (dI s),p],μ):=rfl
  cases hb:zcg s as with
  | true =>
   have hz:=wrongs_nil.mpr hb
   rw [decide_eq_true hz] at ht
   obtain ⟨μ1,e1,h1,o1⟩:=zfv (y:=dI s) h (by simp;omega)
   obtain ⟨o',p',μ2,e2,h2,o2⟩:=zb6 (r:=r) (d:=d) (c:=c) hv hla ss (some (dI s)) (some (.lst (z2e s as))) (done++[s]) μ1 (by rw [h1];simp) (fun μ' ho=>hL μ' (o1.trans ho)) (fun μ' ho=>hck μ' (o1.trans ho)) (fun x hx=>hlen x (by simp [hx])) (by simp;omega)
   refine ⟨o',p',μ2,?_,by rw [h2,List.filter_cons,if_pos hb];simp,o1.trans o2⟩
   have hbd:zkd [some (.int (n:Int)),some d,some (.ref r),some (dI s),p] μ=some (.nx,[some (.int (n:Int)),some d,some (.ref r),some (dI s),some (.lst (z2e s as))],μ1):=by
    unfold zkd
    rw [z0t,hw,z1j,z37,ht]
    show z2j _ _ μ=_
    rw [z38]
    unfold v2l
    have hv2:z01 2 [some (.int (n:Int)),some d,some (.ref r),some (dI s),some (.lst (z2e s as))] μ=some (.ref r,μ):=rfl
    rw [hv2,bs]
    show kEx _ ((z3s μ (.ref r)).bind _)=_
    rw [z20 h,bs]
    show kEx _ (z6v (.ref r) (dI s) μ)=_
    rw [e1]
    rfl
   rw [List.map_cons]
   simp only [z4d,hg,bs,hbd]
   rw [z1p (hck _ o1)]
   exact e2
  | false =>
   have hz:¬ z2e s as=[]:=fun z=>by rw [wrongs_nil.mp z] at hb;cases hb
   rw [decide_eq_false hz] at ht
   obtain ⟨o',p',μ2,e2,h2,o2⟩:=zb6 (r:=r) (d:=d) (c:=c) hv hla ss (some (dI s)) (some (.lst (z2e s as))) done μ h hL hck (fun x hx=>hlen x (by simp [hx])) (by omega)
   refine ⟨o',p',μ2,?_,by rw [h2,List.filter_cons,if_neg (by simp [hb])],o2⟩
   have hbd:zkd [some (.int (n:Int)),some d,some (.ref r),some (dI s),p] μ=some (.nx,[some (.int (n:Int)),some d,some (.ref r),some (dI s),some (.lst (z2e s as))],μ):=by
    unfold zkd
    rw [z0t,hw,z1j,z37,ht]
    rfl
   rw [List.map_cons]
   simp only [z4d,hg,bs,hbd]
   rw [z1p (hck _ .refl)]
   exact e2
theorem zmn {n k:Nat} {d:D} {as:List An} {μ:M} (hn:n≤7) (hk0:n<k) (hL:Ls μ d (as.map dA)) (hv:InN n as) (hla:as.length≤1000):∃ r μ',z1t (z1b k) [.int (n:Int),d] μ=some (.ref r,μ')∧μ'[r]?=some (some (.lst ((z5l n as).map dI)))∧Gr μ μ':=by
 obtain ⟨f,μ1,e1,hf,g1,hk⟩:=za2 n k (μ++[some (O.lst [])]) hn hk0
 have g0:Gr μ (μ++[some (O.lst [])]):=z32
 have g01:=g0.trans g1
 have hr:μ1[μ.length]?=some (some (.lst ([].map dI))):=g1.get (by simp)
 have hf':Ls μ1 f (((Sx n n).map (·.1)).map dI):=by
  have:((Sx n n).map (·.1)).map dI=(Sx n n).map dS:=by simp [dS,Function.comp_def]
  rw [this];exact hf
 obtain ⟨_,c,h2,h3,_⟩:=id hf'
 have hckk:∀ μ',On μ.length μ1 μ'→z2k c μ':=by
  intro μ' ho
  rcases z14 hf' with ⟨k,rfl,hkk⟩ | rfl | rfl
  ·rw [z5t hkk] at h2
   cases h2
   have:=hk k rfl
   simp at this
   show μ'[k]?=_
   rw [ho.at_ k (by omega)]
   exact hkk
  ·cases h2;trivial
  ·cases h2;trivial
 have hLL:∀ μ',On μ.length μ1 μ'→Ls μ' d (as.map dA):=fun μ' ho=>(hL.gr g01).on (fun k hd=>by
  rcases z14 hL with ⟨k',e,hk'⟩ | e | e
  ·rw [e] at hd;cases hd
   have:=(List.getElem?_eq_some_iff.mp hk').1
   omega
  ·rw [e] at hd;cases hd
  ·rw [e] at hd;cases hd) ho
 have hfew:=zd2 hn n
 obtain ⟨o',p',μ2,e2,hr2,o2⟩:=zb6 (r:=μ.length) (d:=d) (c:=c) hv hla ((Sx n n).map (·.1)) none none [] μ1 hr hLL hckk (fun s hs=>zfx hs) (by simp;omega)
 refine ⟨μ.length,μ2,?_,by rw [hr2];rfl,On.gr g01 o2 (Nat.le_refl _)⟩
 unfold z1t z6x
 rw [z1x,if_pos (show [D.int (n:Int),d].length=2 from rfl)]
 show z9v (z0u _ _ [some (.int (n:Int)),some d,none,none,none] μ)=_
 have s1:z0z (vL z8j z0e) (z00 2) [some (.int (n:Int)),some d,none,none,none] μ=some (.nx,[some (.int (n:Int)),some d,some (.ref μ.length),none,none],μ++[some (O.lst [])]):=rfl
 have hi:ivL (vL (z1b k) (z04 (z01 0) z0e)) [some (.int (n:Int)),some d,some (.ref μ.length),none,none] (μ++[some (O.lst [])])=some ((((Sx n n).map (·.1)).map dI,c),μ1):=by
  have:vL (z1b k) (z04 (z01 0) z0e) [some (.int (n:Int)),some d,some (.ref μ.length),none,none] (μ++[some (O.lst [])])=some (f,μ1):=e1
  unfold ivL
  rw [this,bs]
  show (lsC μ1 f).bind _=_
  rw [h2]
  rfl
 rw [z0t,s1,z1j,z0t,z2y,hi,z4n,e2]
 rfl
theorem z8f {c:Ck}:∀ (ss:List (List Int)) (o:Option D) (μ:M),(∀ μ',Gr μ μ'→z2k c μ')→(∀ s∈ss,s.length≤400) →
  ∃ (zs:List (D×List Int)) (μ':M),z1m c (z00 0) z2c (vL znd (z04 (z01 0) z0e)) (ss.map dI) [o] μ=some (zs.map (·.1),μ')∧zs.map (·.2)=ss∧(∀ z∈zs,Ls μ' z.1 ((z15 z.2).map D.int))∧Gr μ μ'
 | [],o,μ,_,_=>⟨[],μ,rfl,rfl,fun z h=>by simp at h,.refl⟩
 | s::ss,o,μ,hc,hs=>by
  obtain ⟨d,μ1,e1,h1,g1⟩:=zim (s:=s) (μ:=μ) (hs s (by simp))
  obtain ⟨zs,μ2,e2,h2,h3,g2⟩:=z8f (c:=c) ss (some (dI s)) μ1 (fun μ' g=>hc μ' (g1.trans g)) fun x hx=>hs x (by simp [hx])
  refine ⟨(d,s)::zs,μ2,?_,by simp [h2],?_,g1.trans g2⟩
  ·have hg:z00 0 (dI s) [o] μ=some ([some (dI s)],μ):=rfl
   have ht:z2c [some (dI s)] μ=some (true,μ):=rfl
   have hv:vL znd (z04 (z01 0) z0e) [some (dI s)] μ=some (d,μ1):=e1
   rw [List.map_cons]
   simp only [z1m,hg,bs,ht,if_true,hv]
   rw [z1p (hc _ g1),e2]
   rfl
  ·intro z hz
   rcases List.mem_cons.mp hz with rfl | hz
   ·exact h1.gr g2
   ·exact h3 z hz
theorem zgk {μ:M} {d:D} {ns:List Int} {t:Int} (h:Ls μ d (ns.map D.int)):fIn true (.int t) d μ=some (.bl (!decide (t∈ns)),μ):=by
 have hs:zq4 μ d=some (ns.map D.int):=by
  rcases z14 h with ⟨k,rfl,hk⟩ | rfl | rfl
  ·simp [zq4,z20 hk]
  ·rfl
  ·rfl
 have ho:∀ l:List Int,z0s flV (l.map D.int)=some (l.map V.int):=fun l=>by
  induction l with
  | nil=>rfl
  | cons a r ih=>simp [z0s,flV,ih]
 have hi:∀ l:List Int,inV (V.int t) (l.map V.int)=decide (t∈l):=fun l=>by
  induction l with
  | nil=>rfl
  | cons a r ih =>
   have e:eqV (V.int a) (V.int t)=decide (t=a):=by
    show decide (a=t)=_
    simp [eq_comm]
   simp [inV] at ih ⊢
   rw [e,ih]
 simp [fIn,flV,hs,ho,hi]
theorem Ls.pyN {μ:M} {d:D} {ns:List Int} {n:Nat} (h:Ls μ d (ns.map D.int)):py (n+2) μ d=some (Enc.p ns):=by
 have e:ns.map D.int=ns.map Enc.d:=rfl
 have:=z6z (α:=Int) (μ:=μ) (n:=n+1) (by show 0<n+1;omega) ns
 rcases z14 h with ⟨k,rfl,hk⟩ | rfl | rfl
 ·rw [zja hk,e,this];rfl
 ·rw [zf0,e,this];rfl
 ·rw [zj9,e,this];rfl
theorem pys {μ:M}:∀ {xs:List D},(∀ x∈xs,∃ ns:List Int,Ls μ x (ns.map D.int))→∃ nss:List (List Int),z0s (py 64 μ) xs=some (nss.map Enc.p)∧nss.length=xs.length
 | [],_=>⟨[],rfl,rfl⟩
 | x::xs,h=>by
  obtain ⟨ns,h1⟩:=h x (by simp)
  obtain ⟨nss,h2,h3⟩:=pys (xs:=xs) fun y hy=>h y (by simp [hy])
  refine ⟨ns::nss,?_,by simp [h3]⟩
  simp only [z0s,h1.pyN (n:=62),h2,Option.bind_some,List.map_cons]
theorem zvd {μ:M} {xs:List D} (h:∀ x∈xs,∃ ns:List Int,Ls μ x (ns.map D.int)):eqD (.lst xs) (.lst []) μ=some (decide (xs=[])):=by
 obtain ⟨nss,h1,h2⟩:=pys h
 have a1:Rds μ (.lst xs) (List (List Int)) nss:=by
  unfold Rds
  rw [zf0,h1];rfl
 have a2:Rds μ (.lst []) (List (List Int)) []:=zqb (α:=List (List Int)) (by decide) []
 rw [zea (α:=List (List Int)) (by decide) a1 a2 rfl rfl]
 congr 1
 rw [decide_eq_decide]
 constructor
 ·rintro rfl;exact List.length_eq_zero_iff.mp h2.symm
 ·rintro rfl;exact List.length_eq_zero_iff.mp h2
noncomputable def zo0 (n:Nat) (ss:List (List Int)):List Nat:=(List.range n).filter fun t=>ss.all fun s=>decide ((t:Int)∈z15 s)
theorem z4p {α β:Type} {f:α→β} {p:α→Bool} {q:β→Bool}:∀ l:List α,(∀ a∈l,q (f a)=true→p a=true)→((l.filter p).map f).find? q=((l.filter fun a=>q (f a)).head?).map f
 | [],_=>rfl
 | a::l,h=>by
  have ih:=z4p (f:=f) (p:=p) (q:=q) l fun x hx=>h x (by simp [hx])
  by_cases hq:q (f a)=true
  ·have hp:=h a (by simp) hq
   simp [List.filter_cons,hp,hq]
  ·by_cases hp:p a=true
   ·simp [List.filter_cons,hp,hq,ih]
   ·simp [List.filter_cons,hp,hq,ih]
theorem zrr {n:Nat} (hn:n≤7) {ss:List (List Int)} (h0:ss≠[]) (hs:∀ s∈ss,s∈(Sx n n).map (·.1)):zpi ss=match zo0 n ss with
  | t::_=>some (some (t:Int))
  | []=>if ss.all (fun s=>decide (z15 s=[]))=true then some none else none:=by
 obtain ⟨s0,r,rfl⟩:=List.exists_cons_of_ne_nil h0
 have hE_none:∀ s,(none∈hE s)↔z15 s=[]:=fun s=>by
  unfold hE;by_cases h:z15 s=[] <;> simp [h]
 have hE_some:∀ s (t:Int),(some t∈hE s)↔t∈z15 s:=fun s t=>by
  unfold hE
  by_cases h:z15 s=[]
  ·simp [h]
  ·simp [h]
 have hall:∀ t:Nat,((s0::r).all fun s=>decide (some (t:Int)∈hE s))=((s0::r).all fun s=>decide ((t:Int)∈z15 s)):=fun t=>by
  congr 1;funext s;rw [decide_eq_decide];exact hE_some s t
 unfold zpi
 show (hE s0).find? _=_
 by_cases hm:z15 s0=[]
 ·have hc:zo0 n (s0::r)=[]:=by
   unfold zo0
   rw [List.filter_eq_nil_iff]
   intro t _ h
   rw [List.all_eq_true] at h
   have:=h s0 (by simp)
   rw [hm] at this
   simp at this
  rw [hc]
  have e1:hE s0=[none]:=by unfold hE;rw [if_pos hm]
  have e2:((s0::r).all fun s=>decide (none∈hE s))=((s0::r).all fun s=>decide (z15 s=[])):=by
   congr 1;funext s;rw [decide_eq_decide];exact hE_none s
  rw [e1,List.find?_cons,e2]
  cases (s0::r).all fun s=>decide (z15 s=[]) <;> rfl
 ·have e1:hE s0=((List.range n).filter fun t:Nat=>decide ((t:Int)∈z15 s0)).map fun t:Nat=>some (t:Int):=by
   unfold hE
   rw [if_neg hm]
   conv=>lhs;rw [zfd hn (hs s0 (by simp))]
   rw [List.map_map]
   rfl
  rw [e1,z4p]
  ·have e2:((List.range n).filter fun a:Nat=>(s0::r).all fun s=>decide (some (a:Int)∈hE s))=zo0 n (s0::r):=by
    unfold zo0;congr 1;funext t;exact hall t
   rw [e2]
   cases hcm:zo0 n (s0::r) with
   | cons t l=>rfl
   | nil =>
    have:((s0::r).all fun s=>decide (z15 s=[]))=false:=by
     rw [List.all_cons,decide_eq_false hm];rfl
    rw [this];rfl
  ·intro a _ h
   rw [hall a,List.all_eq_true] at h
   exact h s0 (by simp)
local macro_rules | `(tactic| simp_arith)=>`(tactic| simp only [z4y,z93,zli,z91,z55,zlh,z7p,z7o,z92,z56,zlg,zhs,zhr,z7n,z4h,w_c,z48,z52,w_T,z94,z95,zlj,w_Yes,z53,z90,zh7,zh6,zh8,z49,z54,z3k,q1_,q2_,zdk,qL_,qc_,zj5,qT_,z59,z9e,z5d,z5e,z9c,z9d,z9f,z9g,z99,z98,zhc,zhb,zha,zh9,zlk,z2l,z5a,z5c,z5b,zlm,zll,z9a,z9b,zj8,zj6,zdj,z30,z3l,z3m,wp_some,ws_some,List.set_cons_zero,List.set_cons_succ,z5f,z9h,zlq,zlo,zlr,zlp,zls,z9k,z9l,z9j,z9i,z5g])
local macro_rules | `(tactic| simp_arith [$ts,*])=>`(tactic| simp only [$ts,*,z4y,z93,zli,z91,z55,zlh,z7p,z7o,z92,z56,zlg,zhs,zhr,z7n,z4h,w_c,z48,z52,w_T,z94,z95,zlj,w_Yes,z53,z90,zh7,zh6,zh8,z49,z54,z3k,q1_,q2_,zdk,qL_,qc_,zj5,qT_,z59,z9e,z5d,z5e,z9c,z9d,z9f,z9g,z99,z98,zhc,zhb,zha,zh9,zlk,z2l,z5a,z5c,z5b,zlm,zll,z9a,z9b,zj8,zj6,zdj,z30,z3l,z3m,wp_some,ws_some,List.set_cons_zero,List.set_cons_succ,z5f,z9h,zlq,zlo,zlr,zlp,zls,z9k,z9l,z9j,z9i,z5g])
theorem zu3 {d:D} {ds:List D} {μ:M}:fIx (.lst (d::ds)) (.int 0) μ=some (d,μ):=by
 rw [zb7,show (0:Int)=((0:Nat):Int) from rfl,z6e (j:=0) (v:=d) rfl];rfl
theorem zkk {μ:M} {xs:List D} (h:∀ x∈xs,∃ ns:List Int,Ls μ x (ns.map D.int)):fEq (.lst xs) (.lst []) μ=some (.bl (decide (xs=[])),μ):=by
 unfold fEq;rw [zvd h];rfl
theorem zce {μ:M} {x:D} {ns:List Int} (h:Ls μ x (ns.map D.int)):fNe x (.lst []) μ=some (.bl (!decide (ns=[])),μ):=by
 unfold fNe
 have:eqD x (.lst []) μ=some (decide (ns=[])):=zkr (ms:=[]) h .lst
 rw [this];rfl
theorem z8r {α:Type} {c:Ck} {g:GV} {tc:BV} {te:EV} {dn:α→D} {keep:α→Bool} {val:α→D} (Pv:G→Prop) {μ:M} {Γ:G} (hc:z2k c μ) (l:List α) (h0:Pv Γ)
  (hs:∀ a∈l,∀ Γ,Pv Γ→Wp (g (dn a) Γ μ) fun Γ1 μ1=>μ1=μ∧Pv Γ1∧Wp (tc Γ1 μ) fun b μ2=>b=keep a∧μ2=μ∧(keep a=true→Wp (te Γ1 μ) fun x μ3=>x=val a∧μ3=μ)) {R:List D→M→Prop} (hR:R ((l.filter keep).map val) μ):Wp (z1m c g tc te (l.map dn) Γ μ) R:=by
 refine comp_inv (fun done r Γ μ'=>∃ i,i≤l.length∧μ'=μ∧Pv Γ∧r=(l.drop i).map dn∧done=((l.take i).filter keep).map val) _ ⟨0,by omega,rfl,h0,rfl,rfl⟩ ?_ ?_
 ·rintro done d r Γ μ' ⟨i,hi,rfl,hp,e,rfl⟩
  have hi':i<l.length:=by
   rcases Nat.lt_or_ge i l.length with z | z
   ·exact z
   ·rw [List.drop_eq_nil_of_le z] at e;cases e
  rw [List.drop_eq_getElem_cons hi',List.map_cons] at e
  cases e
  have ht:l.take (i+1)=l.take i++[l[i]]:=by rw [List.take_append_getElem hi']
  refine (hs l[i] (List.getElem_mem hi') Γ hp).imp fun Γ1 μ1 ⟨e,hp1,h⟩=>?_
  subst e
  refine h.imp fun b μ2 ⟨e1,e2,h⟩=>?_
  subst e1;subst e2
  cases hk:keep l[i] with
  | true =>
   show Wp _ _
   refine (h hk).imp fun x μ3 ⟨e1,e2⟩=>?_
   subst e1;subst e2
   refine ⟨hc,i+1,hi',rfl,hp1,rfl,?_⟩
   rw [ht,List.filter_append,List.map_append]
   simp [hk]
  | false =>
   show z2k c _∧_
   refine ⟨hc,i+1,hi',rfl,hp1,rfl,?_⟩
   rw [ht,List.filter_append,List.map_append]
   simp [hk]
 ·rintro done Γ μ' ⟨i,hi,rfl,_,e,rfl⟩
  have:l.length≤i:=by
   have:=congrArg List.length e
   simp at this
   omega
  rw [List.take_of_length_le this]
  exact hR
theorem zmo {n k:Nat} {d:D} {as:List An} {μ:M} (hn:n≤7) (hk:n<k) (hL:Ls μ d (as.map dA)) (hv:InN n as) (hla:as.length≤1000) (hf:z5l n as≠[]) :
  Wp (z2v (z1t (z1b k)) znd [.int (n:Int),d] μ) fun x μ'=>x=zy0 (zpi (z5l n as))∧Gr μ μ':=by
 obtain ⟨r,μ1,e1,hr,g1⟩:=zmn hn hk hL hv hla
 unfold z2v z6y
 refine (z7m rfl).mpr ?_
 show Ws (z0u _ _ [some (.int (n:Int)),some d,none,none] μ) _
 have hfl:=zfm (as:=as) hn
 simp_arith
 refine zpw e1 ?_
 rw [zqe hr,zj7]
 refine ⟨by simp;omega,?_⟩
 obtain ⟨zs,μ2,e2,hz,hzL,g2⟩:=z8f (c:=some (r,(z5l n as).map dI)) (z5l n as) none μ1 (fun μ' g=>g.get hr) fun s hs=>by have:=zfx (zb5 hs);omega
 refine zpw e2 ?_
 have g12:=g1.trans g2
 have hzl:zs.length≤1000:=by have:=congrArg List.length hz;simp at this;omega
 simp_arith
 rw [z7z (by omega),zj7]
 refine ⟨by simp [z2z];omega,?_⟩
 have hrng:z2z 0 n=(List.range n).map fun k:Nat=>D.int (k:Int):=by simp [z2z]
 rw [hrng]
 refine z8r (α:=Nat) (fun Γ=>∃ o,Γ=[o,some (.lst (zs.map (·.1)))]) (c:=none) trivial (List.range n) ⟨_,rfl⟩ (keep:=fun t:Nat=>(z5l n as).all fun s=>decide ((t:Int)∈z15 s)) (val:=fun t:Nat=>D.int (t:Int)) ?_ ?_
 ·rintro t ht Γ ⟨o,rfl⟩
  simp_arith
  refine ⟨trivial,⟨_,rfl⟩,?_⟩
  rw [zj7]
  refine ⟨by simp;omega,?_⟩
  refine z8r (dn:=fun z:D×List Int=>z.1) (fun Γ=>∃ o,Γ=[o,some (.int (t:Int))]) (c:=none) trivial zs ⟨_,rfl⟩ (keep:=fun z=>!decide ((t:Int)∈z15 z.2)) (val:=fun z=>z.1) ?_ ?_
  ·rintro z hz Γ ⟨o,rfl⟩
   simp_arith [zgk (hzL z hz)]
   exact ⟨trivial,⟨_,rfl⟩,by simp⟩
  ·simp_arith [z6n (ds:=[]) (by simp)]
   rw [zkk fun x hx=>by
    obtain ⟨z,hz,rfl⟩:=List.mem_map.mp hx
    exact ⟨_,hzL z (List.mem_filter.mp hz).1⟩]
   simp_arith
   refine ⟨?_,trivial,fun _=>⟨trivial,trivial⟩⟩
   rw [← hz]
   rw [Bool.eq_iff_iff]
   simp only [decide_eq_true_eq,List.map_eq_nil_iff,List.filter_eq_nil_iff,List.all_eq_true,List.mem_map,Bool.not_eq_true',decide_eq_false_iff_not,Classical.not_not]
   constructor
   ·rintro h s ⟨z,hz,rfl⟩;exact h z hz
   ·intro h z hz;exact h _ ⟨z,hz,rfl⟩
 ·have hval:((List.range n).filter fun t:Nat=>(z5l n as).all fun s=>decide ((t:Int)∈z15 s)).map (fun t:Nat=>D.int (t:Int))=((zo0 n (z5l n as)).map fun t:Nat=>(t:Int)).map D.int:=by
   unfold zo0;rw [List.map_map];rfl
  rw [hval]
  have hE:=zrr hn hf fun s hs=>zb5 hs
  simp_arith [z6n (ds:=[]) (by simp)]
  rw [zce (μ:=μ2) .lst]
  simp_arith
  cases hc:zo0 n (z5l n as) with
  | cons t l =>
   rw [hc] at hE
   simp_arith [List.map_cons,reduceCtorEq,decide_false,Bool.not_false]
   rw [zu3]
   simp_arith
   rw [zdo (by simp)]
   simp_arith
   rw [hE]
   exact ⟨rfl,g12⟩
  | nil =>
   rw [hc] at hE
   simp_arith [List.map_nil,decide_true,Bool.not_true,zj7]
   refine ⟨by simp;omega,?_⟩
   refine z8r (dn:=fun z:D×List Int=>z.1) (fun Γ=>∃ o,Γ=[o]) (c:=none) trivial zs ⟨_,rfl⟩ (keep:=fun z=>!decide (z15 z.2=[])) (val:=fun z=>z.1) ?_ ?_
   ·rintro z hz Γ ⟨o,rfl⟩
    simp_arith [z6n (ds:=[]) (by simp)]
    refine ⟨trivial,⟨_,rfl⟩,?_⟩
    rw [zce (hzL z hz)]
    simp_arith
    exact ⟨trivial,trivial,fun _=>⟨trivial,trivial⟩⟩
   ·simp_arith [z6n (ds:=[]) (by simp)]
    rw [zkk fun x hx=>by
     obtain ⟨z,hz,rfl⟩:=List.mem_map.mp hx
     exact ⟨_,hzL z (List.mem_filter.mp hz).1⟩]
    have hb:decide ((zs.filter fun z=>!decide (z15 z.2=[])).map (fun z=>z.1)=[])=(z5l n as).all fun s=>decide (z15 s=[]):=by
     rw [← hz,Bool.eq_iff_iff]
     simp only [decide_eq_true_eq,List.map_eq_nil_iff,List.filter_eq_nil_iff,List.all_eq_true,List.mem_map,Bool.not_eq_true',decide_eq_false_iff_not,Classical.not_not]
     constructor
     ·rintro h s ⟨z,hz,rfl⟩;exact h z hz
     ·intro h z hz;exact h _ ⟨z,hz,rfl⟩
    simp_arith [hb]
    cases ha:(z5l n as).all fun s=>decide (z15 s=[]) with
    | true =>
     rw [ha] at hE
     simp_arith
     rw [zdo (by simp)]
     simp_arith
     rw [hE]
     exact ⟨rfl,g12⟩
    | false =>
     rw [ha] at hE
     simp_arith
     rw [zdo (by simp)]
     simp_arith
     rw [hE]
     exact ⟨rfl,g12⟩
def Pt (μ:M) (k:Nat):Prop:=∃ a b c:Int,μ[k]?=some (some (.lst [.int a,.int b,.int c]))
theorem Pt.kp {μ μ':M} {k j:Nat} (h:Pt μ k) (g:Kp j μ μ') (n:k≠j):Pt μ' k:=let ⟨a,b,c,e⟩:=h;⟨a,b,c,g.get e n⟩
theorem Pt.gr {μ μ':M} {k:Nat} (h:Pt μ k) (g:Gr μ μ'):Pt μ' k:=let ⟨a,b,c,e⟩:=h;⟨a,b,c,g.get e⟩
theorem Pt.lt {μ:M} {k:Nat} (h:Pt μ k):k<μ.length:=let ⟨a,b,c,e⟩:=h;(List.getElem?_eq_some_iff.mp e).1
theorem zq5 (c:Int) (μ:M):Wp (z1k [.int c] μ) fun d μ'=>d=.ref μ.length∧Pt μ' μ.length∧Gr μ μ':=by
 have hp:zrz 10 18:=⟨by decide,by decide,by decide⟩
 have hm:zg1 c 99999999977:=by unfold zg1;decide
 obtain ⟨r,hr⟩:∃ r,z1k [.int c] μ=r:=⟨_,rfl⟩
 have hr':=hr
 simp [z1k,z6w,hp,hm] at hr'
 subst hr'
 refine ⟨_,_,hr,rfl,⟨_,_,_,by simp;exact ⟨rfl,rfl,rfl⟩⟩,z32⟩
theorem z1a {μ:M} {k:Nat} {m:Int} (h:Pt μ k) (h0:0<m) (h1:m<2 ^ 200):Wp (z0g [.ref k,.int m] μ) fun d μ'=>∃ r:Nat,d=.int (r:Int)∧(r:Int)<m∧Pt μ' k∧Kp k μ μ':=by
 obtain ⟨a,b,c,hk⟩:=h
 have hq:∀ i:Int,zg1 i m:=fun _=>h0
 have hd:∀ i:Int,zd4 i m:=fun _=>⟨h0,h1⟩
 have nat:∀ i:Int,∃ r:Nat,i % m=(r:Int)∧(r:Int)<m:=fun i=>⟨(i % m).toNat,by have:=Int.emod_nonneg i (b:=m) (by omega);omega,by have:=Int.emod_nonneg i (b:=m) (by omega);have:=Int.emod_lt_of_pos i h0;omega⟩
 by_cases ha:0<a
 ·obtain ⟨r,e,l⟩:=nat a
  refine ⟨.int (a % m),μ.set k (some (.lst [.int (a / m),.int b,.int c])),?_,r,by rw [e],l,⟨_,_,_,z25 hk⟩,zp7⟩
  simp [z0g,z44,z8k hk,z4k hk,ha,hq,hd]
 ·have hk2:=z25 (y:=some (O.lst [.int a,.int b,.int (c+1)])) hk
  have c1:CMul 700001 (c+1):=.inl ⟨by decide,by decide⟩
  have p1:∀ i:Int,zg1 i 99999999947:=fun _=>by unfold zg1;decide
  have p2:∀ i:Int,zg1 i 99999999821:=fun _=>by unfold zg1;decide
  have p3:∀ i:Int,zg1 i 9999999967:=fun _=>by unfold zg1;decide
  have d13:∀ i:Int,zd4 i 13:=fun _=>by unfold zd4;decide
  have s1:∀ n:Int,CMul (n % 99999999947) (n % 99999999947):=fun n=>.inl ⟨by have:=Int.emod_nonneg n (b:=99999999947) (by decide);omega,by have:=Int.emod_lt_of_pos n (b:=99999999947) (by decide);omega⟩
  have s2:∀ n x:Int,CMul (n % 99999999821) x:=fun n x=>.inl ⟨by have:=Int.emod_nonneg n (b:=99999999821) (by decide);omega,by have:=Int.emod_lt_of_pos n (b:=99999999821) (by decide);omega⟩
  obtain ⟨r,hr⟩:∃ r,z0g [.ref k,.int m] μ=r:=⟨_,rfl⟩
  have hr':=hr
  simp [z0g,z44,z8k hk,z4k hk,ha,hq,hd,z8k hk2,c1,p1,p2,p3,d13,s1,s2] at hr'
  subst hr'
  refine ⟨_,_,hr,?_⟩
  obtain ⟨r,e,l⟩:=nat _
  exact ⟨r,congrArg D.int e,l,⟨_,_,_,hk2⟩,zp7⟩
theorem zkn {μ:M} {d:D} {ds:List D} (h:Ls μ d ds):z2b d μ=some (.int (ds.length:Int),μ):=by
 rcases z14 h with ⟨k,rfl,hk⟩ | rfl | rfl
 ·exact z4w hk
 ·rfl
 ·rfl
theorem zcj {μ:M} {d:D} {ds:List D} (h:Ls μ d ds):zck d μ=some (.ref μ.length,μ++[some (.lst ds)]):=by
 unfold zck zq4
 rw [h.1]
 rfl
theorem zgv {μ:M} {l r:Nat} {ds:List D} (h:μ[l]?=some (some (.lst ds))) (hr:r<ds.length) (hl:ds.length≤1000):zci (.ref l) (.int (r:Int)) μ=some (ds[r],μ.set l (some (.lst (ds.eraseIdx r)))):=by
 unfold zci
 simp only
 rw [z4k h,if_pos (by omega)]
 simp [List.getElem?_eq_getElem hr]
noncomputable abbrev zpc:List D→M→Option (D×M):=z3b z0g
theorem zbu {μ:M} {k:Nat} {d:D} {ds:List D} (h:Pt μ k) (hL:Ls μ d ds) (hl:ds.length≤1000):Wp (zpc [.ref k,d] μ) fun x μ'=>∃ es,x=.lst es∧es.length=ds.length∧(∀ y∈es,y∈ds)∧Pt μ' k∧Kp k μ μ':=by
 unfold zpc z3b z4r
 refine (z7m rfl).mpr ?_
 show Ws (z0u _ _ [some (.ref k),some d,none] μ) _
 have hkl:=h.lt
 have g0:Gr μ (μ++[some (O.lst ds)]):=z32
 simp_arith [zcj hL]
 rw [zkn (hL.gr g0)]
 simp_arith
 rw [z7z (by omega),zj7]
 refine ⟨by simp [z2z];omega,?_⟩
 show Wp (z1m none _ _ _ _ [none,some (.ref μ.length),some (.ref k)] _) _
 refine z6d (fun i done Γ μ'=>(∃ o,Γ=[o,some (.ref μ.length),some (.ref k)])∧done.length=i∧(∀ y∈done,y∈ds)∧Pt μ' k∧Kp k μ μ'∧∃ ls,μ'[μ.length]?=some (some (.lst ls))∧ls.length+i=ds.length∧∀ y∈ls,y∈ds) ?_ ?_ ?_
 ·exact ⟨⟨_,rfl⟩,rfl,(fun y hy=>by cases hy),h.gr g0,g0.kp,ds,by simp,rfl,fun y hy=>hy⟩
 ·rintro i done Γ μ1 hi ⟨⟨o,rfl⟩,hd,hm,hp,hk1,ls,hls,hn,hmm⟩
  simp_arith [zap hls,z4w hls]
  refine (z1a hp (m:=(ls.length:Int)) (by omega) (by omega)).imp ?_
  rintro _ μ2 ⟨r,rfl,hr,hp2,hk2⟩
  have hls2:=hk2.get hls (by omega)
  simp_arith [zgv hls2 (show r<ls.length by omega) (by omega)]
  refine ⟨⟨_,rfl⟩,by simp [hd],?_,?_,?_,ls.eraseIdx r,z25 hls2,by rw [List.length_eraseIdx,if_pos (by omega)];omega,fun y hy=>hmm y (List.mem_of_mem_eraseIdx hy)⟩
  ·intro y hy
   rcases List.mem_append.mp hy with hy | hy
   ·exact hm y hy
   ·rw [List.mem_singleton] at hy;subst hy
    exact hmm _ (List.getElem_mem _)
  ·obtain ⟨a,b,c,e⟩:=hp2
   exact ⟨a,b,c,by rw [z0v (by omega)];exact e⟩
  ·exact (hk1.trans hk2).setN (Nat.le_refl _)
 ·rintro done Γ μ1 ⟨_,hd,hm,hp,hk1,_⟩
  simp_arith
  exact ⟨done,rfl,hd,hm,hp,hk1⟩
theorem ixI {ns:List Int} {r:Nat} {μ:M} (hr:r<ns.length):∃ v∈ns,fIx (.lst (ns.map D.int)) (.int (r:Int)) μ=some (.int v,μ):=by
 refine ⟨ns[r],List.getElem_mem _,?_⟩
 rw [zb7,z6e (j:=r) (v:=.int ns[r]) (by simp [List.getElem?_eq_getElem hr])]
 rfl
theorem zdp {i j:Int} {μ:M} (h:-(2 ^ 64)<i∧i<2 ^ 64):z1n (.int i) (.int j) μ=some (.int (i*j),μ):=by
 show (if CMul i j then _ else _)=_
 rw [if_pos (.inl h)]
theorem zt0 {k:Nat} {ns:List Int} {μ:M} {R:D→M→Prop} (h:Pt μ k) (hn:0<ns.length) (hl:ns.length≤1000) (hR:∀ v μ',v∈ns→Pt μ' k→Kp k μ μ'→R (.int v) μ'):Wp (z0g [.ref k,.int (ns.length:Int)] μ) (q2b fIx (.lst (ns.map D.int)) R):=by
 refine (z1a h (by omega) (by omega)).imp ?_
 rintro _ μ' ⟨r,rfl,hr,hp,hk⟩
 obtain ⟨v,hv,e⟩:=ixI (ns:=ns) (r:=r) (μ:=μ') (by omega)
 rw [zdk,e,wp_some]
 exact hR v μ' hv hp hk
theorem z7x {k:Nat} {m:Int} {ds:List D} {ns:List Int} {μ:M} {R:D→M→Prop} (h:Pt μ k) (e:ds=ns.map D.int) (em:m=(ns.length:Int)) (hn:0<ns.length) (hl:ns.length≤1000) (hR:∀ v μ',v∈ns→Pt μ' k→Kp k μ μ'→R (.int v) μ'):Wp (z0g [.ref k,.int m] μ) (q2b fIx (.lst ds) R):=by
 subst e em
 exact zt0 h hn hl hR
noncomputable def dK7 (k n:Nat) (st bs:Int) (vs ns:List Int) (w:Int) (o8 o9:Option D):G:=[some (.ref k),some (.int 7),some (.int (n:Int)),some (.int st),some (.int bs),some (.lst (vs.map D.int)),some (.lst (ns.map D.int)),some (.int w),o8,o9]
def K7 (k n:Nat) (st bs:Int) (vs:List Int) (w:Int) (μ0:M):Out→G→M→Prop:=fun o Γ μ=>o=.nx∧∃ ns o8 o9,Γ=dK7 k n st bs vs ns w o8 o9∧ns.length≤7∧Pt μ k∧Kp k μ0 μ
section
variable {k n:Nat} {st bs w:Int} {vs ns:List Int} {o8 o9:Option D} {μ μ0:M}
theorem zcq {c:Nat} {o:Option D} {ns:List Int} {m:Nat} {R:List D→M→Prop} (hp:Pt μ k) (hn:0<ns.length) (hl:ns.length≤1000) (hR:∀ (es:List Int) μ',es.length=m→Pt μ' k→Kp k μ μ'→R (es.map D.int) μ') :
  Wp (z1m none (z00 0) z2c (v2 fIx (z01 1) (vL z0g (z04 (z01 2) (z04 (v1 z2b (z01 1)) z0e)))) (z2z 0 m) [o,some (.lst (ns.map D.int)),some (.ref k)] μ) R:=by
 refine z6d (fun i done Γ μ'=>(∃ o,Γ=[o,some (.lst (ns.map D.int)),some (.ref k)])∧(∃ es:List Int,done=es.map D.int∧es.length=i)∧Pt μ' k∧Kp k μ μ') ⟨⟨_,rfl⟩,⟨[],rfl,rfl⟩,hp,.refl⟩ ?_ ?_
 ·rintro i done Γ μ1 hi ⟨⟨o,rfl⟩,⟨es,rfl,he⟩,hp1,hk1⟩
  simp_arith [z3e]
  refine z7x hp1 rfl (by simp) hn hl fun v μ2 hv hp2 hk2=>?_
  exact ⟨⟨_,rfl⟩,⟨es++[v],by simp,by simp [he]⟩,hp2,hk1.trans hk2⟩
 ·rintro done Γ μ1 ⟨_,⟨es,rfl,he⟩,hp1,hk1⟩
  exact hR es μ1 he hp1 hk1
theorem zrc (hl:ns.length≤7) (hp:Pt μ k) (hk:Kp k μ0 μ):Ws (sIf (vT (v2 fEq (z01 7) (vC (.int 1)))) (z0z (v1 z8i (z01 6)) (z00 6)) sNx (dK7 k n st bs vs ns w o8 o9) μ) (K7 k n st bs vs w μ0):=by
 unfold dK7
 simp_arith [zge]
 refine ⟨fun _=>?_,fun _=>⟨rfl,ns,o8,o9,rfl,hl,hp,hk⟩⟩
 have e:z8i (.lst (ns.map D.int)) μ=some (.lst ((zmf ns).map D.int),μ):=by
  unfold z8i
  have:z0s inI (ns.map D.int)=some ns:=by
   have:=z2u (f:=inI) (g:=D.int) (h:=id) (l:=ns) (fun x _=>rfl)
   simpa using this
  show (z0s inI (ns.map D.int)).bind _=_
  rw [this]
  show (if ns.length<64 then _ else _)=_
  rw [if_pos (by omega)]
 rw [e]
 simp_arith
 exact ⟨rfl,zmf ns,o8,o9,rfl,by unfold zmf;rw [List.length_mergeSort];exact hl,hp,hk⟩
theorem zrb (hn:n≤7) (hv:0<vs.length) (hl:ns.length≤7) (hp:Pt μ k) (hk:Kp k μ0 μ):Ws (sIf (vT (v2 fEq (z01 7) (vC (.int 2)))) (z0z (z10 ["k"] [("values",5)] (ivR (z01 2)) (z00 0) z2c (v2 fIx (z01 1) (v2 zkl (z01 0) (v1 z2b (z01 1))))) (z00 6)) sNx (dK7 k n st bs vs ns w o8 o9) μ) (K7 k n st bs vs w μ0):=by
 unfold dK7
 simp_arith [zge]
 refine ⟨fun _=>?_,fun _=>⟨rfl,ns,o8,o9,rfl,hl,hp,hk⟩⟩
 rw [z7z (by omega),zj7]
 refine ⟨by simp [z2z];omega,?_⟩
 show Wp (z1m none _ _ _ _ [none,some (.lst (vs.map D.int))] _) _
 refine z6d (fun i done Γ μ'=>(∃ o,Γ=[o,some (.lst (vs.map D.int))])∧(∃ es:List Int,done=es.map D.int∧es.length=i)∧μ'=μ) ⟨⟨_,rfl⟩,⟨[],rfl,rfl⟩,rfl⟩ ?_ ?_
 ·rintro i done Γ μ1 hi ⟨⟨o,rfl⟩,⟨es,rfl,he⟩,rfl⟩
  simp_arith [z3e,List.length_map]
  rw [zu2 (by omega)]
  simp_arith
  have e:(i:Int) % (vs.length:Int)=((i % vs.length:Nat):Int):=by simp
  obtain ⟨v,hv',e2⟩:=ixI (ns:=vs) (r:=i % vs.length) (μ:=μ1) (Nat.mod_lt _ hv)
  rw [e,e2]
  simp_arith
  exact ⟨⟨_,rfl⟩,⟨es++[v],by simp,by simp [he]⟩,trivial⟩
 ·rintro done Γ μ1 ⟨_,⟨es,rfl,he⟩,rfl⟩
  simp_arith
  exact ⟨rfl,es,o8,o9,rfl,by omega,hp,hk⟩
theorem fCat_lst {xs ys:List D} (h:xs.length+ys.length≤1000000):z0w (.lst xs) (.lst ys) μ=some (.lst (xs++ys),μ):=by
 show zgy _ _ _=_
 unfold zgy
 show (if xs.length+ys.length≤1000000 then _ else _)=_
 rw [if_pos h]
theorem zed {α:Type} {f:α→D} {l:List α} {lo hi:Option Int}:∃ r:List α,znz (l.map f) lo hi=r.map f∧(∀ x∈r,x∈l)∧r.length≤l.length:=by
 refine ⟨(l.drop (HT.sIx l.length 0 lo)).take (HT.sIx l.length l.length hi - HT.sIx l.length 0 lo),?_,fun x hx=>List.mem_of_mem_drop (List.mem_of_mem_take hx),by rw [List.length_take,List.length_drop];omega⟩
 unfold znz
 rw [List.length_map,← List.map_drop,← List.map_take]
theorem zqa {a:Int} {m:Nat} (hm:m≤7):z1n (.lst [.int a]) (.int (m:Int)) μ=some (.lst ((List.replicate m a).map D.int),μ):=by
 have:m=0∨m=1∨m=2∨m=3∨m=4∨m=5∨m=6∨m=7:=by omega
 rcases this with rfl | rfl | rfl | rfl | rfl | rfl | rfl | rfl <;> rfl
theorem znl (hn:n≤7) (hv:0<vs.length) (hv2:vs.length≤300) (hl:ns.length≤7) (hp:Pt μ k) (hk:Kp k μ0 μ):Ws (sIf (vT (v2 fGt (z01 7) (vC (.int 2))))
   (z0u (z0z (v2 zkm (z01 2) (v2 z0w (v2 zs9 (z01 2) (vC (.int 2))) (vL z0g (z04 (z01 0) (z04 (vC (.int 3)) z0e))))) (z00 8))
   (z0u (z0z (v2 z0w (vSl (z01 5) (z6r (vC (.int 1))) z68) (vL z2m (z04 (v2 zd7 (z01 4) (z01 3)) z0e))) (z00 9))
   (z0z (v2 z0w (v2 z1n (vL z2m (z04 (v2 fIx (z01 5) (vC (.int 0))) z0e)) (z01 8)) (z10 ["k"] [("beside",9),("pot",0)] (ivR (v2 zd7 (z01 2) (z01 8))) (z00 0) z2c (v2 fIx (z01 1) (vL z0g (z04 (z01 2) (z04 (v1 z2b (z01 1)) z0e)))))) (z00 6))))
   sNx (dK7 k n st bs vs ns w o8 o9) μ) (K7 k n st bs vs w μ0):=by
 unfold dK7
 simp_arith [zge]
 refine ⟨fun _=>?_,fun _=>⟨rfl,ns,o8,o9,rfl,hl,hp,hk⟩⟩
 rw [zws (by decide) (by decide)]
 simp_arith
 refine (z1a hp (by decide) (by decide)).imp ?_
 rintro _ μ1 ⟨r,rfl,hr,hp1,hk1⟩
 simp_arith
 obtain ⟨h,eh,hh⟩:∃ h:Nat,(if (n:Int) / 2+(r:Int)<(n:Int) then (n:Int) / 2+(r:Int) else (n:Int))=(h:Int)∧h≤n:=by
  by_cases z:(n:Int) / 2+(r:Int)<(n:Int)
  ·exact ⟨n / 2+r,by rw [if_pos z];omega,by omega⟩
  ·exact ⟨n,by rw [if_neg z],by omega⟩
 rw [eh]
 obtain ⟨cs,ec,_,hcl⟩:=zed (f:=D.int) (l:=vs) (lo:=some 1) (hi:=none)
 have es:fSl (.lst (vs.map D.int)) (some 1) none μ1=some (.lst (cs.map D.int),μ1):=by rw [← ec];rfl
 rw [es]
 simp_arith
 rw [z6n (by simp)]
 simp_arith
 rw [fCat_lst (by simp;omega)]
 simp_arith
 obtain ⟨v,r',ev⟩:∃ v r',vs=v::r':=by cases vs with | nil=>simp at hv | cons v r=>exact ⟨v,r,rfl⟩
 have e0:fIx (.lst (vs.map D.int)) (.int 0) μ1=some (.int v,μ1):=by rw [ev];exact zu3
 rw [e0]
 simp_arith
 rw [z6n (by simp)]
 simp_arith
 rw [zqa (by omega)]
 simp_arith
 have en:(n:Int) - (h:Int)=((n - h:Nat):Int):=by omega
 rw [en,z7z (by omega),zj7]
 refine ⟨by simp [z2z];omega,?_⟩
 have eb:cs.map D.int++[D.int (bs - st)]=(cs++[bs - st]).map D.int:=by simp
 rw [eb]
 refine zcq (c:=0) hp1 (by simp) (by simp;omega) ?_
 intro es' μ2 he hp2 hk2
 simp_arith
 rw [fCat_lst (by simp;omega),← List.map_append]
 simp_arith
 exact ⟨rfl,_,_,_,rfl,by simp;omega,hp2,hk.trans (hk1.trans hk2)⟩
theorem zuw (hl:ns.length≤7) (hp:Pt μ k) (hk:Kp k μ0 μ):Ws (sIf (vT (v2 fEq (z01 7) (vC (.int 4)))) (z0z (v1 zs5 (z01 6)) (z00 6)) sNx (dK7 k n st bs vs ns w o8 o9) μ) (K7 k n st bs vs w μ0):=by
 unfold dK7
 simp_arith [zge]
 refine ⟨fun _=>?_,fun _=>⟨rfl,ns,o8,o9,rfl,hl,hp,hk⟩⟩
 have e:zs5 (.lst (ns.map D.int)) μ=some (.lst (ns.reverse.map D.int),μ):=by simp [List.map_reverse]
 rw [e]
 simp_arith
 exact ⟨rfl,ns.reverse,o8,o9,rfl,by simpa using hl,hp,hk⟩
theorem all_ints:∀ {es:List D} {ns:List Int},(∀ y∈es,y∈ns.map D.int)→∃ ms:List Int,es=ms.map D.int
 | [],_,_=>⟨[],rfl⟩
 | e::es,ns,h=>by
  obtain ⟨ms,rfl⟩:=all_ints (es:=es) (ns:=ns) fun y hy=>h y (by simp [hy])
  obtain ⟨a,_,rfl⟩:=List.mem_map.mp (h e (by simp))
  exact ⟨a::ms,rfl⟩
theorem zux (hl:ns.length≤7) (hp:Pt μ k) (hk:Kp k μ0 μ):Ws (sIf (vT (v2 fEq (z01 7) (vC (.int 5)))) (z0z (vL zpc (z04 (z01 0) (z04 (z01 6) z0e))) (z00 6)) sNx (dK7 k n st bs vs ns w o8 o9) μ) (K7 k n st bs vs w μ0):=by
 unfold dK7
 simp_arith [zge]
 refine ⟨fun _=>?_,fun _=>⟨rfl,ns,o8,o9,rfl,hl,hp,hk⟩⟩
 refine (zbu hp .lst (by simp;omega)).imp ?_
 rintro _ μ1 ⟨es,rfl,he,hm,hp1,hk1⟩
 obtain ⟨ms,rfl⟩:=all_ints hm
 simp_arith
 exact ⟨rfl,ms,o8,o9,rfl,by simp at he;omega,hp1,hk.trans hk1⟩
end
noncomputable abbrev zs7:List D→M→Option (D×M):=z3c z0g zpc
theorem zio {k:Nat} {μ:M} (hp:Pt μ k):Wp (zs7 [.ref k,.int 7] μ) fun d μ'=>∃ ns:List Int,d=.lst (ns.map D.int)∧ns.length≤7∧Pt μ' k∧Kp k μ μ':=by
 unfold zs7 z3c z4s
 refine (z7m rfl).mpr ?_
 show Ws (z0u _ _ [some (.ref k),some (.int 7),none,none,none,none,none,none,none,none] μ) _
 simp_arith
 rw [z6n (by simp)]
 simp_arith
 refine z7x (ns:=[8,8,8]) hp (by rfl) rfl (by decide) (by decide) fun v μ1 hv hp1 hk1=>?_
 have ev:v=8:=by simpa using hv
 subst ev
 simp_arith
 refine (z1a hp1 (by decide) (by decide)).imp ?_
 rintro _ μ2 ⟨n,rfl,hn,hp2,hk2⟩
 simp_arith
 refine (z1a hp2 (by decide) (by decide)).imp ?_
 rintro _ μ3 ⟨t,rfl,ht,hp3,hk3⟩
 simp_arith
 rw [z6n (by simp)]
 simp_arith
 refine z7x (ns:=[1,1,1+(t:Int)]) hp3 (by rfl) rfl (by simp) (by simp) fun st μ4 hst hp4 hk4=>?_
 have hst:0<st∧st≤1000:=by
  simp at hst;omega
 simp_arith
 have hpw:∀ μ:M,zvc (.int 10) (.int 29) μ=some (.int (10 ^ 29),μ):=fun μ=>by
  have hp:zrz 10 29:=⟨by decide,by decide,by decide⟩
  exact (if_pos hp:(if zrz 10 29 then some (D.int (10 ^ 29),μ) else none)=_)
 simp_arith [hpw]
 rw [z6n (by simp)]
 simp_arith
 refine z7x (ns:=[0,-3,10 ^ 29,0 - 10 ^ 29]) hp4 (by rfl) rfl (by simp) (by simp) fun bs μ5 _ hp5 hk5=>?_
 simp_arith
 rw [z6n (by simp)]
 simp_arith
 refine z7x (ns:=[2,3,9,200]) hp5 (by rfl) rfl (by simp) (by simp) fun z μ6 hz hp6 hk6=>?_
 have hz:0<z∧z≤200:=by simp at hz;omega
 simp_arith
 refine (z1a hp6 (by omega) (by omega)).imp ?_
 rintro _ μ7 ⟨q,rfl,hq,hp7,hk7⟩
 simp_arith
 have eq1:(1:Int)+(q:Int)=((1+q:Nat):Int):=by omega
 rw [eq1,z7z (by omega),zj7]
 refine ⟨by simp [z2z];omega,?_⟩
 show Wp (z1m none _ _ _ _ [none,some (.int bs),some (.int st)] _) _
 refine z6d (fun i done Γ μ'=>(∃ o,Γ=[o,some (.int bs),some (.int st)])∧(∃ es:List Int,done=es.map D.int∧es.length=i)∧μ'=μ7) ⟨⟨_,rfl⟩,⟨[],rfl,rfl⟩,rfl⟩ ?_ ?_
 ·rintro i done Γ μ1 hi ⟨⟨o,rfl⟩,⟨es,rfl,he⟩,rfl⟩
  simp_arith
  rw [zdp (by omega)]
  simp_arith
  exact ⟨⟨_,rfl⟩,⟨es++[bs+st*(i:Int)],by simp,by simp [he]⟩,trivial⟩
 rintro done Γ μ8 ⟨_,⟨vs,rfl,hvs⟩,rfl⟩
 simp_arith
 rw [z7z (by omega),zj7]
 refine ⟨by simp [z2z];omega,?_⟩
 refine zcq (c:=0) hp7 (by omega) (by omega) ?_
 intro ks μ9 hks hp9 hk9
 simp_arith
 refine (z1a hp9 (by decide) (by decide)).imp ?_
 rintro _ μ10 ⟨w,rfl,_,hp10,hk10⟩
 have hk:Kp k μ μ10:=hk1.trans (hk2.trans (hk3.trans (hk4.trans (hk5.trans (hk6.trans (hk7.trans (hk9.trans hk10)))))))
 rw [zj8,z49,zj6,z2l,z4y]
 refine (zrc (n:=n) (st:=st) (bs:=bs) (w:=(w:Int)) (vs:=vs) (ns:=ks) (o8:=none) (o9:=none) (by omega) hp10 hk).imp ?_
 rintro _ _ μ11 ⟨rfl,ks,o8,o9,rfl,hl,hp11,hk11⟩
 rw [z2l,z4y]
 refine (zrb (by omega) (by omega) hl hp11 hk11).imp ?_
 rintro _ _ μ12 ⟨rfl,ks,o8,o9,rfl,hl,hp12,hk12⟩
 rw [z2l,z4y]
 refine (znl (by omega) (by omega) (by omega) hl hp12 hk12).imp ?_
 rintro _ _ μ13 ⟨rfl,ks,o8,o9,rfl,hl,hp13,hk13⟩
 rw [z2l,z4y]
 refine (zuw hl hp13 hk13).imp ?_
 rintro _ _ μ14 ⟨rfl,ks,o8,o9,rfl,hl,hp14,hk14⟩
 rw [z2l,z4y]
 refine (zux hl hp14 hk14).imp ?_
 rintro _ _ μ15 ⟨rfl,ks,o8,o9,rfl,hl,hp15,hk15⟩
 rw [z2l]
 unfold dK7
 simp_arith
 exact ⟨ks,rfl,hl,hp15,hk15⟩
noncomputable def tri (a:An):Tri Int Int Bool:=⟨(a.1:Int),(a.2.1:Int),a.2.2⟩
theorem zvl (as:List An):as.map dA=(as.map tri).map Enc.d:=by
 rw [List.map_map];rfl
theorem zq1 {as bs:List An} (h:as.map tri=bs.map tri):as=bs:=by
 refine (List.map_inj_right (f:=tri) ?_).mp h
 rintro ⟨a,b,c⟩ ⟨a',b',c'⟩ e
 simp [tri] at e
 obtain ⟨e1,e2,e3⟩:=e
 have e1:a=a':=by omega
 have e2:b=b':=by omega
 subst e1 e2 e3
 rfl
theorem Ls.rds {μ:M} {d:D} {as:List An} (h:Ls μ d (as.map dA)):Rds μ d (List (Tri Int Int Bool)) (as.map tri):=by
 rw [zvl] at h
 rcases z14 h with ⟨k,rfl,hk⟩ | rfl | rfl
 ·exact ziy (by decide) hk
 ·exact zqb (α:=List (Tri Int Int Bool)) (by decide) (as.map tri)
 ·unfold Rds
  rw [zj9,z6z (by decide)]
  rfl
theorem zve {μ:M} {x y:D} {as bs:List An} (h1:Ls μ x (as.map dA)) (h2:Ls μ y (bs.map dA)):eqD x y μ=some (decide (as=bs)):=by
 have hi:∀ {z:D} {ds:List D},Ls μ z ds→isInt z=false∧ze4 z=false:=fun h=>by
  rcases z14 h with ⟨k,rfl,_⟩ | rfl | rfl <;> exact ⟨rfl,rfl⟩
 rw [zea (α:=List (Tri Int Int Bool)) (by decide) h1.rds h2.rds (by simp [(hi h1).1]) (by simp [(hi h1).2])]
 congr 1
 rw [Bool.eq_iff_iff]
 simp only [decide_eq_true_eq]
 exact ⟨zq1,fun e=>by rw [e]⟩
def Rt (ks:List Int) (as:List An):Prop:=∀ a∈as,a.1<ks.length∧a.2.1<ks.length∧a.1≠a.2.1∧a.2.2=decide (ks.getD a.1 0=ks.getD a.2.1 0)
theorem Rt.ok2 {ks:List Int} {as:List An} (h:Rt ks as):Ok2 ks.length as:=fun a ha=>⟨(h a ha).1,(h a ha).2.1,(h a ha).2.2.1⟩
theorem Rt.sub {ks:List Int} {as bs:List An} (h:Rt ks as) (s:∀ b∈bs,b∈as):Rt ks bs:=fun a ha=>h a (s a ha)
theorem Rt.fits {ks:List Int} {as:List An} (h:Rt ks as):z5l ks.length as≠[]:=by
 obtain ⟨p,hp,hf⟩:=zrw (fun x=>ks.getD x 0) ks.length ks.length (Nat.le_refl _)
 refine List.ne_nil_of_mem (a:=p.1) ?_
 unfold z5l
 rw [List.mem_filter]
 refine ⟨List.mem_map_of_mem hp,?_⟩
 unfold zcg
 rw [List.all_eq_true]
 intro a ha
 obtain ⟨h1,h2,_,h4⟩:=h a ha
 rw [h4,beq_iff_eq,decide_eq_decide]
 exact hf _ _ h1 h2
noncomputable abbrev zx8 (C CF CT:Addr):List D→M→Option (D×M):=dn (zdx C CF CT)
noncomputable abbrev zs4 (C CF CT:Addr):List D→M→Option (D×M):=z3a (z2v (z1t (z1b 10)) znd) (zx8 C CF CT) (z3n 10)
theorem zik {C CF CT:Addr} {n:Nat} {d:D} {as:List An} {μ:M} (hl:Ls μ d (as.map dA)) (hv:Ok2 n as) (hs:as.length≤1000) (hn:n≤7) (hf:z5l n as≠[]):Wp (zx8 C CF CT [.int (n:Int),d] μ) fun x μ'=>x=zvk (zpi (z5l n as))∧Gr μ μ':=by
 obtain ⟨μ',e,g⟩:=zij (C:=C) (CF:=CF) (CT:=CT) hl hv hs hn hf
 refine zpw (μ:=μ') (a:=zvk (zpi (z5l n as))) ?_ ⟨rfl,g⟩
 unfold zx8 dn
 rw [e];rfl
theorem z65 {C CF CT:Addr} {ks:List Int} {d:D} {as:List An} {μ:M} (hl:Ls μ d (as.map dA)) (hR:Rt ks as) (hs:as.length≤1000) (hn:ks.length≤7):Wp (zs4 C CF CT [.int (ks.length:Int),d] μ) fun x μ'=>x=.bl true∧Gr μ μ':=by
 unfold zs4 z3a z4q
 refine (z7m rfl).mpr ?_
 show Ws (z0u _ _ [some (.int (ks.length:Int)),some d,none,none] μ) _
 simp_arith
 refine (zmo hn (by omega) hl hR.ok2.inN hs hR.fits).imp ?_
 rintro _ μ1 ⟨rfl,g1⟩
 simp_arith [zcj (hl.gr g1)]
 have g2:Gr μ1 (μ1++[some (O.lst (as.map dA))]):=z32
 have hL2:Ls (μ1++[some (O.lst (as.map dA))]) (.ref μ1.length) (as.map dA):=.ref (by simp)
 generalize hμ2:μ1++[some (O.lst (as.map dA))]=μ2 at g2 hL2
 generalize μ1.length=l at hL2
 refine (zik hL2 hR.ok2 hs hn hR.fits).imp ?_
 rintro _ μ3 ⟨rfl,g3⟩
 simp_arith
 rw [zbq (n:=8)]
 simp_arith
 refine (zik (hL2.gr g3) hR.ok2 hs hn hR.fits).imp ?_
 rintro _ μ4 ⟨rfl,g4⟩
 simp_arith
 rw [zbq (n:=8)]
 simp_arith
 have g34:=g3.trans g4
 have g:=(g1.trans g2).trans g34
 unfold fEq
 rw [zve (hL2.gr g34) (hl.gr g),decide_eq_true rfl]
 exact wp_some.mpr ⟨rfl,g⟩
theorem zuh {i t n:Nat} (hi:i<n) (ht:t+1<n):(i+1+t) % n≠i:=by
 intro e
 by_cases h:i+1+t<n
 ·rw [Nat.mod_eq_of_lt h] at e;omega
 ·rw [Nat.mod_eq_sub_mod (by omega),Nat.mod_eq_of_lt (by omega)] at e;omega
theorem zb4 {ks:List Int} {i:Nat} {μ:M} (h:i<ks.length):fIx (.lst (ks.map D.int)) (.int (i:Int)) μ=some (.int (ks.getD i 0),μ):=by
 rw [zb7,z6e (j:=i) (v:=.int (ks.getD i 0)) (by rw [List.getElem?_map,List.getD_eq_getElem?_getD];simp [List.getElem?_eq_getElem h])]
 rfl
theorem zla {μ:M} {l:Nat} {ds:List D} {y:D} (h:μ[l]?=some (some (.lst ds))) (hl:ds.length<1000000):z6v (.ref l) y μ=some (.non,μ.set l (some (.lst (ds++[y])))):=by
 unfold z6v;rw [z4k h,if_pos hl];rfl
noncomputable abbrev zsa:List D→M→Option (D×M):=z2a z0g
theorem zdi {k:Nat} {ks:List Int} {μ:M} (hp:Pt μ k) (hl:ks.length≤7):Wp (zsa [.ref k,.lst (ks.map D.int),.int 12] μ) fun d μ'=>∃ r as,d=.ref r∧r≠k∧μ'[r]?=some (some (.lst (as.map dA)))∧Rt ks as∧as.length≤12∧Pt μ' k∧Kp k μ μ':=by
 unfold zsa z2a z3p
 refine (z7m rfl).mpr ?_
 show Ws (z0u _ _ [some (.ref k),some (.lst (ks.map D.int)),some (.int 12),none,none,none,none] μ) _
 have hk0:=hp.lt
 simp_arith
 rw [zqx (by simp)]
 simp_arith
 have g0:Gr μ (μ++[some (O.lst [])]):=z32
 have hr0:(μ++[some (O.lst [])])[μ.length]?=some (some (.lst (([]:List An).map dA))):=by simp
 refine (z1a (hp.gr g0) (by decide) (by decide)).imp ?_
 rintro _ μ1 ⟨t,rfl,ht,hp1,hk1⟩
 simp_arith [z3e,List.length_map]
 rw [zdp (by omega)]
 obtain ⟨m,em,hm,hm0⟩:∃ m:Nat,(t:Int)*(if (decide ((1:Int)<(ks.length:Int)))=true then 1 else 0)=(m:Int)∧m≤12∧(m≠0→1<ks.length):=by
  by_cases h:(1:Int)<(ks.length:Int)
  ·exact ⟨t,by simp [h],by omega,fun _=>by omega⟩
  ·exact ⟨0,by simp [h],by omega,fun h=>absurd rfl h⟩
 simp_arith
 rw [em,z7z (by omega),zdj]
 refine zb3 (fun i Γ μ'=>(∃ o4 o5 o6,Γ=[some (.ref k),some (.lst (ks.map D.int)),some (.int 12),some (.ref μ.length),o4,o5,o6])∧Pt μ' k∧Kp k μ μ'∧∃ as:List An,μ'[μ.length]?=some (some (.lst (as.map dA)))∧as.length=i∧Rt ks as) ?_ ?_ ?_
 ·exact ⟨⟨_,_,_,rfl⟩,hp1,g0.kp.trans hk1,[],hk1.get hr0 (by omega),rfl,fun a h=>by cases h⟩
 ·rintro i Γ μ2 hi ⟨⟨o4,o5,o6,rfl⟩,hp2,hk2,as,hr2,hal,hR⟩
  have h1n:=hm0 (by omega)
  simp_arith [z3e,List.length_map]
  refine (z1a hp2 (by omega) (by omega)).imp ?_
  rintro _ μ3 ⟨a,rfl,ha,hp3,hk3⟩
  simp_arith [z3e,List.length_map]
  refine (z1a hp3 (by omega) (by omega)).imp ?_
  rintro _ μ4 ⟨b,rfl,hb,hp4,hk4⟩
  have hr4:=hk4.get (hk3.get hr2 (by omega)) (by omega)
  simp_arith [z3e,List.length_map]
  rw [zu2 (by omega)]
  have ej:((a:Int)+1+(b:Int)) % (ks.length:Int)=(((a+1+b) % ks.length:Nat):Int):=by simp
  have hj:(a+1+b) % ks.length<ks.length:=Nat.mod_lt _ (by omega)
  have hne:=zuh (i:=a) (t:=b) (n:=ks.length) (by omega) (by omega)
  rw [ej]
  generalize (a+1+b) % ks.length=j at hj hne
  simp_arith [zap hr4,zb4 (show a<ks.length by omega),zb4 hj]
  rw [zdo (by simp)]
  simp_arith
  rw [zla hr4 (by simp;omega)]
  simp_arith
  refine ⟨⟨_,_,_,rfl⟩,?_,((hk2.trans hk3).trans hk4).setN (Nat.le_refl _),as++[(a,j,decide (ks.getD a 0=ks.getD j 0))],?_,by simp [hal],?_⟩
  ·obtain ⟨x,y,z,e⟩:=hp4
   exact ⟨x,y,z,by rw [z0v (by omega)];exact e⟩
  ·rw [z25 hr4];simp [dA]
  ·intro c hc
   rcases List.mem_append.mp hc with hc | hc
   ·exact hR c hc
   ·rw [List.mem_singleton] at hc;subst hc
    exact ⟨by omega,hj,Ne.symm hne,rfl⟩
 ·rintro Γ μ2 ⟨⟨o4,o5,o6,rfl⟩,hp2,hk2,as,hr2,hal,hR⟩
  simp_arith
  exact ⟨_,as,rfl,by omega,hr2,hR,by omega,hp2,hk2⟩
theorem zpx {x y z:D} {gs:GsV} {Γ:G} {μ:M} {RG:G→M→Prop}:Wp (z21 3 gs (.tup [x,y,z]) Γ μ) RG↔Wp (gs [x,y,z] Γ μ) RG:=zsl rfl
noncomputable abbrev zgu:List D→M→Option (D×M):=z1z z0g
theorem zbt {k:Nat} {ks:List Int} {as:List An} {d:D} {μ:M} (hp:Pt μ k) (hL:Ls μ d (as.map dA)) (hdk:d≠.ref k) (hR:Rt ks as) (hl:as.length≤100):Wp (zgu [.ref k,d] μ) fun x μ'=>∃ r bs,x=.ref r∧r≠k∧μ'[r]?=some (some (.lst (bs.map dA)))∧Rt ks bs∧bs.length≤275∧Pt μ' k∧Kp k μ μ':=by
 unfold zgu z1z z34
 refine (z7m rfl).mpr ?_
 show Ws (z0u _ _ [some (.ref k),some d,none,none,none,none,none] μ) _
 have hk0:=hp.lt
 have lsk:∀ {μ':M},Kp k μ μ'→Ls μ' d (as.map dA):=fun {μ'} g=>by
  rcases z14 hL with ⟨q,rfl,hq⟩ | rfl | rfl
  ·exact .ref (g.get hq (fun e=>hdk (by rw [e])))
  ·exact .lst
  ·exact ⟨rfl,none,rfl,trivial,fun _ _=>trivial⟩
 simp_arith
 rw [zqx (by simp)]
 simp_arith
 have g0:Gr μ (μ++[some (O.lst [])]):=z32
 have hr0:(μ++[some (O.lst [])])[μ.length]?=some (some (.lst (([]:List An).map dA))):=by simp
 refine (z1a (hp.gr g0) (by decide) (by decide)).imp ?_
 rintro _ μ1 ⟨t,rfl,ht,hp1,hk1⟩
 have hk01:Kp k μ μ1:=g0.kp.trans hk1
 simp_arith
 rw [z6n (by simp)]
 simp_arith
 have ene:fNe d (.lst []) μ1=some (.bl (!decide (as=[])),μ1):=by
  have e:eqD d (.lst []) μ1=some (decide (as=[])):=zve (bs:=[]) (lsk hk01) .lst
  unfold fNe;rw [e];rfl
 rw [ene]
 simp_arith
 rw [zdp (by omega)]
 obtain ⟨m,em,hm,hm0⟩:∃ m:Nat,(t:Int)*(if (!decide (as=[]))=true then 1 else 0)=(m:Int)∧m≤275∧(m≠0→as≠[]):=by
  by_cases h:as=[]
  ·exact ⟨0,by simp [h],by omega,fun h=>absurd rfl h⟩
  ·exact ⟨t,by simp [h],by omega,fun _=>h⟩
 simp_arith
 rw [em,z7z (by omega),zdj]
 refine zb3 (fun i Γ μ'=>(∃ o3 o4 o5 o6,Γ=[some (.ref k),some d,some (.ref μ.length),o3,o4,o5,o6])∧Pt μ' k∧Kp k μ μ'∧∃ bs:List An,μ'[μ.length]?=some (some (.lst (bs.map dA)))∧bs.length=i∧Rt ks bs) ?_ ?_ ?_
 ·exact ⟨⟨_,_,_,_,rfl⟩,hp1,hk01,[],hk1.get hr0 (by omega),rfl,fun a h=>by cases h⟩
 ·rintro i Γ μ2 hi ⟨⟨o3,o4,o5,o6,rfl⟩,hp2,hk2,bs,hr2,hal,hRb⟩
  have h0:0<as.length:=List.length_pos_iff.mpr (hm0 (by omega))
  simp_arith [zkn (lsk hk2),List.length_map]
  refine (z1a hp2 (by omega) (by omega)).imp ?_
  rintro _ μ3 ⟨a,rfl,ha,hp3,hk3⟩
  have hL3:=lsk (hk2.trans hk3)
  have eix:fIx d (.int (a:Int)) μ3=some (dA as[a],μ3):=by
   have ea:atI (as.map dA) (a:Int)=some (dA as[a]):=z6e (by rw [List.getElem?_map,List.getElem?_eq_getElem (by omega)];rfl)
   rcases z14 hL3 with ⟨q,rfl,hq⟩ | rfl | rfl
   ·rw [z8k hq,ea];rfl
   ·rw [zb7,ea];rfl
   ·rw [zrh,ea];rfl
  rw [zdk,eix]
  have hRa:=hR as[a] (List.getElem_mem _)
  generalize as[a]=x at hRa
  simp_arith
  rw [show dA x=D.tup [.int (x.1:Int),.int (x.2.1:Int),.bl x.2.2] from rfl,zpx]
  simp_arith
  have hr3:=hk3.get hr2 (by omega)
  rw [zap hr3]
  simp_arith
  rw [zdo (by simp)]
  simp_arith
  rw [zdo (by simp)]
  simp_arith
  rw [z6n (by simp)]
  simp_arith
  refine (z1a hp3 (by decide) (by decide)).imp ?_
  rintro _ μ4 ⟨b,rfl,hb,hp4,hk4⟩
  have hr4:=hk4.get hr3 (by omega)
  obtain ⟨y,ey,hy⟩:∃ y:An,fIx (.lst [.tup [.int (x.1:Int),.int (x.2.1:Int),.bl x.2.2],.tup [.int (x.2.1:Int),.int (x.1:Int),.bl x.2.2]]) (.int (b:Int)) μ4=some (dA y,μ4)∧(y=x∨y=(x.2.1,x.1,x.2.2)):=by
   have:b=0∨b=1:=by omega
   rcases this with rfl | rfl
   ·exact ⟨x,rfl,.inl rfl⟩
   ·exact ⟨(x.2.1,x.1,x.2.2),rfl,.inr rfl⟩
  rw [zdk,ey]
  simp_arith
  rw [zla hr4 (by simp;omega)]
  simp_arith
  refine ⟨⟨_,_,_,_,rfl⟩,?_,((hk2.trans hk3).trans hk4).setN (Nat.le_refl _),bs++[y],?_,by simp [hal],?_⟩
  ·obtain ⟨x,y,z,e⟩:=hp4
   exact ⟨x,y,z,by rw [z0v (by omega)];exact e⟩
  ·have:=z25 (y:=some (O.lst (bs.map dA++[dA y]))) hr4
   rw [List.map_append]
   exact this
  ·intro c hc
   rcases List.mem_append.mp hc with hc | hc
   ·exact hRb c hc
   ·rw [List.mem_singleton] at hc;subst hc
    rcases hy with rfl | rfl
    ·exact hRa
    ·refine ⟨hRa.2.1,hRa.1,Ne.symm hRa.2.2.1,?_⟩
     show x.2.2=decide (ks.getD x.2.1 0=ks.getD x.1 0)
     rw [hRa.2.2.2,decide_eq_decide]
     exact eq_comm
 ·rintro Γ μ2 ⟨⟨o3,o4,o5,o6,rfl⟩,hp2,hk2,bs,hr2,hal,hRb⟩
  simp_arith
  exact ⟨_,bs,rfl,by omega,hr2,hRb,by omega,hp2,hk2⟩
theorem zpj {as:List An}:∀ {es:List D},(∀ y∈es,y∈as.map dA)→∃ bs:List An,es=bs.map dA∧∀ b∈bs,b∈as
 | [],_=>⟨[],rfl,fun b h=>by cases h⟩
 | e::es,h=>by
  obtain ⟨bs,rfl,hb⟩:=zpj (es:=es) fun y hy=>h y (by simp [hy])
  obtain ⟨a,ha,rfl⟩:=List.mem_map.mp (h e (by simp))
  exact ⟨a::bs,rfl,fun b h=>by
   rcases List.mem_cons.mp h with rfl | h
   ·exact ha
   ·exact hb b h⟩
theorem zmg {μ:M} {d:D} {as:List An} {lo hi:Option Int} (h:Ls μ d (as.map dA)):∃ bs:List An,fSl d lo hi μ=some (.lst (bs.map dA),μ)∧(∀ b∈bs,b∈as)∧bs.length≤as.length:=by
 obtain ⟨bs,e,h1,h2⟩:=zed (f:=dA) (l:=as) (lo:=lo) (hi:=hi)
 refine ⟨bs,?_,h1,h2⟩
 unfold fSl
 rw [h.1]
 show some (D.lst (znz (as.map dA) lo hi),μ)=_
 rw [e]
theorem zrj {μ:M} {l:Nat} {ds ys:List D} (h:μ[l]?=some (some (.lst ds))) (hl:ds.length+ys.length≤1000000):z6u (.ref l) (.lst ys) μ=some (.non,μ.set l (some (.lst (ds++ys)))):=by
 unfold z6u;simp only;rw [z4k h,if_pos hl];rfl
theorem zrp {μ:M} {l:Nat} {ds ys:List D} (h:μ[l]?=some (some (.lst ds))) (hl:ds.length+ys.length≤1000000):z0w (.ref l) (.lst ys) μ=some (.lst (ds++ys),μ):=by
 show zgy _ _ _=_
 unfold zgy
 have:zhq μ (.ref l)=some ds:=by simp [zhq,h]
 rw [this]
 show (if ds.length+ys.length≤1000000 then _ else _)=_
 rw [if_pos hl]
section
variable {C CF CT:Addr}
noncomputable abbrev zun (R:List D→M→Option (D×M)):SV:=(z0u (z0z (vL z1k (z04 (z01 1) z0e)) (z00 2))
   (z0u (z0z (vL zs7 (z04 (z01 2) (z04 (vC (.int 7)) z0e))) (z00 3))
   (z0u (z0z (v1 z2b (z01 3)) (z00 4))
   (z0u (z0z (vL zsa (z04 (z01 2) (z04 (z01 3) (z04 (vC (.int 12)) z0e)))) (z00 5))
   (z0u (z8y (ivR (v2 zkm (vC (.int 4)) (v2 z0w (v1 z2b (z01 5)) (vC (.int 1))))) (z00 6)
    (sIf (zbg (z5k (vL R (z04 (z01 4) (z04 (vSl (z01 5) z68 (z6r (v2 zd7 (v1 z2b (z01 5)) (z01 6)))) z0e)))))
     (z2p (vC (.bl false)))
     sNx))
   (z0u (z0z (vL z8j z0e) (z00 7))
   (z0u (z8y (ivR (z01 4)) (z00 8)
    (z2j (v2l z6u (z01 7) (z10 ["i"] [("j",8),("kinds",3)] (ivR (z01 8)) (z00 0) z2c (vL zac (z04 (z01 0) (z04 (z01 1) (z04 (v2 fEq (v2 fIx (z01 2) (z01 0)) (v2 fIx (z01 2) (z01 1))) z0e))))))))
   (z0u (z0z (vL zpc (z04 (z01 2) (z04 (z01 7) z0e))) (z00 7))
   (z0u (sIf (bOr (zbg (z5k (vL R (z04 (z01 4) (z04 (vSl (z01 7) (z6r (vC (.int 1))) z68) z0e))))) (zbg (z5k (vL R (z04 (z01 4) (z04 (z01 7) z0e))))))
    (z2p (vC (.bl false)))
    sNx)
   (z0u (z0z (vL z0g (z04 (z01 2) (z04 (v2 z0w (v1 z2b (z01 7)) (vC (.int 1))) z0e))) (z00 9))
   (sIf (vT (v2 fEq (vL z0g (z04 (z01 2) (z04 (vC (.int 2)) z0e))) (vC (.int 0))))
    (z0u (z0z (vL zgu (z04 (z01 2) (z04 (vSl (z01 7) z68 (z6r (z01 9))) z0e))) (z00 10))
    (sIf (zbg (z5k (vL R (z04 (z01 4) (z04 (v2 z0w (z01 10) (vSl (z01 7) (z6r (v2 z0w (z01 9) (vC (.int 1)))) z68)) z0e)))))
     (z2p (vC (.bl false)))
     sNx))
    sNx)))))))))))
theorem zin {sc:D} {c:Int} {o2 o3 o4 o5 o6 o7 o8 o9 o10:Option D} {μ:M}:Ws (zun (zs4 C CF CT) [some sc,some (.int c),o2,o3,o4,o5,o6,o7,o8,o9,o10] μ) fun o Γ μ'=>o=.nx∧∃ p1 p2 p3 p4 p5 p6 p7 p8 p9 p10,Γ=[some sc,p1,p2,p3,p4,p5,p6,p7,p8,p9,p10]:=by
 unfold zun
 simp_arith
 refine (zq5 c μ).imp ?_
 rintro _ μ1 ⟨rfl,hp1,_⟩
 generalize List.length μ=k at hp1
 simp_arith
 refine (zio hp1).imp ?_
 rintro _ μ2 ⟨ks,rfl,hks,hp2,_⟩
 simp_arith [z3e,List.length_map]
 refine (zdi hp2 hks).imp ?_
 rintro _ μ3 ⟨r,as,rfl,hrk,hr3,hR,hal,hp3,hk3⟩
 simp_arith [z4w hr3,List.length_map]
 obtain ⟨m,em,hm⟩:∃ m:Nat,(if (as.length:Int)+1<4 then (as.length:Int)+1 else 4)=(m:Int)∧m≤4:=by
  by_cases h:(as.length:Int)+1<4
  ·exact ⟨as.length+1,by rw [if_pos h];omega,by omega⟩
  ·exact ⟨4,by rw [if_neg h];rfl,by omega⟩
 rw [em,z7z (by omega),zdj]
 refine zb3 (fun i Γ μ'=>(∃ x6,Γ=[some sc,some (.int c),some (.ref k),some (.lst (ks.map D.int)),some (.int (ks.length:Int)),some (.ref r),x6,o7,o8,o9,o10])∧Gr μ3 μ') ⟨⟨_,rfl⟩,.refl⟩ ?_ ?_
 ·rintro i Γ μ4 hi ⟨⟨x6,rfl⟩,g4⟩
  have hr4:=g4.get hr3
  obtain ⟨bs,es,hb,hbl⟩:=zmg (μ:=μ4) (d:=.ref r) (as:=as) (lo:=none) (hi:=some ((as.length:Int) - (i:Int))) (.ref hr4)
  simp_arith [z4w hr4,List.length_map,es]
  refine (z65 .lst (hR.sub hb) (by omega) hks).imp ?_
  rintro _ μ5 ⟨rfl,g5⟩
  simp_arith [Bool.not_true]
  exact ⟨⟨_,rfl⟩,g4.trans g5⟩
 rintro Γ μ4 ⟨⟨x6,rfl⟩,g4⟩
 simp_arith
 rw [zqx (by simp)]
 have hp5:Pt (μ4++[some (O.lst [])]) k:=(hp3.gr g4).gr z32
 have he5:(μ4++[some (O.lst [])])[List.length μ4]?=some (some (.lst (([]:List An).map dA))):=by simp
 generalize μ4++[some (O.lst [])]=μ5 at hp5 he5
 have hek:List.length μ4≠k:=by
  have:=(hp3.gr g4).lt
  omega
 generalize List.length μ4=e at he5 hek
 simp_arith
 rw [z7z (by omega),zdj]
 refine zb3 (fun i Γ μ'=>(∃ x8,Γ=[some sc,some (.int c),some (.ref k),some (.lst (ks.map D.int)),some (.int (ks.length:Int)),some (.ref r),x6,some (.ref e),x8,o9,o10])∧Pt μ' k∧∃ bs:List An,μ'[e]?=some (some (.lst (bs.map dA)))∧bs.length≤i*7∧Rt ks bs) ⟨⟨_,rfl⟩,hp5,[],he5,by simp,fun a h=>by cases h⟩ ?_ ?_
 ·rintro j Γ μ6 hj ⟨⟨x8,rfl⟩,hp6,bs,he6,hbl,hRb⟩
  simp_arith [zap he6]
  rw [z7z (by omega),zj7]
  refine ⟨by simp [z2z];omega,?_⟩
  show Wp (z1m none _ _ _ _ [none,some (.int (j:Int)),some (.lst (ks.map D.int))] _) _
  refine z6d (fun i done Γ μ'=>(∃ o,Γ=[o,some (.int (j:Int)),some (.lst (ks.map D.int))])∧(∃ cs:List An,done=cs.map dA∧cs.length=i∧Rt ks cs)∧μ'=μ6) ⟨⟨_,rfl⟩,⟨[],rfl,rfl,fun a h=>by cases h⟩,rfl⟩ ?_ ?_
  ·rintro i done Γ μ7 hi ⟨⟨o,rfl⟩,⟨cs,rfl,hcl,hRc⟩,rfl⟩
   simp_arith [zb4 (show i<ks.length by omega),zb4 hj]
   rw [zdo (by simp)]
   simp_arith
   refine ⟨⟨_,rfl⟩,⟨cs++[(i,j,decide (ks.getD i 0=ks.getD j 0))],by simp [dA],by simp [hcl],?_⟩,trivial⟩
   intro a ha
   rcases List.mem_append.mp ha with ha | ha
   ·exact hRc a ha
   ·rw [List.mem_singleton] at ha;subst ha
    exact ⟨by show i<ks.length;omega,hj,by show i≠j;omega,rfl⟩
  ·rintro done Γ μ7 ⟨_,⟨cs,rfl,hcl,hRc⟩,rfl⟩
   simp_arith
   rw [zrj he6 (by simp;omega),← List.map_append]
   simp_arith
   refine ⟨⟨_,rfl⟩,?_,bs++cs,z25 he6,by simp;omega,?_⟩
   ·obtain ⟨x,y,z,q⟩:=hp6
    exact ⟨x,y,z,by rw [z0v (Ne.symm hek)];exact q⟩
   ·intro a ha
    rcases List.mem_append.mp ha with ha | ha
    ·exact hRb a ha
    ·exact hRc a ha
 rintro Γ μ6 ⟨⟨x8,rfl⟩,hp6,bs,he6,hbl,hRb⟩
 simp_arith
 refine (zbu hp6 (.ref he6) (by simp;omega)).imp ?_
 rintro _ μ7 ⟨es,rfl,hel,hem,hp7,_⟩
 obtain ⟨cs,rfl,hcm⟩:=zpj hem
 have hRc:=hRb.sub hcm
 have hcl:cs.length≤49:=by simp at hel;omega
 obtain ⟨c1,e1,m1,l1⟩:=zmg (μ:=μ7) (d:=.lst (cs.map dA)) (as:=cs) (lo:=some 1) (hi:=none) .lst
 simp_arith [e1]
 refine (z65 .lst (hRc.sub m1) (by omega) hks).imp ?_
 rintro _ μ8 ⟨rfl,g8⟩
 simp_arith [Bool.not_true]
 refine (z65 .lst hRc (by omega) hks).imp ?_
 rintro _ μ9 ⟨rfl,g9⟩
 have hp9:=(hp7.gr g8).gr g9
 simp_arith [Bool.not_true,z3e,List.length_map]
 refine (z1a hp9 (by omega) (by omega)).imp ?_
 rintro _ μ10 ⟨ct,rfl,hct,hp10,_⟩
 simp_arith
 refine (z1a hp10 (by decide) (by decide)).imp ?_
 rintro _ μ11 ⟨z,rfl,hz,hp11,_⟩
 simp_arith [zge]
 refine ⟨fun _=>?_,fun _=>⟨trivial,_,_,_,_,_,_,_,_,_,_,rfl⟩⟩
 obtain ⟨c2,e2,m2,l2⟩:=zmg (μ:=μ11) (d:=.lst (cs.map dA)) (as:=cs) (lo:=none) (hi:=some (ct:Int)) .lst
 simp_arith [e2]
 refine (zbt hp11 .lst (fun h=>by cases h) (hRc.sub m2) (by omega)).imp ?_
 rintro _ μ12 ⟨rr,bb,rfl,_,hb12,hRb2,hbl2,hp12,_⟩
 obtain ⟨c3,e3,m3,l3⟩:=zmg (μ:=μ12) (d:=.lst (cs.map dA)) (as:=cs) (lo:=some ((ct:Int)+1)) (hi:=none) .lst
 simp_arith [e3]
 rw [zrp hb12 (by simp;omega),← List.map_append]
 simp_arith
 refine (z65 .lst (show Rt ks (bb++c3) from fun a ha=>?_) (by simp;omega) hks).imp ?_
 ·rcases List.mem_append.mp ha with ha | ha
  ·exact hRb2 a ha
  ·exact hRc.sub m3 a ha
 rintro _ μ13 ⟨rfl,g13⟩
 simp_arith [Bool.not_true]
 exact ⟨trivial,_,_,_,_,_,_,_,_,_,_,rfl⟩
theorem zq6 (ns:List Int) (hn:ns.length≤63):∃ μ',zc8 z1k zs7 zsa (zs4 C CF CT) zpc z0g zgu [.scr (ns.map D.int)] []=some (.bl true,μ'):=by
 suffices h:Wp (zc8 z1k zs7 zsa (zs4 C CF CT) zpc z0g zgu [.scr (ns.map D.int)] []) fun d _=>d=.bl true by
  obtain ⟨d,μ',e,rfl⟩:=h
  exact ⟨μ',e⟩
 unfold zc8 zkp
 refine (z7m rfl).mpr ?_
 show Ws (z0u _ _ [some (.scr (ns.map D.int)),none,none,none,none,none,none,none,none,none,none] []) _
 obtain ⟨cs,ec,_,hcl⟩:=zed (f:=D.int) (l:=ns) (lo:=none) (hi:=some 3)
 have es:fSl (.scr (ns.map D.int)) none (some 3) []=some (.lst (cs.map D.int),[]):=by rw [← ec];rfl
 rw [z4y,z7p,z7o]
 simp only [zhs,zhr,z4h,z7n,w_c,qc_,zj5,qL_,q2_,zdk,zh8,z48,zhb,zha,zh9,zh7,zh6,zhc,wp_some,es]
 rw [z6n (by simp)]
 simp only [wp_some,q2_,zh8,z48,zhb,zha,zh9,zh7,zh6,w_c,zhc,es,zdk]
 rw [fCat_lst (by simp;omega)]
 simp only [wp_some,z30,zdj]
 refine zkf (fun r Γ μ=>(∀ d∈r,∃ c,d=.int c)∧∃ p1 p2 p3 p4 p5 p6 p7 p8 p9 p10,Γ=[some (.scr (ns.map D.int)),p1,p2,p3,p4,p5,p6,p7,p8,p9,p10]) _ ⟨?_,_,_,_,_,_,_,_,_,_,_,rfl⟩ ?_ ?_
 ·intro d hd
  rcases List.mem_append.mp hd with hd | hd
  ·rw [List.mem_singleton] at hd;exact ⟨0,hd⟩
  ·obtain ⟨c,_,rfl⟩:=List.mem_map.mp hd
   exact ⟨c,rfl⟩
 ·rintro d r Γ μ ⟨hd,p1,p2,p3,p4,p5,p6,p7,p8,p9,p10,rfl⟩
  obtain ⟨c,rfl⟩:=hd d (by simp)
  rw [z49]
  simp only [List.set_cons_zero,List.set_cons_succ]
  refine (zin (C:=C) (CF:=CF) (CT:=CT)).imp ?_
  rintro _ Γ2 μ2 ⟨rfl,q1,q2,q3,q4,q5,q6,q7,q8,q9,q10,rfl⟩
  exact ⟨trivial,fun d h=>hd d (by simp [h]),_,_,_,_,_,_,_,_,_,_,rfl⟩
 ·rintro Γ μ ⟨_,p1,p2,p3,p4,p5,p6,p7,p8,p9,p10,rfl⟩
  simp_arith
end
@[elab_as_elim] theorem zne {α:Type} {P:List α→Prop} (us:List α) (h:us.length=1) (k:∀ a,P [a]):P us:=match us,h with | [a],_=>k a
@[elab_as_elim] theorem zd6 {α:Type} {P:List α→Prop} (us:List α) (h:us.length=2) (k:∀ a b,P [a,b]):P us:=match us,h with | [a,b],_=>k a b
@[elab_as_elim] theorem zxw {α:Type} {P:List α→Prop} (us:List α) (h:us.length=3) (k:∀ a b c,P [a,b,c]):P us:=match us,h with | [a,b,c],_=>k a b c
theorem all_mk {l:PySem.W.OpenLaw} {w:World} {K:PySem.W.Frag} {h:Heap} {mg:Str→Option Value} {fa f1 f2 f3 f4 f5 f6 f7 f8 f9 f10 f11 f12 f13 f14 f15 f16 f17 f18 f19 f20 f21 f22 f23 f24 f25 f26 f27 f28 c_NoThing c_NoFit c_TooMany:Addr} (X:K.In h) (G:h.Ns mainGlobals mg) (hfa:mg "law" = some (.ref fa))
  {od1 an1 od2 an2 od3 an3 od4 an4 od5 an5 od6 an6 od7 an7 od8 an8 od9 an9 od10 an10 od11 an11 od12 an12 od13 an13 od14 an14 od15 an15 od16 an16 od17 an17 od18 an18 od19 an19 od20 an20 od21 an21 od22 an22 od23 an23 od24 an24 od25 an25 od26 an26 od27 an27 od28 an28:Option Addr} {sl1 sl2 sl3 sl4 sl5 sl6 sl7 sl8 sl9 sl10 sl11 sl12 sl13 sl14 sl15 sl16 sl17 sl18 sl19 sl20 sl21 sl22 sl23 sl24 sl25 sl26 sl27 sl28:Array (Option Value)} {oc1 kV1 dc1 pm1 cd1 ct1 oc2 kV2 dc2 pm2 cd2 ct2 oc3 kV3 dc3 pm3 cd3 ct3 oc4 kV4 dc4 pm4 cd4 ct4 oc5 kV5 dc5 pm5 cd5 ct5 oc6 kV6 dc6 pm6 cd6 ct6 oc7 kV7 dc7 pm7 cd7 ct7 oc8 kV8 dc8 pm8 cd8 ct8 oc9 kV9 dc9 pm9 cd9 ct9 oc10 kV10 dc10 pm10 cd10 ct10 oc11 kV11 dc11 pm11 cd11 ct11 oc12 kV12 dc12 pm12 cd12 ct12 oc13 kV13 dc13 pm13 cd13 ct13 oc14 kV14 dc14 pm14 cd14 ct14 oc15 kV15 dc15 pm15 cd15 ct15 oc16 kV16 dc16 pm16 cd16 ct16 oc17 kV17 dc17 pm17 cd17 ct17 oc18 kV18 dc18 pm18 cd18 ct18 oc19 kV19 dc19 pm19 cd19 ct19 oc20 kV20 dc20 pm20 cd20 ct20 oc21 kV21 dc21 pm21 cd21 ct21 oc22 kV22 dc22 pm22 cd22 ct22 oc23 kV23 dc23 pm23 cd23 ct23 oc24 kV24 dc24 pm24 cd24 ct24 oc25 kV25 dc25 pm25 cd25 ct25 oc26 kV26 dc26 pm26 cd26 ct26 oc27 kV27 dc27 pm27 cd27 ct27 oc28 kV28 dc28 pm28 cd28 ct28:Value}
  (a1:PySem.W.nsIn K mainGlobals "check_things" = some (some (.ref f1)))
  (l1:K.lookup f1=some ⟨oc1,od1,.func (PySem.W.fnOf "check_things" "check_things" (z0k (top 16)) (z0i (top 16)) (z06 (top 16)) .none kV1 dc1 pm1 an1 cd1 ct1),sl1⟩) (c1:PySem.W.codeIn K cd1 "check_things" = true) (k1:PySem.W.keepIn K (.ref f1)=true)
  (a2:PySem.W.nsIn K mainGlobals "moved" = some (some (.ref f2)))
  (l2:K.lookup f2=some ⟨oc2,od2,.func (PySem.W.fnOf "moved" "moved" (z0k (top 17)) (z0i (top 17)) (z06 (top 17)) .none kV2 dc2 pm2 an2 cd2 ct2),sl2⟩) (c2:PySem.W.codeIn K cd2 "moved" = true) (k2:PySem.W.keepIn K (.ref f2)=true)
  (a3:PySem.W.nsIn K mainGlobals "homes_of" = some (some (.ref f3)))
  (l3:K.lookup f3=some ⟨oc3,od3,.func (PySem.W.fnOf "homes_of" "homes_of" (z0k (top 18)) (z0i (top 18)) (z06 (top 18)) .none kV3 dc3 pm3 an3 cd3 ct3),sl3⟩) (c3:PySem.W.codeIn K cd3 "homes_of" = true) (k3:PySem.W.keepIn K (.ref f3)=true)
  (a4:PySem.W.nsIn K mainGlobals "can_be" = some (some (.ref f4)))
  (l4:K.lookup f4=some ⟨oc4,od4,.func (PySem.W.fnOf "can_be" "can_be" (z0k (top 19)) (z0i (top 19)) (z06 (top 19)) .none kV4 dc4 pm4 an4 cd4 ct4),sl4⟩) (c4:PySem.W.codeIn K cd4 "can_be" = true) (k4:PySem.W.keepIn K (.ref f4)=true)
  (a5:PySem.W.nsIn K mainGlobals "check_right" = some (some (.ref f5)))
  (l5:K.lookup f5=some ⟨oc5,od5,.func (PySem.W.fnOf "check_right" "check_right" (z0k (top 20)) (z0i (top 20)) (z06 (top 20)) .none kV5 dc5 pm5 an5 cd5 ct5),sl5⟩) (c5:PySem.W.codeIn K cd5 "check_right" = true) (k5:PySem.W.keepIn K (.ref f5)=true)
  (a6:PySem.W.nsIn K mainGlobals "fits" = some (some (.ref f6)))
  (l6:K.lookup f6=some ⟨oc6,od6,.func (PySem.W.fnOf "fits" "fits" (z0k (top 21)) (z0i (top 21)) (z06 (top 21)) .none kV6 dc6 pm6 an6 cd6 ct6),sl6⟩) (c6:PySem.W.codeIn K cd6 "fits" = true) (k6:PySem.W.keepIn K (.ref f6)=true)
  (a7:PySem.W.nsIn K mainGlobals "one_thing_more" = some (some (.ref f7)))
  (l7:K.lookup f7=some ⟨oc7,od7,.func (PySem.W.fnOf "one_thing_more" "one_thing_more" (z0k (top 9)) (z0i (top 9)) (z06 (top 9)) .none kV7 dc7 pm7 an7 cd7 ct7),sl7⟩) (c7:PySem.W.codeIn K cd7 "one_thing_more" = true) (k7:PySem.W.keepIn K (.ref f7)=true)
  (a8:PySem.W.nsIn K mainGlobals "all_sorts" = some (some (.ref f8)))
  (l8:K.lookup f8=some ⟨oc8,od8,.func (PySem.W.fnOf "all_sorts" "all_sorts" (z0k (top 10)) (z0i (top 10)) (z06 (top 10)) .none kV8 dc8 pm8 an8 cd8 ct8),sl8⟩) (c8:PySem.W.codeIn K cd8 "all_sorts" = true) (k8:PySem.W.keepIn K (.ref f8)=true)
  (a9:PySem.W.nsIn K mainGlobals "sorts_that_fit" = some (some (.ref f9)))
  (l9:K.lookup f9=some ⟨oc9,od9,.func (PySem.W.fnOf "sorts_that_fit" "sorts_that_fit" (z0k (top 22)) (z0i (top 22)) (z06 (top 22)) .none kV9 dc9 pm9 an9 cd9 ct9),sl9⟩) (c9:PySem.W.codeIn K cd9 "sorts_that_fit" = true) (k9:PySem.W.keepIn K (.ref f9)=true)
  (a10:PySem.W.nsIn K mainGlobals "alike_things" = some (some (.ref f10)))
  (l10:K.lookup f10=some ⟨oc10,od10,.func (PySem.W.fnOf "alike_things" "alike_things" (z0k (top 7)) (z0i (top 7)) (z06 (top 7)) .none kV10 dc10 pm10 an10 cd10 ct10),sl10⟩) (c10:PySem.W.codeIn K cd10 "alike_things" = true) (k10:PySem.W.keepIn K (.ref f10)=true)
  (a11:PySem.W.nsIn K mainGlobals "more_than_half" = some (some (.ref f11)))
  (l11:K.lookup f11=some ⟨oc11,od11,.func (PySem.W.fnOf "more_than_half" "more_than_half" (z0k (top 8)) (z0i (top 8)) (z06 (top 8)) .none kV11 dc11 pm11 an11 cd11 ct11),sl11⟩) (c11:PySem.W.codeIn K cd11 "more_than_half" = true) (k11:PySem.W.keepIn K (.ref f11)=true)
  (a12:PySem.W.nsIn K mainGlobals "half_ends" = some (some (.ref f12)))
  (l12:K.lookup f12=some ⟨oc12,od12,.func (PySem.W.fnOf "half_ends" "half_ends" (z0k (top 13)) (z0i (top 13)) (z06 (top 13)) .none kV12 dc12 pm12 an12 cd12 ct12),sl12⟩) (c12:PySem.W.codeIn K cd12 "half_ends" = true) (k12:PySem.W.keepIn K (.ref f12)=true)
  (a13:PySem.W.nsIn K mainGlobals "common_end" = some (some (.ref f13)))
  (l13:K.lookup f13=some ⟨oc13,od13,.func (PySem.W.fnOf "common_end" "common_end" (z0k (top 14)) (z0i (top 14)) (z06 (top 14)) .none kV13 dc13 pm13 an13 cd13 ct13),sl13⟩) (c13:PySem.W.codeIn K cd13 "common_end" = true) (k13:PySem.W.keepIn K (.ref f13)=true)
  (a14:PySem.W.nsIn K mainGlobals "tells" = some (some (.ref f14)))
  (l14:K.lookup f14=some ⟨oc14,od14,.func (PySem.W.fnOf "tells" "tells" (z0k (top 23)) (z0i (top 23)) (z06 (top 23)) .none kV14 dc14 pm14 an14 cd14 ct14),sl14⟩) (c14:PySem.W.codeIn K cd14 "tells" = true) (k14:PySem.W.keepIn K (.ref f14)=true)
  (a15:PySem.W.nsIn K mainGlobals "_law_pot" = some (some (.ref f15)))
  (l15:K.lookup f15=some ⟨oc15,od15,.func (PySem.W.fnOf "_law_pot" "_law_pot" (z0k (top 25)) (z0i (top 25)) (z06 (top 25)) .none kV15 dc15 pm15 an15 cd15 ct15),sl15⟩) (c15:PySem.W.codeIn K cd15 "_law_pot" = true) (k15:PySem.W.keepIn K (.ref f15)=true)
  (a16:PySem.W.nsIn K mainGlobals "_law_take" = some (some (.ref f16)))
  (l16:K.lookup f16=some ⟨oc16,od16,.func (PySem.W.fnOf "_law_take" "_law_take" (z0k (top 26)) (z0i (top 26)) (z06 (top 26)) .none kV16 dc16 pm16 an16 cd16 ct16),sl16⟩) (c16:PySem.W.codeIn K cd16 "_law_take" = true) (k16:PySem.W.keepIn K (.ref f16)=true)
  (a17:PySem.W.nsIn K mainGlobals "_law_mixed" = some (some (.ref f17)))
  (l17:K.lookup f17=some ⟨oc17,od17,.func (PySem.W.fnOf "_law_mixed" "_law_mixed" (z0k (top 27)) (z0i (top 27)) (z06 (top 27)) .none kV17 dc17 pm17 an17 cd17 ct17),sl17⟩) (c17:PySem.W.codeIn K cd17 "_law_mixed" = true) (k17:PySem.W.keepIn K (.ref f17)=true)
  (a18:PySem.W.nsIn K mainGlobals "_law_kinds" = some (some (.ref f18)))
  (l18:K.lookup f18=some ⟨oc18,od18,.func (PySem.W.fnOf "_law_kinds" "_law_kinds" (z0k (top 28)) (z0i (top 28)) (z06 (top 28)) .none kV18 dc18 pm18 an18 cd18 ct18),sl18⟩) (c18:PySem.W.codeIn K cd18 "_law_kinds" = true) (k18:PySem.W.keepIn K (.ref f18)=true)
  (a19:PySem.W.nsIn K mainGlobals "_law_groups" = some (some (.ref f19)))
  (l19:K.lookup f19=some ⟨oc19,od19,.func (PySem.W.fnOf "_law_groups" "_law_groups" (z0k (top 29)) (z0i (top 29)) (z06 (top 29)) .none kV19 dc19 pm19 an19 cd19 ct19),sl19⟩) (c19:PySem.W.codeIn K cd19 "_law_groups" = true) (k19:PySem.W.keepIn K (.ref f19)=true)
  (a20:PySem.W.nsIn K mainGlobals "_law_half" = some (some (.ref f20)))
  (l20:K.lookup f20=some ⟨oc20,od20,.func (PySem.W.fnOf "_law_half" "_law_half" (z0k (top 30)) (z0i (top 30)) (z06 (top 30)) .none kV20 dc20 pm20 an20 cd20 ct20),sl20⟩) (c20:PySem.W.codeIn K cd20 "_law_half" = true) (k20:PySem.W.keepIn K (.ref f20)=true)
  (a21:PySem.W.nsIn K mainGlobals "_law_same" = some (some (.ref f21)))
  (l21:K.lookup f21=some ⟨oc21,od21,.func (PySem.W.fnOf "_law_same" "_law_same" (z0k (top 31)) (z0i (top 31)) (z06 (top 31)) .none kV21 dc21 pm21 an21 cd21 ct21),sl21⟩) (c21:PySem.W.codeIn K cd21 "_law_same" = true) (k21:PySem.W.keepIn K (.ref f21)=true)
  (a22:PySem.W.nsIn K mainGlobals "_law_answers" = some (some (.ref f22)))
  (l22:K.lookup f22=some ⟨oc22,od22,.func (PySem.W.fnOf "_law_answers" "_law_answers" (z0k (top 32)) (z0i (top 32)) (z06 (top 32)) .none kV22 dc22 pm22 an22 cd22 ct22),sl22⟩) (c22:PySem.W.codeIn K cd22 "_law_answers" = true) (k22:PySem.W.keepIn K (.ref f22)=true)
  (a23:PySem.W.nsIn K mainGlobals "_law_sorts" = some (some (.ref f23)))
  (l23:K.lookup f23=some ⟨oc23,od23,.func (PySem.W.fnOf "_law_sorts" "_law_sorts" (z0k (top 33)) (z0i (top 33)) (z06 (top 33)) .none kV23 dc23 pm23 an23 cd23 ct23),sl23⟩) (c23:PySem.W.codeIn K cd23 "_law_sorts" = true) (k23:PySem.W.keepIn K (.ref f23)=true)
  (a24:PySem.W.nsIn K mainGlobals "_law_fit" = some (some (.ref f24)))
  (l24:K.lookup f24=some ⟨oc24,od24,.func (PySem.W.fnOf "_law_fit" "_law_fit" (z0k (top 34)) (z0i (top 34)) (z06 (top 34)) .none kV24 dc24 pm24 an24 cd24 ct24),sl24⟩) (c24:PySem.W.codeIn K cd24 "_law_fit" = true) (k24:PySem.W.keepIn K (.ref f24)=true)
  (a25:PySem.W.nsIn K mainGlobals "_law_due" = some (some (.ref f25)))
  (l25:K.lookup f25=some ⟨oc25,od25,.func (PySem.W.fnOf "_law_due" "_law_due" (z0k (top 35)) (z0i (top 35)) (z06 (top 35)) .none kV25 dc25 pm25 an25 cd25 ct25),sl25⟩) (c25:PySem.W.codeIn K cd25 "_law_due" = true) (k25:PySem.W.keepIn K (.ref f25)=true)
  (a26:PySem.W.nsIn K mainGlobals "_law_repeated" = some (some (.ref f26)))
  (l26:K.lookup f26=some ⟨oc26,od26,.func (PySem.W.fnOf "_law_repeated" "_law_repeated" (z0k (top 36)) (z0i (top 36)) (z06 (top 36)) .none kV26 dc26 pm26 an26 cd26 ct26),sl26⟩) (c26:PySem.W.codeIn K cd26 "_law_repeated" = true) (k26:PySem.W.keepIn K (.ref f26)=true)
  (a27:PySem.W.nsIn K mainGlobals "_law_right" = some (some (.ref f27)))
  (l27:K.lookup f27=some ⟨oc27,od27,.func (PySem.W.fnOf "_law_right" "_law_right" (z0k (top 37)) (z0i (top 37)) (z06 (top 37)) .none kV27 dc27 pm27 an27 cd27 ct27),sl27⟩) (c27:PySem.W.codeIn K cd27 "_law_right" = true) (k27:PySem.W.keepIn K (.ref f27)=true)
  (a28:PySem.W.nsIn K mainGlobals "law" = some (some (.ref f28)))
  (l28:K.lookup f28=some ⟨oc28,od28,.func (PySem.W.fnOf "law" "law" (z0k (top 38)) (z0i (top 38)) (z06 (top 38)) .none kV28 dc28 pm28 an28 cd28 ct28),sl28⟩) (c28:PySem.W.codeIn K cd28 "law" = true) (k28:PySem.W.keepIn K (.ref f28)=true)
  {t_MOST_THINGS:Tok} (z_MOST_THINGS:PySem.W.nsIn K mainGlobals "MOST_THINGS" = some (some (.int 7 t_MOST_THINGS)))
  {p_OPEN:Addr} {o_OPEN:Obj} {t_OPEN:Tok} {n_OPEN:Nat} (z_OPEN:PySem.W.nsIn K mainGlobals "OPEN" = some (some (.ref p_OPEN))) (y_OPEN:K.lookup p_OPEN=some o_OPEN) (x_OPEN:o_OPEN.cls=.type "tuple") (w_OPEN:o_OPEN.data=.seq #[.str "open" t_OPEN] n_OPEN)
  (z_all:PySem.W.nsIn K mainGlobals "all" = some none)
  (z_max:PySem.W.nsIn K mainGlobals "max" = some none)
  (z_min:PySem.W.nsIn K mainGlobals "min" = some none)
  (z_range:PySem.W.nsIn K mainGlobals "range" = some none)
  (z_enumerate:PySem.W.nsIn K mainGlobals "enumerate" = some none)
  (z_list:PySem.W.nsIn K mainGlobals "list" = some none)
  (z_len:PySem.W.nsIn K mainGlobals "len" = some none)
  (z_sorted:PySem.W.nsIn K mainGlobals "sorted" = some none)
  (z_tuple:PySem.W.nsIn K mainGlobals "tuple" = some none)
  (z_isinstance:PySem.W.nsIn K mainGlobals "isinstance" = some none)
  (z_zip:PySem.W.nsIn K mainGlobals "zip" = some none)
  (z_str:PySem.W.nsIn K mainGlobals "str" = some none)
  (z_int:PySem.W.nsIn K mainGlobals "int" = some none)
  (z_bool:PySem.W.nsIn K mainGlobals "bool" = some none)
  (z_set:PySem.W.nsIn K mainGlobals "set" = some none)
  (zc_NoThing:PySem.W.nsIn K mainGlobals "NoThing" = some (some (.ref c_NoThing)))
  (zc_NoFit:PySem.W.nsIn K mainGlobals "NoFit" = some (some (.ref c_NoFit)))
  (zc_TooMany:PySem.W.nsIn K mainGlobals "TooMany" = some (some (.ref c_TooMany)))
  {nm_NoFit qn_NoFit N_NoFit bs_NoFit bm_NoFit hd_NoFit sn_NoFit su_NoFit ab_NoFit co_NoFit dd_NoFit k0_NoFit k1_NoFit k2_NoFit k3_NoFit k5_NoFit:_} (el_NoFit:K.lookup c_NoFit=some (excClassObj nm_NoFit qn_NoFit c_NoFit N_NoFit bs_NoFit bm_NoFit hd_NoFit sn_NoFit su_NoFit ab_NoFit co_NoFit dd_NoFit k0_NoFit k1_NoFit k2_NoFit k3_NoFit k5_NoFit "ValueError.__new__")) (et_NoFit:PySem.W.tailIn K zsm bm_NoFit=true) (en_NoFit:PySem.W.nsOkIn K N_NoFit=true) (ez_NoFit:PySem.W.nsIn K N_NoFit "__init__" = some none)
  {nm_NoThing qn_NoThing N_NoThing bs_NoThing bm_NoThing hd_NoThing sn_NoThing su_NoThing ab_NoThing co_NoThing dd_NoThing k0_NoThing k1_NoThing k2_NoThing k3_NoThing k5_NoThing:_} (el_NoThing:K.lookup c_NoThing=some (excClassObj nm_NoThing qn_NoThing c_NoThing N_NoThing bs_NoThing bm_NoThing hd_NoThing sn_NoThing su_NoThing ab_NoThing co_NoThing dd_NoThing k0_NoThing k1_NoThing k2_NoThing k3_NoThing k5_NoThing "ValueError.__new__")) (et_NoThing:PySem.W.tailIn K zsm bm_NoThing=true) (en_NoThing:PySem.W.nsOkIn K N_NoThing=true) (ez_NoThing:PySem.W.nsIn K N_NoThing "__init__" = some none)
  {nm_TooMany qn_TooMany N_TooMany bs_TooMany bm_TooMany hd_TooMany sn_TooMany su_TooMany ab_TooMany co_TooMany dd_TooMany k0_TooMany k1_TooMany k2_TooMany k3_TooMany k5_TooMany:_} (el_TooMany:K.lookup c_TooMany=some (excClassObj nm_TooMany qn_TooMany c_TooMany N_TooMany bs_TooMany bm_TooMany hd_TooMany sn_TooMany su_TooMany ab_TooMany co_TooMany dd_TooMany k0_TooMany k1_TooMany k2_TooMany k3_TooMany k5_TooMany "ValueError.__new__")) (et_TooMany:PySem.W.tailIn K zsm bm_TooMany=true) (en_TooMany:PySem.W.nsOkIn K N_TooMany=true) (ez_TooMany:PySem.W.nsIn K N_TooMany "__init__" = some none) :
  ∃ fd:FuncData,(∀ (s:Shared) (v:Value),BindsTo s fd ⟨[v],[]⟩ [("script",v)])∧∀ base:Heap,K.In base→base.Ns mainGlobals mg→FnOk l.prog w K mg base CX0 15 fa fd ["script"] (zmd K):=by
 have e:=hfa.symm.trans (PySem.W.mg_of X G a28)
 cases e
 have F1:=z13 (st:=(top 16)) l1 c1 k1
 have b1:=F1.binds (ps:=["many", "answers"]) fun _ _ _ _ _ _ us hl=>zd6 us hl fun _ _=>rfl
 have g1:=PySem.W.mg_of X G a1
 have F2:=z13 (st:=(top 17)) l2 c2 k2
 have b2:=F2.binds (ps:=["homes", "old", "new"]) fun _ _ _ _ _ _ us hl=>zxw us hl fun _ _ _=>rfl
 have g2:=PySem.W.mg_of X G a2
 have F3:=z13 (st:=(top 18)) l3 c3 k3
 have b3:=F3.binds (ps:=["answers"]) fun _ _ _ _ _ _ us hl=>zne us hl fun _=>rfl
 have g3:=PySem.W.mg_of X G a3
 have F4:=z13 (st:=(top 19)) l4 c4 k4
 have b4:=F4.binds (ps:=["many", "answers"]) fun _ _ _ _ _ _ us hl=>zd6 us hl fun _ _=>rfl
 have g4:=PySem.W.mg_of X G a4
 have F5:=z13 (st:=(top 20)) l5 c5 k5
 have b5:=F5.binds (ps:=["many", "answers"]) fun _ _ _ _ _ _ us hl=>zd6 us hl fun _ _=>rfl
 have g5:=PySem.W.mg_of X G a5
 have F6:=z13 (st:=(top 21)) l6 c6 k6
 have b6:=F6.binds (ps:=["kinds", "answers"]) fun _ _ _ _ _ _ us hl=>zd6 us hl fun _ _=>rfl
 have g6:=PySem.W.mg_of X G a6
 have F7:=z13 (st:=(top 9)) l7 c7 k7
 have b7:=F7.binds (ps:=["sort", "most"]) fun _ _ _ _ _ _ us hl=>zd6 us hl fun _ _=>rfl
 have g7:=PySem.W.mg_of X G a7
 have F8:=z13 (st:=(top 10)) l8 c8 k8
 have b8:=F8.binds (ps:=["many", "most"]) fun _ _ _ _ _ _ us hl=>zd6 us hl fun _ _=>rfl
 have g8:=PySem.W.mg_of X G a8
 have F9:=z13 (st:=(top 22)) l9 c9 k9
 have b9:=F9.binds (ps:=["many", "answers"]) fun _ _ _ _ _ _ us hl=>zd6 us hl fun _ _=>rfl
 have g9:=PySem.W.mg_of X G a9
 have F10:=z13 (st:=(top 7)) l10 c10 k10
 have b10:=F10.binds (ps:=["kinds"]) fun _ _ _ _ _ _ us hl=>zne us hl fun _=>rfl
 have g10:=PySem.W.mg_of X G a10
 have F11:=z13 (st:=(top 8)) l11 c11 k11
 have b11:=F11.binds (ps:=["kinds"]) fun _ _ _ _ _ _ us hl=>zne us hl fun _=>rfl
 have g11:=PySem.W.mg_of X G a11
 have F12:=z13 (st:=(top 13)) l12 c12 k12
 have b12:=F12.binds (ps:=["kinds"]) fun _ _ _ _ _ _ us hl=>zne us hl fun _=>rfl
 have g12:=PySem.W.mg_of X G a12
 have F13:=z13 (st:=(top 14)) l13 c13 k13
 have b13:=F13.binds (ps:=["ends"]) fun _ _ _ _ _ _ us hl=>zne us hl fun _=>rfl
 have g13:=PySem.W.mg_of X G a13
 have F14:=z13 (st:=(top 23)) l14 c14 k14
 have b14:=F14.binds (ps:=["many", "answers"]) fun _ _ _ _ _ _ us hl=>zd6 us hl fun _ _=>rfl
 have g14:=PySem.W.mg_of X G a14
 have F15:=z13 (st:=(top 25)) l15 c15 k15
 have b15:=F15.binds (ps:=["cell"]) fun _ _ _ _ _ _ us hl=>zne us hl fun _=>rfl
 have g15:=PySem.W.mg_of X G a15
 have F16:=z13 (st:=(top 26)) l16 c16 k16
 have b16:=F16.binds (ps:=["pot", "many"]) fun _ _ _ _ _ _ us hl=>zd6 us hl fun _ _=>rfl
 have g16:=PySem.W.mg_of X G a16
 have F17:=z13 (st:=(top 27)) l17 c17 k17
 have b17:=F17.binds (ps:=["pot", "row"]) fun _ _ _ _ _ _ us hl=>zd6 us hl fun _ _=>rfl
 have g17:=PySem.W.mg_of X G a17
 have F18:=z13 (st:=(top 28)) l18 c18 k18
 have b18:=F18.binds (ps:=["pot", "most"]) fun _ _ _ _ _ _ us hl=>zd6 us hl fun _ _=>rfl
 have g18:=PySem.W.mg_of X G a18
 have F19:=z13 (st:=(top 29)) l19 c19 k19
 have b19:=F19.binds (ps:=["kinds"]) fun _ _ _ _ _ _ us hl=>zne us hl fun _=>rfl
 have g19:=PySem.W.mg_of X G a19
 have F20:=z13 (st:=(top 30)) l20 c20 k20
 have b20:=F20.binds (ps:=["kinds"]) fun _ _ _ _ _ _ us hl=>zne us hl fun _=>rfl
 have g20:=PySem.W.mg_of X G a20
 have F21:=z13 (st:=(top 31)) l21 c21 k21
 have b21:=F21.binds (ps:=["found", "due"]) fun _ _ _ _ _ _ us hl=>zd6 us hl fun _ _=>rfl
 have g21:=PySem.W.mg_of X G a21
 have F22:=z13 (st:=(top 32)) l22 c22 k22
 have b22:=F22.binds (ps:=["pot", "kinds", "most"]) fun _ _ _ _ _ _ us hl=>zxw us hl fun _ _ _=>rfl
 have g22:=PySem.W.mg_of X G a22
 have F23:=z13 (st:=(top 33)) l23 c23 k23
 have b23:=F23.binds (ps:=["many"]) fun _ _ _ _ _ _ us hl=>zne us hl fun _=>rfl
 have g23:=PySem.W.mg_of X G a23
 have F24:=z13 (st:=(top 34)) l24 c24 k24
 have b24:=F24.binds (ps:=["many", "answers"]) fun _ _ _ _ _ _ us hl=>zd6 us hl fun _ _=>rfl
 have g24:=PySem.W.mg_of X G a24
 have F25:=z13 (st:=(top 35)) l25 c25 k25
 have b25:=F25.binds (ps:=["many", "answers"]) fun _ _ _ _ _ _ us hl=>zd6 us hl fun _ _=>rfl
 have g25:=PySem.W.mg_of X G a25
 have F26:=z13 (st:=(top 36)) l26 c26 k26
 have b26:=F26.binds (ps:=["pot", "answers"]) fun _ _ _ _ _ _ us hl=>zd6 us hl fun _ _=>rfl
 have g26:=PySem.W.mg_of X G a26
 have F27:=z13 (st:=(top 37)) l27 c27 k27
 have b27:=F27.binds (ps:=["many", "answers"]) fun _ _ _ _ _ _ us hl=>zd6 us hl fun _ _=>rfl
 have g27:=PySem.W.mg_of X G a27
 have F28:=z13 (st:=(top 38)) l28 c28 k28
 have m_all:=PySem.W.mg_none_of X G z_all
 have m_max:=PySem.W.mg_none_of X G z_max
 have m_min:=PySem.W.mg_none_of X G z_min
 have m_range:=PySem.W.mg_none_of X G z_range
 have m_enumerate:=PySem.W.mg_none_of X G z_enumerate
 have m_list:=PySem.W.mg_none_of X G z_list
 have m_len:=PySem.W.mg_none_of X G z_len
 have m_sorted:=PySem.W.mg_none_of X G z_sorted
 have m_tuple:=PySem.W.mg_none_of X G z_tuple
 have m_isinstance:=PySem.W.mg_none_of X G z_isinstance
 have m_zip:=PySem.W.mg_none_of X G z_zip
 have m_str:=PySem.W.mg_none_of X G z_str
 have m_int:=PySem.W.mg_none_of X G z_int
 have m_bool:=PySem.W.mg_none_of X G z_bool
 have m_set:=PySem.W.mg_none_of X G z_set
 have g_MOST_THINGS:mg "MOST_THINGS" = some (.int 7 t_MOST_THINGS)∧RelV (.int 7) (.int 7 t_MOST_THINGS)∧∀ W,DR K W (.int 7) (.int 7):=⟨PySem.W.mg_of X G z_MOST_THINGS,⟨_,rfl⟩,fun _=>.int _⟩
 have g_OPEN:mg "OPEN" = some (.ref p_OPEN)∧RelV (.ref p_OPEN) (.ref p_OPEN)∧∀ W,DR K W (.gt [.str "open"]) (.ref p_OPEN):=⟨PySem.W.mg_of X G z_OPEN,rfl,fun _=>.gt (vs:=[.str "open"]) (.inr ⟨o_OPEN,_,n_OPEN,y_OPEN,x_OPEN,w_OPEN,(show 1≤sizeLine from z41 (by decide)),.cons ⟨t_OPEN,rfl⟩ .nil⟩) (.cons (.str _) .nil)⟩
 have e_NoThing:mg "NoThing" = some (.ref c_NoThing)∧z3r K c_NoThing:=⟨PySem.W.mg_of X G zc_NoThing,_,_,_,_,_,_,_,_,_,_,_,_,_,_,_,_,el_NoThing,et_NoThing,en_NoThing,ez_NoThing⟩
 have e_NoFit:mg "NoFit" = some (.ref c_NoFit)∧z3r K c_NoFit:=⟨PySem.W.mg_of X G zc_NoFit,_,_,_,_,_,_,_,_,_,_,_,_,_,_,_,_,el_NoFit,et_NoFit,en_NoFit,ez_NoFit⟩
 have e_TooMany:mg "TooMany" = some (.ref c_TooMany)∧z3r K c_TooMany:=⟨PySem.W.mg_of X G zc_TooMany,_,_,_,_,_,_,_,_,_,_,_,_,_,_,_,_,el_TooMany,et_TooMany,en_TooMany,ez_TooMany⟩
 refine ⟨PySem.W.fnOf "law" "law" (z0k (top 38)) (z0i (top 38)) (z06 (top 38)) .none kV28 dc28 pm28 an28 cd28 ct28,fun s v=>.of_eq rfl,fun base _ _=>?_⟩
 have D_check_things:DfX l.prog w K mg base 1 "check_things" ["many", "answers"] (spX K (z1i c_NoThing)):=⟨_,_,z82 F1 e_NoThing,b1,k1,g1⟩
 have D_moved:Df l.prog w K mg base 1 "moved" ["homes", "old", "new"] (spM K (z1y)):=⟨_,_,zn6 F2,b2,k2,g2⟩
 have D_homes_of:Df l.prog w K mg base 2 "homes_of" ["answers"] (spM K (z1s z1y)):=⟨_,_,zdt F3 (D_moved) (by omega),b3,k3,g3⟩
 have D_can_be:DfX l.prog w K mg base 3 "can_be" ["many", "answers"] (spX K (zjo c_NoThing)):=⟨_,_,zji F4 (D_homes_of) (by omega) (D_check_things) (by omega) m_all,b4,k4,g4⟩
 have D_check_right:DfX l.prog w K mg base 4 "check_right" ["many", "answers"] (spX K (zdy c_NoThing c_NoFit)):=⟨_,_,z9n F5 (D_can_be) (by omega) e_NoFit,b5,k5,g5⟩
 have D_fits:Df l.prog w K mg base 1 "fits" ["kinds", "answers"] (spM K (z4m)):=⟨_,_,zr1 F6,b6,k6,g6⟩
 have D_one_thing_more:Df l.prog w K mg base 1 "one_thing_more" ["sort", "most"] (spM K (z0f)):=⟨_,_,z6p F7 m_max m_min m_range,b7,k7,g7⟩
 have D_all_sorts:DfX l.prog w K mg base 2 "all_sorts" ["many", "most"] (spX K (z1u z0f (.int 7) c_TooMany)):=⟨_,_,zc2 F8 (D_one_thing_more) (by omega) g_MOST_THINGS e_TooMany m_range,b8,k8,g8⟩
 have D_sorts_that_fit:DfX l.prog w K mg base 5 "sorts_that_fit" ["many", "answers"] (spX K (zgn c_NoThing c_NoFit c_TooMany)):=⟨_,_,z6o F9 (D_fits) (by omega) (D_check_right) (by omega) (D_all_sorts) (by omega),b9,k9,g9⟩
 have D_alike_things:Df l.prog w K mg base 1 "alike_things" ["kinds"] (spM K (z0x)):=⟨_,_,z83 F10 m_enumerate m_list,b10,k10,g10⟩
 have D_more_than_half:Df l.prog w K mg base 2 "more_than_half" ["kinds"] (spM K (z89)):=⟨_,_,z6q F11 (D_alike_things) (by omega) m_len,b11,k11,g11⟩
 have D_half_ends:Df l.prog w K mg base 3 "half_ends" ["kinds"] (spM K (z6b)):=⟨_,_,zc1 F12 (D_more_than_half) (by omega),b12,k12,g12⟩
 have D_common_end:Df l.prog w K mg base 1 "common_end" ["ends"] (spM K (z1c zkx)):=⟨_,_,zau F13 g_OPEN m_all,b13,k13,g13⟩
 have D_tells:DfX l.prog w K mg base 6 "tells" ["many", "answers"] (spX K (zdx c_NoThing c_NoFit c_TooMany)):=⟨_,_,zn5 F14 (D_common_end) (by omega) (D_half_ends) (by omega) (D_sorts_that_fit) (by omega),b14,k14,g14⟩
 have D_law_pot:Df l.prog w K mg base 1 "_law_pot" ["cell"] (spM K (z1k)):=⟨_,_,zgh F15 m_max,b15,k15,g15⟩
 have D_law_take:Df l.prog w K mg base 1 "_law_take" ["pot", "many"] (spM K (z0g)):=⟨_,_,zdq F16,b16,k16,g16⟩
 have D_law_mixed:Df l.prog w K mg base 2 "_law_mixed" ["pot", "row"] (spM K (zpc)):=⟨_,_,zbz F17 (D_law_take) (by omega) m_list m_len m_range,b17,k17,g17⟩
 have D_law_kinds:Df l.prog w K mg base 3 "_law_kinds" ["pot", "most"] (spM K (zs7)):=⟨_,_,zc0 F18 (D_law_take) (by omega) (D_law_mixed) (by omega) m_min m_range m_len m_sorted,b18,k18,g18⟩
 have D_law_groups:Df l.prog w K mg base 1 "_law_groups" ["kinds"] (spM K (z0y)):=⟨_,_,zas F19 m_len m_range,b19,k19,g19⟩
 have D_law_half:Df l.prog w K mg base 2 "_law_half" ["kinds"] (spM K (znd)):=⟨_,_,zds F20 (D_law_groups) (by omega) m_len,b20,k20,g20⟩
 have D_law_same:∀ n,Df l.prog w K mg base (1+n) "_law_same" ["found", "due"] (spM K (z3n n)):=fun n=>by
  induction n with
  | zero=>exact ⟨_,_,zkg,b21,k21,g21⟩
  | succ n ih=>exact (show Df l.prog w K mg base (1+n+1) "_law_same" ["found", "due"] (spM K (z3n (n+1))) from ⟨_,_,zdr F21 ih (by omega) m_tuple m_list m_isinstance m_len m_zip m_str m_int m_bool,b21,k21,g21⟩)
 have D_law_answers:Df l.prog w K mg base 2 "_law_answers" ["pot", "kinds", "most"] (spM K (zsa)):=⟨_,_,z9m F22 (D_law_take) (by omega) m_len m_int m_range,b22,k22,g22⟩
 have D_law_sorts:∀ n,Df l.prog w K mg base (1+n) "_law_sorts" ["many"] (spM K (z1b n)):=fun n=>by
  induction n with
  | zero=>exact ⟨_,_,zkg,b23,k23,g23⟩
  | succ n ih=>exact (show Df l.prog w K mg base (1+n+1) "_law_sorts" ["many"] (spM K (z1b (n+1))) from ⟨_,_,zbx F23 ih (by omega) m_len m_set m_range,b23,k23,g23⟩)
 have D_law_fit:Df l.prog w K mg base 12 "_law_fit" ["many", "answers"] (spM K (z1t (z1b 10))):=⟨_,_,zgi F24 (D_law_sorts 10) (by omega),b24,k24,g24⟩
 have D_law_due:Df l.prog w K mg base 13 "_law_due" ["many", "answers"] (spM K (z2v (z1t (z1b 10)) znd)):=⟨_,_,zgj F25 (D_law_fit) (by omega) (D_law_half) (by omega) m_range,b25,k25,g25⟩
 have D_law_repeated:Df l.prog w K mg base 2 "_law_repeated" ["pot", "answers"] (spM K (zgu)):=⟨_,_,z81 F26 (D_law_take) (by omega) m_int m_range m_len,b26,k26,g26⟩
 have D_law_right:Df l.prog w K mg base 14 "_law_right" ["many", "answers"] (spM K (zs4 c_NoThing c_NoFit c_TooMany)):=⟨_,_,zby F27 (D_law_due) (by omega) (Df.dn (D_tells)) (by omega) (D_law_same 10) (by omega) m_list,b27,k27,g27⟩
 exact zul (zud F28 (D_law_pot) (by omega) (D_law_kinds) (by omega) (D_law_answers) (by omega) (D_law_right) (by omega) (D_law_mixed) (by omega) (D_law_take) (by omega) (D_law_repeated) (by omega) m_len m_min m_range) (zq6 (C:=c_NoThing) (CF:=c_NoFit) (CT:=c_TooMany))
theorem walk {l:PySem.W.OpenLaw} {q:Program} {loose:List Str} {XP:(Str→Option Value)→Heap→Prop} {YP:World→Heap→Prop} {d:DefRec} {K:Params→PySem.W.Frag} (hn:l.most=some 63) (hdf:d.params.defaults=[])
  (hY:∀ (w:World) (h:Heap),YP w h→(K w.params).In h)
  (F:∀ (w:World) (mg:Str→Option Value) (fa:Addr) (h:Heap),(K w.params).In h→h.Ns mainGlobals mg→mg d.name=some (.ref fa) →
   ∃ fd:FuncData,(∀ (s:Shared) (u:Value),BindsTo s fd ⟨[u],[]⟩ [("script",u)])∧∀ base:Heap,(K w.params).In base→base.Ns mainGlobals mg→FnOk l.prog w (K w.params) mg base CX0 15 fa fd ["script"] (zmd (K w.params))) :
  PySem.W.WalkO q loose XP YP l.row.toRowW d [] (fun f vs=>PySem.call f vs) :=
 L2.walk_of (n:=63) (k:=15) (x := "script") (CX:=fun _=>CX0) (sp:=fun w=>zmd (K w.params)) hn (by decide) hdf ⟨rfl,by decide,by decide⟩ hY F (fun _ _ a ns hl hO hS=>⟨a,ns,rfl,hO,hS,hl,fun _=>rfl⟩) fun _ _ _ _ _ z=>z
end Law
open PySem PySem.W PyProof.Rows
set_option maxRecDepth 100000 in
set_option maxHeartbeats 0 in
theorem PySem.Challenge.cw_morethanhalf_k07_what_answers_tell_holds : PySem.Challenge.rw_morethanhalf_k07_what_answers_tell.Holds := by
 w_on;o_law;k_head;(case hw=>w_witness2)
 k_fill
 refine Law.walk (l:=PySem.Challenge.rw_morethanhalf_k07_what_answers_tell) rfl rfl (fun w h Y=>PySem.W.kIn_of Y) ?F
 case F =>
  intro w mg fa h KX G hmg
  refine' Law.all_mk KX G hmg ?a1 ?l1 ?c1 ?k1 ?a2 ?l2 ?c2 ?k2 ?a3 ?l3 ?c3 ?k3 ?a4 ?l4 ?c4 ?k4 ?a5 ?l5 ?c5 ?k5 ?a6 ?l6 ?c6 ?k6 ?a7 ?l7 ?c7 ?k7 ?a8 ?l8 ?c8 ?k8 ?a9 ?l9 ?c9 ?k9 ?a10 ?l10 ?c10 ?k10 ?a11 ?l11 ?c11 ?k11 ?a12 ?l12 ?c12 ?k12 ?a13 ?l13 ?c13 ?k13 ?a14 ?l14 ?c14 ?k14 ?a15 ?l15 ?c15 ?k15 ?a16 ?l16 ?c16 ?k16 ?a17 ?l17 ?c17 ?k17 ?a18 ?l18 ?c18 ?k18 ?a19 ?l19 ?c19 ?k19 ?a20 ?l20 ?c20 ?k20 ?a21 ?l21 ?c21 ?k21 ?a22 ?l22 ?c22 ?k22 ?a23 ?l23 ?c23 ?k23 ?a24 ?l24 ?c24 ?k24 ?a25 ?l25 ?c25 ?k25 ?a26 ?l26 ?c26 ?k26 ?a27 ?l27 ?c27 ?k27 ?a28 ?l28 ?c28 ?k28 ?z_MOST_THINGS ?z_OPEN ?y_OPEN ?x_OPEN ?w_OPEN ?z_all ?z_max ?z_min ?z_range ?z_enumerate ?z_list ?z_len ?z_sorted ?z_tuple ?z_isinstance ?z_zip ?z_str ?z_int ?z_bool ?z_set ?zc_NoThing ?zc_NoFit ?zc_TooMany ?el_NoFit ?et_NoFit ?en_NoFit ?ez_NoFit ?el_NoThing ?et_NoThing ?en_NoThing ?ez_NoThing ?el_TooMany ?et_TooMany ?en_TooMany ?ez_TooMany
  (case zc_NoThing=>k_is)
  (case zc_NoFit=>k_is)
  (case zc_TooMany=>k_is)
  (case a1=>k_is)
  (case l1=>k_is)
  (case c1=>k_is)
  (case k1=>k_is)
  (case a2=>k_is)
  (case l2=>k_is)
  (case c2=>k_is)
  (case k2=>k_is)
  (case a3=>k_is)
  (case l3=>k_is)
  (case c3=>k_is)
  (case k3=>k_is)
  (case a4=>k_is)
  (case l4=>k_is)
  (case c4=>k_is)
  (case k4=>k_is)
  (case a5=>k_is)
  (case l5=>k_is)
  (case c5=>k_is)
  (case k5=>k_is)
  (case a6=>k_is)
  (case l6=>k_is)
  (case c6=>k_is)
  (case k6=>k_is)
  (case a7=>k_is)
  (case l7=>k_is)
  (case c7=>k_is)
  (case k7=>k_is)
  (case a8=>k_is)
  (case l8=>k_is)
  (case c8=>k_is)
  (case k8=>k_is)
  (case a9=>k_is)
  (case l9=>k_is)
  (case c9=>k_is)
  (case k9=>k_is)
  (case a10=>k_is)
  (case l10=>k_is)
  (case c10=>k_is)
  (case k10=>k_is)
  (case a11=>k_is)
  (case l11=>k_is)
  (case c11=>k_is)
  (case k11=>k_is)
  (case a12=>k_is)
  (case l12=>k_is)
  (case c12=>k_is)
  (case k12=>k_is)
  (case a13=>k_is)
  (case l13=>k_is)
  (case c13=>k_is)
  (case k13=>k_is)
  (case a14=>k_is)
  (case l14=>k_is)
  (case c14=>k_is)
  (case k14=>k_is)
  (case a15=>k_is)
  (case l15=>k_is)
  (case c15=>k_is)
  (case k15=>k_is)
  (case a16=>k_is)
  (case l16=>k_is)
  (case c16=>k_is)
  (case k16=>k_is)
  (case a17=>k_is)
  (case l17=>k_is)
  (case c17=>k_is)
  (case k17=>k_is)
  (case a18=>k_is)
  (case l18=>k_is)
  (case c18=>k_is)
  (case k18=>k_is)
  (case a19=>k_is)
  (case l19=>k_is)
  (case c19=>k_is)
  (case k19=>k_is)
  (case a20=>k_is)
  (case l20=>k_is)
  (case c20=>k_is)
  (case k20=>k_is)
  (case a21=>k_is)
  (case l21=>k_is)
  (case c21=>k_is)
  (case k21=>k_is)
  (case a22=>k_is)
  (case l22=>k_is)
  (case c22=>k_is)
  (case k22=>k_is)
  (case a23=>k_is)
  (case l23=>k_is)
  (case c23=>k_is)
  (case k23=>k_is)
  (case a24=>k_is)
  (case l24=>k_is)
  (case c24=>k_is)
  (case k24=>k_is)
  (case a25=>k_is)
  (case l25=>k_is)
  (case c25=>k_is)
  (case k25=>k_is)
  (case a26=>k_is)
  (case l26=>k_is)
  (case c26=>k_is)
  (case k26=>k_is)
  (case a27=>k_is)
  (case l27=>k_is)
  (case c27=>k_is)
  (case k27=>k_is)
  (case a28=>k_is)
  (case l28=>k_is)
  (case c28=>k_is)
  (case k28=>k_is)
  (case z_MOST_THINGS=>k_is)
  (case z_OPEN=>k_is)
  (case y_OPEN=>k_is)
  (case x_OPEN=>rfl)
  (case w_OPEN=>rfl)
  (case z_all=>k_is)
  (case z_max=>k_is)
  (case z_min=>k_is)
  (case z_range=>k_is)
  (case z_enumerate=>k_is)
  (case z_list=>k_is)
  (case z_len=>k_is)
  (case z_sorted=>k_is)
  (case z_tuple=>k_is)
  (case z_isinstance=>k_is)
  (case z_zip=>k_is)
  (case z_str=>k_is)
  (case z_int=>k_is)
  (case z_bool=>k_is)
  (case z_set=>k_is)
  (case el_NoFit=>k_is)
  (case et_NoFit=>kernel_rfl)
  (case en_NoFit=>kernel_rfl)
  (case ez_NoFit=>k_is)
  (case el_NoThing=>k_is)
  (case et_NoThing=>kernel_rfl)
  (case en_NoThing=>kernel_rfl)
  (case ez_NoThing=>k_is)
  (case el_TooMany=>k_is)
  (case et_TooMany=>kernel_rfl)
  (case en_TooMany=>kernel_rfl)
  (case ez_TooMany=>k_is)
