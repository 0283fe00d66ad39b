import PyProof.Rows.All
import Wide.All
import OpenK.AllK
import Wide.FinOn
import Lean
import PyProof.EqAt
import PyProof.EqKinds
import PyProof.TupleCall
import PyProof.NsDelKeeps
import KE.KTryMore
import OpenK.KOwn
import PyProof.ExcBaseAll.ValueError
import PyProof.Rows.CountFlat
import PyProof.Rows.SeqMore2
import PyProof.SumWalkG
import PyProof.FitsBits
import PyProof.Rows.IntMath
import PyProof.P3Eq
import PyProof.ZipIter
import PyProof.TupleIter
import PyProof.TupleOfSeq
import PyProof.TupleOfGen
import PyProof.ListRange
import PyProof.Rows.SeqMore
import PySem.Challenge.RW_morethanhalf_k36_liars_that_fit
set_option Elab.async false
set_option linter.all false
set_option compiler.extract_closed false
set_option maxRecDepth 100000
set_option maxHeartbeats 0
theorem bq {p:Prop} (h:¬ p→False):p:=Classical.byContradiction h
namespace L2
open PySem PySem.Spec PyProof.Rows
noncomputable abbrev Key:=Sum Int Str
noncomputable def zr0:Key→Value→Bool
  | .inl k,v=>Value.isInt k v
  | .inr x,v=>Value.isStrOf x v
noncomputable def zux (w:World):Key→Int
  | .inl k=>hashInt k
  | .inr x=>hashStr w x
theorem z1b:∀ {k:Key} {v:Value},zr0 k v=true→(∃ i t,k=Sum.inl i∧v=Value.int i t)∨(∃ x t,k=Sum.inr x∧v=Value.str x t)
  | .inl i,v,h=>by
    obtain ⟨t,e⟩:=Value.isInt_shape (k:=i) (v:=v) h
    exact .inl ⟨i,t,rfl,e⟩
  | .inr x,v,h=>by
    refine bq fun bG=>?_
    obtain ⟨t,e⟩:=Value.isStrOf_shape (x:=x) (v:=v) h
    exact bG (.inr ⟨x,t,rfl,e⟩)
theorem zqz (a b:Int):decide ((Sum.inl a:Key)=Sum.inl b)=(a==b):=by
  by_cases e:a=b
  · subst e;simp
  · have h:¬ (Sum.inl a:Key)=Sum.inl b:=fun q=>e (Sum.inl.inj q)
    rw [decide_eq_false h]
    exact (beq_eq_false_iff_ne.mpr e).symm
theorem zqw (a b:Str):decide ((Sum.inr a:Key)=Sum.inr b)=decide (a=b):=by
  by_cases e:a=b
  · subst e;simp
  · have h:¬ (Sum.inr a:Key)=Sum.inr b:=fun q=>e (Sum.inr.inj q)
    rw [decide_eq_false h,decide_eq_false e]
theorem zqy (a:Int) (b:Str):decide ((Sum.inl a:Key)=Sum.inr b)=false:=decide_eq_false (fun q=>nomatch q)
theorem zqx (a:Str) (b:Int):decide ((Sum.inr a:Key)=Sum.inl b)=false:=decide_eq_false (fun q=>nomatch q)
noncomputable def zhd (prog:Program) (w:World):PySem.KeyKind prog w Key where
  is:=zr0
  hash:=zux w
  inj:=fun v a b ha hb=>by
    rcases z1b ha with ⟨i,t,rfl,rfl⟩ | ⟨x,t,rfl,rfl⟩
    · rcases z1b hb with ⟨j,u,rfl,e⟩ | ⟨y,u,rfl,e⟩
      · injection e with e1 _;rw [e1]
      · exact nomatch e
    · rcases z1b hb with ⟨j,u,rfl,e⟩ | ⟨y,u,rfl,e⟩
      · exact nomatch e
      · injection e with e1 _;rw [e1]
  byValue:=fun k v h=>by
    rcases z1b h with ⟨i,t,rfl,rfl⟩ | ⟨x,t,rfl,rfl⟩ <;> rfl
  pyHash:=fun hv h=>by
    rcases z1b hv with ⟨i,t,rfl,rfl⟩ | ⟨x,t,rfl,rfl⟩
    · exact wpAny_pyHash_int h
    · exact wpAny_pyHash_str h
  eqBool:=fun hu hv h=>by
    rcases z1b hu with ⟨i,t,rfl,rfl⟩ | ⟨x,t,rfl,rfl⟩
    · rcases z1b hv with ⟨j,u,rfl,rfl⟩ | ⟨y,u,rfl,rfl⟩
      · rw [zqz] at h;exact wpAny_eqBool_int h
      · rw [zqy] at h;exact SeqAt.EqAt.int_str i t y u _ _ _ _ h
    · rcases z1b hv with ⟨j,u,rfl,rfl⟩ | ⟨y,u,rfl,rfl⟩
      · rw [zqx] at h;exact SeqAt.EqAt.str_int x t j u _ _ _ _ h
      · rw [zqw] at h;exact wpAny_eqBool_str h
  «strs»:=fun k x t v h=>by
    rcases z1b h with ⟨i,u,rfl,e⟩ | ⟨y,u,rfl,e⟩
    · exact nomatch e
    · injection e with e1 _
      subst e1
      cases v <;> rfl
inductive V where
  | non | bl (b:Bool) | int (i:Int) | str (x:Str) | byt (b:Array UInt8) | flt (b:UInt64) | ref (a:Addr) | ty (n:String)
  deriving DecidableEq
def RelV:V→Value→Prop
  | .non,u=>u=Value.none
  | .bl b,u=>u=Value.bool b
  | .int i,u=>∃ t,u=Value.int i t
  | .str x,u=>∃ t,u=Value.str x t
  | .byt b,u=>∃ t,u=Value.bytes b t
  | .flt b,u=>∃ t,u=Value.float b t
  | .ref a,u=>u=Value.ref a
  | .ty n,u=>u=Value.type n
noncomputable abbrev Vals:List V→List Value→Prop:=Paired RelV
theorem Vals.length {xs:List V} {us:List Value} (r:Vals xs us):xs.length=us.length:=Paired.length r
theorem Vals.get:∀ {xs:List V} {us:List Value} {i:Nat} {x:V},Vals xs us→xs[i]?=some x→∃ u,us[i]?=some u∧RelV x u
  | _,_,_,_,.nil,e=>by simp at e
  | _,_,0,_,.cons r _,e=>by simp at e;subst e;exact ⟨_,rfl,r⟩
  | _,_,i+1,x,.cons _ t,e=>by
    refine bq fun bG=>?_
    obtain ⟨u,h1,h2⟩:=Vals.get (i:=i) (x:=x) t (by simpa using e)
    exact bG (⟨u,by simpa using h1,h2⟩)
theorem Vals.set {x:V} {u:Value} (r:RelV x u):∀ {xs:List V} {us:List Value} (i:Nat),Vals xs us→Vals (xs.set i x) (us.set i u)
  | _,_,_,.nil=>.nil
  | _,_,0,.cons _ t=>.cons r t
  | _,_,i+1,.cons q t=>.cons q (Vals.set r i t)
theorem Vals.append:∀ {xs ys:List V} {us ws:List Value},Vals xs us→Vals ys ws→Vals (xs++ys) (us++ws)
  | _,_,_,_,.nil,s=>s
  | _,_,_,_,.cons r t,s=>.cons r (Vals.append t s)
theorem Vals.take:∀ {xs:List V} {us:List Value} (n:Nat),Vals xs us→Vals (xs.take n) (us.take n)
  | _,_,0,_=>.nil
  | _,_,_+1,.nil=>.nil
  | _,_,n+1,.cons r t=>.cons r (Vals.take n t)
theorem Vals.drop:∀ {xs:List V} {us:List Value} (n:Nat),Vals xs us→Vals (xs.drop n) (us.drop n)
  | _,_,0,r=>r
  | _,_,_+1,.nil=>.nil
  | _,_,n+1,.cons _ t=>Vals.drop n t
def zud:Option V→Option Value→Prop
  | some v,some u=>RelV v u
  | none,none=>True
  | _,_=>False
def KV {κ:Type}:List (κ×V)→List (κ×Value)→Prop:=Paired fun (p:κ×V) (q:κ×Value)=>p.1=q.1∧RelV p.2 q.2
noncomputable def kV:Key→V
  | .inl i=>.int i
  | .inr x=>.str x
noncomputable abbrev NK:=List Int×Int
section
variable {P:Program} {w:World}
def NkIs (P:Program) (w:World) (h:Heap) (k:NK) (a:Addr):Prop:=∃ (o:Obj) (b:Addr) (t:Tok) (c:Nat),h.get? a=some o∧o.cls=.type "tuple" ∧ o.data=.seq #[.ref b,.int k.2 t] c∧IsTupleKey (intKind P w) h k.1 b
noncomputable def zha (P:Program) (w:World) (k:NK):Int:=reduceHash (Builtin.Tuple.tupleHashOf [tupleKeyHash (intKind P w) k.1,hashInt k.2])
variable {A:Around} {E:Value→Shared→Prop} {s:Shared} {k m:NK} {a b:Addr}
theorem NkIs.ty (x:NkIs P w s.heap k a):s.TypeIs (.ref a) "tuple" := let ⟨o,_,_,_,h1,h2,_⟩:=x;⟨o,h1,h2⟩
theorem NkIs.inj {h:Heap} (x:NkIs P w h k a) (y:NkIs P w h m a):k=m:=by
  obtain ⟨o,b,t,c,h1,_,h3,h4⟩:=x
  obtain ⟨o',b',t',c',g1,_,g3,g4⟩:=y
  rw [h1] at g1;cases g1
  rw [h3] at g3
  obtain ⟨k1,k2⟩:=k
  obtain ⟨m1,m2⟩:=m
  simp only [Data.seq.injEq,Array.mk.injEq,List.cons.injEq,Value.ref.injEq,Value.int.injEq] at g3
  obtain ⟨⟨e1,⟨e2,_⟩,_⟩,_⟩:=g3
  subst e1;subst e2
  have:=h4.inj g4
  simp only at this
  subst this
  rfl
theorem NkIs.keeps {h h':Heap} {d:Addr} {o:Obj} {es ep} (x:NkIs P w h k a) (ho:h.get? d=some o) (hd:o.data=.dict es ep) (hs:Heap.SameBut d h h'):NkIs P w h' k a:=by
  obtain ⟨q,b,t,c,h1,h2,h3,h4⟩:=x
  refine ⟨q,b,t,c,(hs.2 a ?_).trans h1,h2,h3,h4.keeps ho hd hs⟩
  intro e
  subst e
  rw [ho] at h1
  cases h1
  rw [h3] at hd
  cases hd
theorem znp {Q:Int→Shared→Prop} (hu:A.units+4<cLine) (x:NkIs P w s.heap k a) (h:Q (zha P w k) { s with toks:=s.toks+(k.1.length+3) }):wpAny (model P w) A (pyHash (.ref a)) Q E s:=by
  have hT:=x.ty
  obtain ⟨o,b,t,c,h1,_,h3,h4⟩:=x
  unfold pyHash
  first | unfold pyHashByItsType | skip
  first | refine wpAny_bind (wpAny_cRoomFor_or (.inr (by omega)) ?_) | skip
  refine wpAny_bind (wpAny_specialOf hT F.slot_tuple_hash.lookup ?_)
  show wpAny _ _ (if (some (Value.builtin "tuple.__hash__")==some Value.none)=true then _ else _) Q E s
  rw [if_neg (by rw [beq_builtin_none];exact Bool.false_ne_true)]
  refine wpAny_bind (wpAny_specialOf hT F.slot_tuple_hash.lookup ?_)
  show wpAny _ _ (callSpecialIfBoundUnlessNone? (.ref a) "__hash__" _ >>= _) Q E s
  refine wpAny_bind (wpAny_callSpecialIfBoundUnlessNone?_slot hT F.slot_tuple_hash (wpAny_call_entry F.slot_tuple_hash hT F.entry_tuple_hash ?_ (F.args_tuple_hash_1 _)))
  show wpAny _ _ (Builtin.Tuple.tupleItemsOf (.ref a) >>= _) _ _ s
  refine wpAny_bind (wpAny_tupleItemsOf h1 h3 ?_)
  refine wpAny_bind ?_
  rw [← Array.forIn_toList]
  show wpAny _ _ (forIn [Value.ref b,Value.int k.2 t] (#[]:Array Int) _) _ _ _
  rw [List.forIn_cons]
  refine wpAny_bind (wpAny_bind (wpAny_pyHash_tuple (show A.in1.units<cLine by show A.units+1<cLine;omega) h4 (wpAny_pure ?_)))
  show wpAny _ _ (forIn [Value.int k.2 t] (#[tupleKeyHash (intKind P w) k.1]:Array Int) _) _ _ _
  rw [List.forIn_cons]
  refine wpAny_bind (wpAny_bind ((intKind P w).pyHash (k:=k.2) (by simp [intKind,Value.isInt]) (wpAny_pure ?_)))
  show wpAny _ _ (forIn [] (#[tupleKeyHash (intKind P w) k.1,hashInt k.2]:Array Int) _) _ _ _
  rw [List.forIn_nil]
  refine wpAny_pure ?_
  show wpAny _ _ (retInt (Builtin.Tuple.tupleHashOf [tupleKeyHash (intKind P w) k.1,hashInt k.2])) _ _ _
  refine wpAny_ret_mkInt ?_
  have et:s.toks+(k.1.length+1)+1+1=s.toks+(k.1.length+3):=by omega
  unfold zha reduceHash at h
  generalize Builtin.Tuple.tupleHashOf [tupleKeyHash (intKind P w) k.1,hashInt k.2]=z at h ⊢
  show wpAny _ _ (ite ((decide (-(2:Int) ^ 63≤z)&&decide (z<2 ^ 63))=true) _ _) Q E _
  rw [← et] at h
  by_cases hr:(decide (-(2:Int) ^ 63≤z)&&decide (z<2 ^ 63))=true
  · rw [if_pos hr] at h ⊢
    exact wpAny_pure h
  · rw [if_neg hr] at h ⊢
    exact wpAny_bind (wpAny_rule (wpAny_pure h))
theorem zh9 {Q:Fin→Shared→Prop} (hu:A.units<cLine) (x:NkIs P w s.heap k a) (y:NkIs P w s.heap m b) (h:Q (.done (.ret (.bool (decide (k=m))))) s):wpAny (model P w) A (Builtin.«tuple.__eq__» ⟨[.ref a,.ref b],[]⟩) Q E s:=by
  have hTb:=y.ty
  obtain ⟨o,b1,t,c,h1,_,h3,h4⟩:=x
  obtain ⟨o',b1',t',c',g1,_,g3,g4⟩:=y
  show wpAny _ _ (isInstance (.ref b) (.type "tuple") >>= _) _ _ s
  refine wpAny_bind (wpAny_isInstance hTb isSubtype_tuple_tuple ?_)
  simp only [Bool.not_true,Bool.false_eq_true,if_false]
  refine wpAny_bind (wpAny_tupleItemsOf h1 h3 ?_)
  refine wpAny_bind (wpAny_tupleItemsOf g1 g3 ?_)
  refine wpAny_bind ?_
  show wpAny _ _ (forIn [(Value.ref b1,Value.ref b1'),(Value.int k.2 t,Value.int m.2 t')] ((none:Option PySem.Fin),()) _) _ _ _
  rw [List.forIn_cons]
  refine wpAny_bind (wpAny_bind (wpAny_eqBool_tuple hu h4 g4 ?_))
  by_cases e1:k.1=m.1
  · rw [decide_eq_true e1]
    simp only [Bool.not_true,Bool.false_eq_true,if_false]
    refine wpAny_pure ?_
    show wpAny _ _ (forIn [(Value.int k.2 t,Value.int m.2 t')] ((none:Option PySem.Fin),()) _) _ _ _
    rw [List.forIn_cons]
    refine wpAny_bind (wpAny_bind ((intKind P w).eqBool (a:=k.2) (b:=m.2) (by simp [intKind,Value.isInt]) (by simp [intKind,Value.isInt]) ?_))
    by_cases e2:k.2=m.2
    · have e:k=m:=Prod.ext e1 e2
      rw [decide_eq_true e] at h
      rw [decide_eq_true e2]
      simp only [Bool.not_true,Bool.false_eq_true,if_false]
      refine wpAny_pure ?_
      show wpAny _ _ (forIn [] ((none:Option PySem.Fin),()) _) _ _ _
      rw [List.forIn_nil]
      refine wpAny_pure ?_
      exact wpAny_pure h
    · have e:¬ k=m:=fun z=>e2 (by rw [z])
      rw [decide_eq_false e] at h
      rw [decide_eq_false e2]
      simp only [Bool.not_false,if_true]
      exact wpAny_bind (wpAny_pure (wpAny_pure (wpAny_pure (wpAny_pure h))))
  · have e:¬ k=m:=fun z=>e1 (by rw [z])
    rw [decide_eq_false e] at h
    rw [decide_eq_false e1]
    simp only [Bool.not_false,if_true]
    exact wpAny_bind (wpAny_pure (wpAny_pure (wpAny_pure (wpAny_pure h))))
theorem zt3 {Q:Bool→Shared→Prop} (hu:A.units+4<cLine) (x:NkIs P w s.heap k a) (y:NkIs P w s.heap m b) (h:Q (decide (k=m)) s):wpAny (model P w) A (eqBool (.ref a) (.ref b)) Q E s:=by
  unfold eqBool
  try with_reducible refine wpAny_holding ?_
  show wpAny _ _ (ite ((Value.ref a==Value.ref b)=true) _ _) Q E s
  by_cases hab:a=b
  · subst hab
    rw [if_pos (by simp)]
    have:=x.inj y
    subst this
    exact wpAny_bind (wpAny_rule (wpAny_pure (by simpa using h)))
  · rw [if_neg (by simpa using hab)]
    exact wpAny_bind (wpAny_richCompare_same_room (op:=.Eq) x.ty y.ty F.slot_tuple_eq (wpAny_call_entry F.slot_tuple_eq x.ty F.entry_tuple_eq (zh9 (by show A.units+1<cLine;omega) x y ⟨_,rfl,(fun e=>nomatch e),wpAny_truthy_bool h⟩) (F.args_tuple_eq_2 _ _)) (by omega))
theorem zgv {ks:List Int} {n:Nat} {Q:Bool→Shared→Prop} (x:IsTupleKey (intKind P w) s.heap ks a) (h:Q true s):wpAny (model P w) A (eqIsQuiet (n+1) (.ref a)) Q E s:=by
  have hT:=x.typeIs
  obtain ⟨o,items,c,h1,_,h3,h4⟩:=x
  unfold eqIsQuiet
  refine wpAny_bind (wpAny_specialOf hT F.slot_tuple_eq.lookup ?_)
  show wpAny _ _ (isInstance (.ref a) (.type "tuple") >>= _) _ _ s
  refine wpAny_bind (wpAny_isInstance hT isSubtype_tuple_tuple ?_)
  simp only [Bool.not_true,Bool.false_eq_true,if_false]
  refine wpAny_bind (wpAny_seqItems h1 h3 ?_)
  refine wpAny_bind ?_
  show wpAny _ _ (forIn items _ _) _ _ s
  rw [← Array.forIn_toList]
  refine wpAny_forIn_list _ (fun z4d r s'=>r.1=none∧s'=s∧∀ v∈z4d,carriedByValue v=true) _ ?_ ?_ _ _ ⟨rfl,rfl,h4.byValue⟩
  · intro v z4d r s' q
    obtain ⟨_,e,q⟩:=q
    subst e
    rw [eqIsQuiet_byValue _ (q v (by simp))]
    refine wpAny_bind (wpAny_pure ?_)
    simp only [Bool.not_true,Bool.false_eq_true,if_false]
    exact wpAny_pure ⟨rfl,rfl,fun u hu=>q u (by simp [hu])⟩
  · intro r s' q
    obtain ⟨r1,r2⟩:=r
    obtain ⟨e1,e2,_⟩:=q
    cases e1
    subst e2
    exact wpAny_pure h
theorem zkg {Q:Bool→Shared→Prop} (x:NkIs P w s.heap k a) (h:Q true s):wpAny (model P w) A (eqIsQuiet 8 (.ref a)) Q E s:=by
  have hT:=x.ty
  obtain ⟨o,b,t,c,h1,_,h3,h4⟩:=x
  unfold eqIsQuiet
  refine wpAny_bind (wpAny_specialOf hT F.slot_tuple_eq.lookup ?_)
  show wpAny _ _ (isInstance (.ref a) (.type "tuple") >>= _) _ _ s
  refine wpAny_bind (wpAny_isInstance hT isSubtype_tuple_tuple ?_)
  simp only [Bool.not_true,Bool.false_eq_true,if_false]
  refine wpAny_bind (wpAny_seqItems h1 h3 ?_)
  refine wpAny_bind ?_
  rw [← Array.forIn_toList]
  show wpAny _ _ (forIn [Value.ref b,Value.int k.2 t] _ _) _ _ s
  rw [List.forIn_cons]
  refine wpAny_bind (wpAny_bind (zgv h4 ?_))
  simp only [Bool.not_true,Bool.false_eq_true,if_false]
  refine wpAny_pure ?_
  show wpAny _ _ (forIn [Value.int k.2 t] _ _) _ _ s
  rw [List.forIn_cons,eqIsQuiet_byValue _ rfl]
  refine wpAny_bind (wpAny_bind (wpAny_pure ?_))
  simp only [Bool.not_true,Bool.false_eq_true,if_false]
  refine wpAny_pure ?_
  show wpAny _ _ (forIn [] _ _) _ _ s
  rw [List.forIn_nil]
  exact wpAny_pure (wpAny_pure h)
end
noncomputable def zqs (P:Program) (w:World):HeapKind P w NK where
  is:=NkIs P w
  hash:=zha P w
  draws:=fun k=>k.1.length+3
  room:=fun A=>A.units+4<cLine
  inj:=fun x y=>x.inj y
  keeps:=fun x h1 h2 h3=>x.keeps h1 h2 h3
  pyHash:=fun h x q=>znp h x q
  eqBool:=fun h x y q=>zt3 h x y q
  quiet:=fun x q=>zkg x q
inductive HO where
  | lst (xs:List V)
  | tup (xs:List V)
  | dK (kvs:List (Key×V)) | dT (kvs:List (NK×V))
  | set (S:Int→Bool) (n:Nat)
  | ins (C dx:Addr) (fs:List (Str×V))
  | own (x:Addr)
  | xd (fs:List (Str×V))
  | met (f x:Addr)
  | rng (lo hi:Int)
  | frz (o:Obj) (u:HO)
  | tbl (ps:Array Value)
  | ext (φ:Heap→Prop)
noncomputable abbrev Hp:=Addr→Option HO
def NKey (H:Hp) (b:Addr) (k:NK):Prop:=∃ c,H b=some (.tup [.ref c,.int k.2])∧H c=some (.tup (k.1.map V.int))
theorem NKey.up {H H':Hp} {b:Addr} {k:NK} (e:NKey H b k) (ht:∀ b xs,H b=some (.tup xs)→H' b=some (.tup xs)):NKey H' b k:=let ⟨c,h1,h2⟩:=e;⟨c,ht _ _ h1,ht _ _ h2⟩
noncomputable def upd (H:Hp) (a:Addr) (o:HO):Hp:=fun b=>if b=a then some o else H b
theorem z0i {H:Hp} {a:Addr} {o:HO}:upd H a o a=some o:=by unfold upd;rw [if_pos rfl]
theorem z09 {H:Hp} {a b:Addr} {o:HO} (h:b≠a):upd H a o b=H b:=by unfold upd;rw [if_neg h]
theorem z0b {H:Hp} {a b:Addr} {o:HO} (h:H a=some o) (h':H b=none):a≠b:=by
  intro e;subst e;rw [h] at h';cases h'
section
variable (P:Program) (w:World)
def ObjOk (H:Hp) (h:Heap) (a:Addr):HO→Prop
  | .lst xs=>xs.length≤sizeLine∧∃ (its:List Value) (n:Nat),Vals xs its∧h.get? a=some { cls:=.type "list",data:=.seq its.toArray n }
  | .tup xs=>xs.length≤sizeLine∧∃ its:List Value,Vals xs its∧IsTup h a its.toArray
  | .dK kvs=>kvs.length≤sizeLine∧(a==sysModules)=false∧∃ vs,KV kvs vs∧h.DictOf (zhd P w) a vs
  | .dT kvs=>kvs.length≤sizeLine∧(a==sysModules)=false∧∃ xs:List (NK×Addr×Value),
      Paired (fun (p:NK×V) (q:NK×Addr×Value)=>p.1=q.1∧NKey H q.2.1 p.1∧RelV p.2 q.2.2) kvs xs ∧
      ∃ o es ep,h.get? a=some o∧o.ExactDict∧o.data=.dict es ep∧es.toList=xs.map (entryOfKey (zqs P w))∧(xs.map (·.1)).Nodup
  | .set S n=>h.SetOf (intKind P w) a S n
  | .ins C dx fs=>H dx=some (.own a)∧fs.length≤1000∧dx≠a∧h.get? a=some (PySem.W.instObj C dx) ∧
      ∃ mA,h.Ns1 dx mA∧(∀ f,zud (fs.lookup f) (mA f))∧PySem.Within mA (fs.map (·.1))
  | .own _=>∃ o,h.get? a=some o
  | .xd fs=>∃ mA,h.Ns1 a mA∧∀ f,zud (fs.lookup f) (mA f)
  | .rng lo hi=>∃ t u v,h.get? a=some { cls:=.type "range",data:=.fields #[.int lo t,.int hi u,.int 1 v] }
  | .frz o u=>h.get? a=some o∧ObjOk H h a u
  | .tbl ps=>h.get? a=some { cls:=.none,data:=.fields ps }
  | .met f x=>h.get? a=some (PySem.W.methodObj (.ref f) (.ref x))
  | .ext φ=>φ h∧(∃ o,h.get? a=some o)∧∀ h1 h2:Heap,φ h1→(∀ o,h1.get? a=some o→h2.get? a=some o)→φ h2
def HOk (H:Hp) (h:Heap):Prop:=∀ a o,H a=some o→ObjOk P w H h a o
end
section
variable {P:Program} {w:World} {H H':Hp} {h h':Heap} {a:Addr} {o:HO}
theorem ObjOk.lt (x:ObjOk P w H h a o):a<h.objs.size:=by
  cases o with
  | lst xs=>obtain ⟨_,_,_,_,e⟩:=x;exact Heap.lt_size e
  | tup xs=>obtain ⟨_,_,_,p⟩:=x;exact p.lt
  | dK kvs=>obtain ⟨_,_,_,_,o,_,_,e,_⟩:=x;exact Heap.lt_size e
  | dT kvs=>obtain ⟨_,_,_,_,o,_,_,e,_⟩:=x;exact Heap.lt_size e
  | set S n=>obtain ⟨o,_,_,_,e,_⟩:=x;exact Heap.lt_size e
  | ins C dx fs=>obtain ⟨_,_,_,e,_⟩:=x;exact Heap.lt_size e
  | own y=>obtain ⟨_,e⟩:=x;exact Heap.lt_size e
  | xd fs=>obtain ⟨_,⟨_,_,_,e,_⟩,_⟩:=x;exact Heap.lt_size e
  | rng lo hi=>obtain ⟨_,_,_,e⟩:=x;exact Heap.lt_size e
  | frz ob u=>obtain ⟨e,_⟩:=x;exact Heap.lt_size e
  | tbl ps=>exact Heap.lt_size (show h.get? a=some _ from x)
  | met f y=>exact Heap.lt_size (show h.get? a=some _ from x)
  | ext φ=>obtain ⟨_,⟨_,e⟩,_⟩:=x;exact Heap.lt_size e
theorem Paired.mapP {α β:Type} {F G:α→β→Prop}:∀ {l₁:List α} {l₂:List β},Paired F l₁ l₂→(∀ a b,F a b→G a b)→Paired G l₁ l₂
  | _,_,.nil,_=>.nil
  | _,_,.cons r t,f=>.cons (f _ _ r) (Paired.mapP t f)
theorem ObjOk.stay (x:ObjOk P w H h a o) (k:∀ b u,(b=a∨H b=some (.own a))→h.get? b=some u→h'.get? b=some u)
    (ho:∀ b,H b=some (.own a)→H' b=some (.own a)) (ht:∀ b xs,H b=some (.tup xs)→H' b=some (.tup xs)):ObjOk P w H' h' a o:=by
  induction o with
  | lst xs=>obtain ⟨z,its,n,r,e⟩:=x;exact ⟨z,its,n,r,k _ _ (.inl rfl) e⟩
  | tup xs=>obtain ⟨z,its,r,ob,e,c⟩:=x;exact ⟨z,its,r,ob,k _ _ (.inl rfl) e,c⟩
  | dK kvs=>obtain ⟨z,y,vs,r,ob,es,ep,e,c⟩:=x;exact ⟨z,y,vs,r,ob,es,ep,k _ _ (.inl rfl) e,c⟩
  | dT kvs =>
    obtain ⟨z,y,xs,r,ob,es,ep,e,c⟩:=x
    exact ⟨z,y,xs,Paired.mapP r fun p q z=>⟨z.1,z.2.1.up ht,z.2.2⟩,ob,es,ep,k _ _ (.inl rfl) e,c⟩
  | set S n=>obtain ⟨ob,es,ep,t,e,c⟩:=x;exact ⟨ob,es,ep,t,k _ _ (.inl rfl) e,c⟩
  | ins C dx fs =>
    obtain ⟨d,z,ne,e,mA,⟨od,es,ep,e2,c⟩,r⟩:=x
    exact ⟨ho _ d,z,ne,k _ _ (.inl rfl) e,mA,⟨od,es,ep,k _ _ (.inr d) e2,c⟩,r⟩
  | own y=>obtain ⟨ob,e⟩:=x;exact ⟨ob,k _ _ (.inl rfl) e⟩
  | xd fs=>obtain ⟨mA,⟨od,es,ep,e,c⟩,r⟩:=x;exact ⟨mA,⟨od,es,ep,k _ _ (.inl rfl) e,c⟩,r⟩
  | rng lo hi=>obtain ⟨t,u,v,e⟩:=x;exact ⟨t,u,v,k _ _ (.inl rfl) e⟩
  | frz ob u ih=>obtain ⟨e,q⟩:=x;exact ⟨k _ _ (.inl rfl) e,ih q⟩
  | tbl ps =>
    have e:h.get? a=some { cls:=.none,data:=.fields ps }:=x
    show h'.get? a=some { cls:=.none,data:=.fields ps }
    exact k a _ (.inl rfl) e
  | met f y =>
    have e:h.get? a=some (PySem.W.methodObj (.ref f) (.ref y)):=x
    show h'.get? a=some (PySem.W.methodObj (.ref f) (.ref y))
    exact k a _ (.inl rfl) e
  | ext φ=>obtain ⟨p,⟨o,e⟩,st⟩:=x;exact ⟨st _ _ p fun o q=>k _ _ (.inl rfl) q,⟨o,k _ _ (.inl rfl) e⟩,st⟩
theorem HOk.lt (x:HOk P w H h) (e:H a=some o):a<h.objs.size:=(x a o e).lt
theorem HOk.fresh (x:HOk P w H h) (e:h.objs.size≤a):H a=none:=by
  cases q:H a with
  | none=>rfl
  | some u=>exact absurd (Nat.lt_of_lt_of_le (x.lt q) e) (Nat.lt_irrefl _)
theorem HOk.kept (x:HOk P w H h) (k:∀ b u,h.get? b=some u→h'.get? b=some u):HOk P w H h':=fun a o e =>
  (x a o e).stay (fun b u _ q=>k b u q) (fun _ q=>q) fun _ _ q=>q
theorem HOk.laid (x:HOk P w H h) (k:∀ b u,h.get? b=some u→h'.get? b=some u) (hp:h.objs.size≤a) (new:ObjOk P w (upd H a o) h' a o):HOk P w (upd H a o) h':=fun b u e=>by
  have hn:=x.fresh hp
  by_cases hb:b=a
  · subst hb;rw [z0i] at e;cases e;exact new
  · rw [z09 hb] at e
    exact (x b u e).stay (fun c v _ q=>k c v q) (fun c q=>by rw [z09 (z0b q hn)];exact q) fun c xs q=>by rw [z09 (z0b q hn)];exact q
end
def Rd (H:Hp) (a:Addr) (u:HO):Prop:=H a=some u∨∃ o,H a=some (.frz o u)
theorem Rd.ok {P:Program} {w:World} {H:Hp} {h:Heap} {a:Addr} {u:HO} (r:Rd H a u) (x:HOk P w H h):ObjOk P w H h a u:=by
  rcases r with r | ⟨o,r⟩
  · exact x a u r
  · obtain ⟨_,q⟩:=x a _ r
    exact q
def Mut:Option HO→Prop
  | some (.lst _)=>True
  | some (.dK _)=>True
  | some (.dT _)=>True
  | some (.set _ _)=>True
  | some (.ins _ _ _)=>True
  | some (.ext _)=>True
  | _=>False
section
variable {P:Program} {w:World} {H:Hp} {h h':Heap} {x e:Addr} {o':HO}
theorem HOk.write (ok:HOk P w H h) (mu:Mut (H x)) (he:e=x∨H e=some (.own x)) (k:∀ b u,b≠e→h.get? b=some u→h'.get? b=some u) (heo:∃ u,h'.get? e=some u)
    (new:ObjOk P w (upd H x o') h' x o'):HOk P w (upd H x o') h':=fun b u q=>by
  have nown:∀ c y,H c=some (.own y)→c≠x:=fun c y r z=>by subst z;rw [r] at mu;exact mu
  have ntup:∀ c xs,H c=some (.tup xs)→c≠x:=fun c xs r z=>by subst z;rw [r] at mu;exact mu
  by_cases hb:b=x
  · subst hb;rw [z0i] at q;cases q;exact new
  · rw [z09 hb] at q
    by_cases hbe:b=e
    · have q':H b=some (.own x):=by
        rcases he with z | z
        · exact absurd (hbe.trans z) hb
        · rw [hbe];exact z
      rw [q] at q';cases q'
      obtain ⟨v,hv⟩:=heo
      exact ⟨v,by rw [hbe];exact hv⟩
    · refine (ok b u q).stay (fun c v hc r=>k c v ?_ r) (fun c r=>by rw [z09 (nown c b r)];exact r) fun c xs r=>by rw [z09 (ntup c xs r)];exact r
      rcases hc with rfl | hc
      · exact hbe
      · rintro rfl
        rcases he with z | z
        · exact nown c b hc z
        · rw [hc] at z;cases z;exact hb rfl
end
structure Un (fs ex:List Addr) (H H':Hp) (h h':Heap):Prop where
  keep:∀ b o,h.get? b=some o→H b=none→b∉fs→b∉ex→h'.get? b=some o
  slot:∀ b o,h.get? b=some o→H b=none→b∈fs→b∉ex→∃ sl,h'.get? b=some { o with slots:=sl }
  free:∀ b o,h.get? b=some o→H b=none→b∉ex→H' b=none
  there:∀ b o,h.get? b=some o→b∉ex→∃ o',h'.get? b=some o'
  tups:∀ b xs,H b=some (.tup xs)→H' b=some (.tup xs)
  frzs:∀ b o u,H b=some (.frz o u)→H' b=some (.frz o u)
  tbls:∀ b ps,H b=some (.tbl ps)→∃ za4,H' b=some (.tbl (ps++za4))
section
variable {fs fs' ex ex':List Addr} {H H1 H2:Hp} {h h1 h2 h':Heap} {a x e:Addr} {o:HO}
theorem Un.any (u:Un fs ex H H1 h h1) {b:Addr} {ob:Obj} (q:h.get? b=some ob) (n:H b=none) (hx:b∉ex):∃ sl,h1.get? b=some { ob with slots:=sl }:=by
  by_cases hb:b∈fs
  · exact u.slot b ob q n hb hx
  · exact ⟨ob.slots,u.keep b ob q n hb hx⟩
theorem Un.kept (k:∀ b u,h.get? b=some u→h'.get? b=some u):Un fs ex H H h h' :=
  ⟨fun b ob q _ _ _=>k b ob q,fun b ob q _ _ _=>⟨ob.slots,k b ob q⟩,fun _ _ _ n _=>n,fun b ob q _=>⟨ob,k b ob q⟩,fun _ _ q=>q,fun _ _ _ q=>q,fun _ ps q=>⟨#[],by rw [q];simp⟩⟩
theorem Un.refl:Un fs ex H H h h:=Un.kept fun _ _ q=>q
theorem Un.laid (k:∀ b u,h.get? b=some u→h'.get? b=some u) (hp:h.objs.size≤a) (hn:H a=none):Un fs ex H (upd H a o) h h' where
  keep:=fun b u q _ _ _=>k b u q
  slot:=fun b u q _ _ _=>⟨u.slots,k b u q⟩
  free:=fun b u q n _=>by rw [z09 (Nat.ne_of_lt (Nat.lt_of_lt_of_le (Heap.lt_size q) hp))];exact n
  there:=fun b u q _=>⟨u,k b u q⟩
  tups:=fun b xs q=>by rw [z09 (z0b q hn)];exact q
  frzs:=fun b u xs q=>by rw [z09 (z0b q hn)];exact q
  tbls:=fun b ps q=>⟨#[],by rw [z09 (z0b q hn),q];simp⟩
theorem Un.write (mu:Mut (H x)) (he:e=x∨H e=some (.own x)) (k:∀ b u,b≠e→h.get? b=some u→h'.get? b=some u) (heo:∃ u,h'.get? e=some u):Un fs ex H (upd H x o) h h':=by
  have hx:∀ b,H b=none→b≠x:=fun b n z=>by subst z;rw [n] at mu;exact mu
  have hb:∀ b,H b=none→b≠e:=fun b n z=>by
    subst z
    rcases he with r | r
    · exact hx b n r
    · rw [n] at r;cases r
  have hm:∀ b u,H b=some u→¬ Mut (some u)→b≠x:=fun b u q nm z=>by subst z;rw [q] at mu;exact nm mu
  refine ⟨fun b u q n _ _=>k b u (hb b n) q,fun b u q n _ _=>⟨u.slots,k b u (hb b n) q⟩,fun b u q n _=>by rw [z09 (hx b n)];exact n,fun b u q _=>?_,
    fun b xs q=>by rw [z09 (hm b _ q fun z=>z)];exact q,fun b u xs q=>by rw [z09 (hm b _ q fun z=>z)];exact q,fun b ps q=>⟨#[],by rw [z09 (hm b _ q fun z=>z),q];simp⟩⟩
  by_cases hbe:b=e
  · subst hbe;exact heo
  · exact ⟨u,k b u hbe q⟩
end
noncomputable def trk (h:Heap) (H:Hp):List Addr:=(List.range h.objs.size).filter fun a=>(H a).isSome
noncomputable def zkn (h:Heap) (H:Hp):Heap:=PySem.W.hideAll h (trk h H)
theorem zht (h:Heap) (H:Hp):(zkn h H).objs.size=h.objs.size:=PySem.W.hideAll_size _ _
theorem zkm {h:Heap} {H:Hp} {b:Addr} {o:Obj} (e:h.get? b=some o) (n:H b=none):(zkn h H).get? b=some o :=
  PySem.W.hideAll_get _ e fun hm=>by
    have q:(H b).isSome=true:=(List.mem_filter.mp hm).2
    rw [n] at q;simp at q
theorem zno {h:Heap} {H:Hp} {b:Addr} {o:Obj} (e:(zkn h H).get? b=some o):h.get? b=some o∧H b=none:=by
  have e':h.get? b=some o:=PySem.W.of_hideAll (trk h H) e
  refine ⟨e',?_⟩
  cases q:H b with
  | none=>rfl
  | some x =>
    have hm:b∈trk h H:=List.mem_filter.mpr ⟨List.mem_range.mpr (Heap.lt_size e'),by simp [q]⟩
    have z:(zkn h H).get? b=none:=PySem.W.hideAll_none (trk h H) hm
    rw [z] at e;cases e
noncomputable def zob (g h:Heap) (L:Addr):List (Addr×Obj):=(List.range h.objs.size).filterMap fun a=>if a=L∨(g.get? a).isSome=true then none else (h.get? a).map fun o=>(a,o)
noncomputable def z4d (g h:Heap) (L d:Addr):List (Addr×Obj):=(zob g h L).filter fun p=>decide (p.1≠d)
structure Mod (K:PySem.W.Frag) (mg:Str→Option Value) (base:Heap):Prop where
  kin:K.In base
  glob:base.Ns mainGlobals mg
  blt:∃ mb,base.Ns builtinsNs mb∧∀ x:Str,x ≠ "__name__" → mb x=bootBuiltins x
  nolimit:base.NoLimit
structure Cx where
  prog:Program
  w:World
  K:PySem.W.Frag
  mg:Str→Option Value
  base:Heap
  A:Around
  N:List Str
  s₀:Shared
  H₀:Hp
  env:Env
  outer:List Env
  stack:List Env
  ex:List Addr
  fn:Str→Bool
  calm:Bool
  pn:List (Addr×Obj)
  xe:Value→Shared→Prop
noncomputable def frs (l:List Env):List Addr:=l.filterMap (·.frame)
noncomputable abbrev Cx.fs (X:Cx):List Addr:=frs X.outer
def Vis (sc:Scope) (x:Str):Prop:=sc.names.lookup x=some .local∨sc.names.lookup x=some .cell∨sc.names.lookup x=some .free
def Loc (sc:Scope) (x:Str):Prop:=sc.names.lookup x=some .local∨sc.names.lookup x=some .cell
noncomputable def zvh (env:Env) (h:Heap) (m:Str→Option Value) (x:Str) (u:Value):Prop :=
  (env.kindOf x=some .local∧m x=some u)∨((env.kindOf x=some .cell∨env.kindOf x=some .free)∧∃ c,env.cells.lookup x=some c∧h.IsCell c (some u))
structure Cx.Ok (X:Cx):Prop where
  mod:Mod X.K X.mg X.base
  kind:X.env.scope.kind=.function
  glob:X.env.globals=mainGlobals
  blt:X.env.builtins=builtinsNs
  above:X.s₀.heap.objs.size≤X.env.locals
  inj:∀ x y c,X.env.cells.lookup x=some c→X.env.cells.lookup y=some c→x=y
  has:∀ x,(X.env.kindOf x=some .cell∨X.env.kindOf x=some .free)→∃ c,X.env.cells.lookup x=some c
  cab:∀ x c,X.fn x=true→X.env.cells.lookup x=some c→X.s₀.heap.objs.size≤c
  hd:X.calm=true→X.A.handled=none
  frames:X.A.frames=some X.stack
  stk:X.stack=X.outer∨(X.stack=X.env::X.outer∧X.env.frame=some X.env.locals)
  exf:∀ b∈X.ex,b≠X.env.locals∧∀ x c,X.env.cells.lookup x=some c→c≠b
  bs:∀ b o,X.base.get? b=some o→X.s₀.heap.get? b=some o∧X.H₀ b=none
  bsz:X.base.objs.size≤X.s₀.heap.objs.size
  noex:∀ b o,X.base.get? b=some o→b∉X.ex
  exfs:∀ b∈X.ex,b∉X.fs
  funs:X.s₀.heap.FunFrames X.base X.outer
  frf:∀ b∈X.fs,X.H₀ b=none
structure Inv (X:Cx) (pins:List (Addr×Obj)) (σ:List (Option V)) (H:Hp) (s:Shared):Prop where
  ok:X.Ok
  os:s.os=X.s₀.os
  bare:AllBare s.gens
  base:Un X.fs X.ex X.H₀ H X.s₀.heap s.heap
  loc:∃ m,s.heap.Ns X.env.locals m∧∀ (i:Nat) (x:Str) (v:V),X.N[i]?=some x→σ[i]?=some (some v)→Vis X.env.scope x→∃ u,RelV v u∧zvh X.env s.heap m x u
  cell:∀ x c,X.env.cells.lookup x=some c→∃ v,s.heap.IsCell c v
  free:H X.env.locals=none
  freeC:∀ x c,X.env.cells.lookup x=some c→H c=none
  pin:∀ p∈X.pn++pins,s.heap.get? p.1=some p.2∧H p.1=none∧p.1≠X.env.locals∧p.1∉X.fs∧∀ v,p.2.data≠.cell v
  hok:HOk X.prog X.w H s.heap
  len:σ.length=X.N.length
section
variable {X:Cx} {pins:List (Addr×Obj)} {σ:List (Option V)} {H H':Hp} {s:Shared} {h':Heap}
theorem Cx.Ok.nofr (ok:X.Ok) {b:Addr} {o:Obj} (e:X.base.get? b=some o):b∉X.fs:=fun hb=>by
  have:=(ok.funs.mem hb).1
  rw [e] at this;cases this
theorem Inv.bs (I:Inv X pins σ H s):∀ b o,X.base.get? b=some o→s.heap.get? b=some o∧H b=none:=fun b o e =>
  ⟨I.base.keep b o (I.ok.bs b o e).1 (I.ok.bs b o e).2 (I.ok.nofr e) (I.ok.noex b o e),I.base.free b o (I.ok.bs b o e).1 (I.ok.bs b o e).2 (I.ok.noex b o e)⟩
theorem Inv.bk (I:Inv X pins σ H s):∀ b o,X.base.get? b=some o→s.heap.get? b=some o:=fun b o e=>(I.bs b o e).1
theorem Inv.mod (I:Inv X pins σ H s):Mod X.K X.mg X.base:=I.ok.mod
theorem Inv.kIn (I:Inv X pins σ H s):X.K.In s.heap:=I.ok.mod.kin.keeps I.bk
theorem Inv.lt (I:Inv X pins σ H s):X.env.locals<s.heap.objs.size:=let ⟨_,hn,_⟩:=I.loc;hn.lt
theorem Inv.sz (I:Inv X pins σ H s):X.s₀.heap.objs.size≤s.heap.objs.size:=Nat.le_trans I.ok.above (Nat.le_of_lt I.lt)
theorem Inv.nofs (I:Inv X pins σ H s) {a:Addr} (h:s.heap.objs.size≤a):a∉X.fs:=fun hb=>by
  refine bq fun bG=>?_
  obtain ⟨_,o,ho,_⟩:=I.ok.funs.mem hb
  exact bG (absurd (Nat.lt_of_lt_of_le (Heap.lt_size ho) (Nat.le_trans I.sz h)) (Nat.lt_irrefl _))
theorem Inv.cne (I:Inv X pins σ H s):∀ x c,X.env.cells.lookup x=some c→c≠X.env.locals:=fun x c e z=>by
  obtain ⟨v,o,ho,hd⟩:=I.cell x c e
  obtain ⟨m,⟨o',es,ep,ho',hd',_⟩,_⟩:=I.loc
  rw [z,ho'] at ho;cases ho;rw [hd'] at hd;cases hd
theorem Inv.funs (I:Inv X pins σ H s):s.heap.FunFrames X.base X.outer:=by
  have all:∀ (l:List Env),(∀ b∈frs l,b∈X.fs)→X.s₀.heap.FunFrames X.base l→s.heap.FunFrames X.base l:=by
    intro l
    induction l with
    | nil=>intro _ _;trivial
    | cons env r ih =>
      intro hs hl
      obtain ⟨hk,⟨L,o,hf,hn,ho,hd⟩,hr⟩:=hl
      have hL:L∈X.fs:=hs L (by unfold frs;rw [List.filterMap_cons,hf];exact List.mem_cons_self)
      obtain ⟨sl,e⟩:=I.base.slot L o ho (I.ok.frf L hL) hL fun z=>I.ok.exfs L z hL
      exact ⟨hk,⟨L,_,hf,hn,e,hd⟩,ih (fun b hb=>hs b (by unfold frs;rw [List.filterMap_cons,hf];exact List.mem_cons_of_mem _ hb)) hr⟩
  exact all X.outer (fun _ hb=>hb) I.ok.funs
theorem Inv.stack (I:Inv X pins σ H s):s.heap.FunFrames X.base X.stack:=by
  rcases I.ok.stk with e | ⟨e,hf⟩
  · rw [e];exact I.funs
  · rw [e]
    obtain ⟨m,hn,_⟩:=I.loc
    refine .cons (by rw [I.ok.kind];decide) hf hn ?_ I.funs
    exact Heap.get?_none_of_le (Nat.le_trans I.ok.bsz I.ok.above)
theorem Inv.stkSub (I:Inv X pins σ H s):∀ b∈frs X.stack,b∈X.env.locals::X.fs:=fun b hb=>by
  rcases I.ok.stk with e | ⟨e,hf⟩
  · rw [e] at hb;exact List.mem_cons_of_mem _ hb
  · rw [e] at hb
    unfold frs at hb
    rw [List.filterMap_cons,hf] at hb
    exact hb
theorem Inv.stkFree (I:Inv X pins σ H s):∀ b∈frs X.stack,H b=none:=fun b hb=>by
  rcases List.mem_cons.mp (I.stkSub b hb) with e | hb
  · rw [e];exact I.free
  · obtain ⟨_,o,ho,_⟩:=I.ok.funs.mem hb
    exact I.base.free b o ho (I.ok.frf b hb) fun z=>I.ok.exfs b z hb
theorem Inv.step {g':Array GenState} {t':Nat} {d':Drawn} {ch:List Addr} (I:Inv X pins σ H s)
    (hch:∀ b∈ch,(b∈X.ex∨X.s₀.heap.objs.size≤b)∧b≠X.env.locals∧(∀ x c,X.env.cells.lookup x=some c→c≠b)∧∀ p∈X.pn++pins,p.1≠b)
    (keep:∀ b o,b≠X.env.locals→b∉X.fs→b∉ch→s.heap.get? b=some o→H b=none→h'.get? b=some o)
    (slot:∀ b o,b≠X.env.locals→b∈X.fs→b∉ch→s.heap.get? b=some o→H b=none→∃ sl,h'.get? b=some { o with slots:=sl }) (free:∀ b o,b∉ch→s.heap.get? b=some o→H b=none→H' b=none)
    (there:∀ b o,b∉ch→s.heap.get? b=some o→∃ o',h'.get? b=some o')
    (tups:∀ b xs,H b=some (.tup xs)→H' b=some (.tup xs)) (frzs:∀ b o u,H b=some (.frz o u)→H' b=some (.frz o u)) (tbls:∀ b ps,H b=some (.tbl ps)→∃ za4,H' b=some (.tbl (ps++za4)))
    (ns:∀ m,s.heap.Ns X.env.locals m→h'.Ns X.env.locals m) (hok:HOk X.prog X.w H' h') (hg:AllBare g') :
    Inv X pins σ H' { s with heap:=h',gens:=g',drawn:=d',toks:=t' }:=by
  have neL:∀ b o,X.s₀.heap.get? b=some o→b≠X.env.locals:=fun b o e=>Nat.ne_of_lt (Nat.lt_of_lt_of_le (Heap.lt_size e) I.ok.above)
  have neC:∀ b o,X.s₀.heap.get? b=some o→b∉X.ex→b∉ch:=fun b o e hx hb=>by
    rcases (hch b hb).1 with z | z
    · exact hx z
    · exact absurd (Nat.lt_of_lt_of_le (Heap.lt_size e) z) (Nat.lt_irrefl _)
  have cellK:∀ x c,X.env.cells.lookup x=some c→∀ v,s.heap.IsCell c v→h'.IsCell c v:=fun x c e v ⟨o,ho,hd⟩=>by
    have nch:c∉ch:=fun z=>(hch c z).2.2.1 x c e rfl
    by_cases hc:c∈X.fs
    · obtain ⟨sl,q⟩:=slot c o (I.cne x c e) hc nch ho (I.freeC x c e)
      exact ⟨_,q,hd⟩
    · exact ⟨o,keep c o (I.cne x c e) hc nch ho (I.freeC x c e),hd⟩
  refine ⟨I.ok,I.os,hg,⟨fun b o e n hb hx=>?_,fun b o e n hb hx=>?_,fun b o e n hx=>?_,fun b o e hx=>?_,fun b xs e=>tups b xs (I.base.tups b xs e),fun b o xs e=>frzs b o xs (I.base.frzs b o xs e),fun b ps e=>?_⟩,?_,fun x c e=>?_,?_,fun x c e=>?_,fun p hp=>?_,hok,I.len⟩
  · exact keep b o (neL b o e) hb (neC b o e hx) (I.base.keep b o e n hb hx) (I.base.free b o e n hx)
  · obtain ⟨sl,e1⟩:=I.base.slot b o e n hb hx
    refine bq fun bG=>?_
    obtain ⟨sl',e2⟩:=slot b _ (neL b o e) hb (neC b o e hx) e1 (I.base.free b o e n hx)
    exact bG (⟨sl',e2⟩)
  · obtain ⟨o',e1⟩:=I.base.there b o e hx
    exact free b o' (neC b o e hx) e1 (I.base.free b o e n hx)
  · obtain ⟨o',e1⟩:=I.base.there b o e hx
    exact there b o' (neC b o e hx) e1
  · obtain ⟨m1,e1⟩:=I.base.tbls b ps e
    refine bq fun bG=>?_
    obtain ⟨m2,e2⟩:=tbls b _ e1
    exact bG (⟨m1++m2,by rw [e2,Array.append_assoc]⟩)
  · obtain ⟨m,hn,hl⟩:=I.loc
    refine ⟨m,ns m hn,fun i x v e1 e2 e3=>?_⟩
    refine bq fun bG=>?_
    obtain ⟨u,r,l⟩:=hl i x v e1 e2 e3
    refine bG (⟨u,r,?_⟩)
    rcases l with l | ⟨k,c,e,z⟩
    · exact .inl l
    · exact .inr ⟨k,c,e,cellK x c e _ z⟩
  · obtain ⟨v,z⟩:=I.cell x c e
    exact ⟨v,cellK x c e v z⟩
  · obtain ⟨m,⟨o,_,_,ho,_⟩,_⟩:=I.loc
    exact free _ o (fun z=>(hch _ z).2.1 rfl) ho I.free
  · obtain ⟨v,o,ho,hd⟩:=I.cell x c e
    exact free c o (fun z=>(hch c z).2.2.1 x c e rfl) ho (I.freeC x c e)
  · obtain ⟨e,n,ne,nf,d⟩:=I.pin p hp
    have nch:p.1∉ch:=fun z=>(hch p.1 z).2.2.2 p hp rfl
    exact ⟨keep p.1 p.2 ne nf nch e n,free p.1 p.2 nch e n,ne,nf,d⟩
theorem Inv.un {t':Nat} (I:Inv X pins σ H s) (u:Un X.fs [] H H' s.heap h') (hok:HOk X.prog X.w H' h'):Inv X pins σ H' { s with heap:=h',toks:=t' }:=by
  obtain ⟨m,⟨o,es,ep,ho,r⟩,_⟩:=id I.loc
  obtain ⟨sl,hL⟩:=u.any ho I.free (by simp)
  exact I.step (g':=s.gens) (d':=s.drawn) (ch:=[]) (fun _ z=>nomatch z) (fun b o _ hb _ e n=>u.keep b o e n hb (by simp)) (fun b o _ hb _ e n=>u.slot b o e n hb (by simp)) (fun b o _ e n=>u.free b o e n (by simp)) (fun b o _ e=>u.there b o e (by simp)) u.tups u.frzs u.tbls (fun m' hm=>by
    obtain ⟨o',es',ep',ho',r'⟩:=hm
    rw [ho] at ho';cases ho'
    exact ⟨_,es',ep',hL,r'⟩) hok I.bare
theorem Inv.call {g':Array GenState} {t':Nat} {d':Drawn} {ch:List Addr} (I:Inv X pins σ H s) (u:Un (frs X.stack) ch H H' s.heap h') (hok:HOk X.prog X.w H' h') (hg:AllBare g')
    (hch:∀ b∈ch,(b∈X.ex∨X.s₀.heap.objs.size≤b)∧b≠X.env.locals∧(∀ x c,X.env.cells.lookup x=some c→c≠b)∧∀ p∈X.pn++pins,p.1≠b) :
    Inv X pins σ H' { s with heap:=h',gens:=g',drawn:=d',toks:=t' }:=by
  obtain ⟨m,⟨o,es,ep,ho,r⟩,_⟩:=id I.loc
  obtain ⟨sl,hL⟩:=u.any ho I.free fun z=>(hch _ z).2.1 rfl
  exact I.step (ch:=ch) hch (fun b o hL hb hc e n=>u.keep b o e n (fun z=>(List.mem_cons.mp (I.stkSub b z)).elim hL hb) hc) (fun b o _ _ hc e n=>u.any e n hc) (fun b o hc e n=>u.free b o e n hc) (fun b o hc e=>u.there b o e hc) u.tups u.frzs u.tbls (fun m' hm=>by
    obtain ⟨o',es',ep',ho',r'⟩:=hm
    rw [ho] at ho';cases ho'
    exact ⟨_,es',ep',hL,r'⟩) hok hg
theorem Inv.turned {t':Nat} {it:Addr} (I:Inv X pins σ H s) (k:∀ b o,b≠it→s.heap.get? b=some o→h'.get? b=some o) (hn:H it=none) (hL:it≠X.env.locals)
    (h1:it∈X.ex∨X.s₀.heap.objs.size≤it) (h2:∀ x c,X.env.cells.lookup x=some c→c≠it) (h3:∀ p∈X.pn++pins,p.1≠it):Inv X pins σ H { s with heap:=h',toks:=t' }:=by
  have nit:∀ b u,H b=some u→b≠it:=fun b u e z=>by rw [z,hn] at e;cases e
  refine I.step (g':=s.gens) (d':=s.drawn) (ch:=[it]) (fun b hb=>?_) (fun b o _ _ hc e _=>k b o (fun z=>hc (by simp [z])) e) (fun b o _ _ hc e _=>⟨o.slots,k b o (fun z=>hc (by simp [z])) e⟩) (fun _ _ _ _ n=>n)
    (fun b o hc e=>⟨o,k b o (fun z=>hc (by simp [z])) e⟩) (fun _ _ e=>e) (fun _ _ _ e=>e) (fun b ps e=>⟨#[],by rw [e];simp⟩) (fun m hm=>?_) (fun b u e=>?_) I.bare
  · have e:b=it:=by simpa using hb
    subst e
    exact ⟨h1,hL,h2,h3⟩
  · obtain ⟨o,es,ep,ho,r⟩:=hm
    exact ⟨o,es,ep,k _ o (Ne.symm hL) ho,r⟩
  · refine (I.hok b u e).stay (fun c v hc q=>k c v ?_ q) (fun _ q=>q) fun _ _ q=>q
    rcases hc with z | z
    · rw [z];exact nit b u e
    · exact nit c _ z
theorem Inv.tok (I:Inv X pins σ H s) (t:Nat):Inv X pins σ H { s with toks:=t }:=I.un (h':=s.heap) (t':=t) Un.refl I.hok
theorem Inv.kept {t':Nat} (I:Inv X pins σ H s) (k:∀ b u,s.heap.get? b=some u→h'.get? b=some u):Inv X pins σ H { s with heap:=h',toks:=t' }:=I.un (Un.kept k) (I.hok.kept k)
theorem Inv.laid {a:Addr} {o:HO} {t':Nat} (I:Inv X pins σ H s) (k:∀ b u,s.heap.get? b=some u→h'.get? b=some u) (hp:s.heap.objs.size≤a) (new:ObjOk X.prog X.w (upd H a o) h' a o) :
    Inv X pins σ (upd H a o) { s with heap:=h',toks:=t' }:=I.un (Un.laid k hp (I.hok.fresh hp)) (I.hok.laid k hp new)
theorem Inv.write {x e:Addr} {o:HO} {t':Nat} (I:Inv X pins σ H s) (mu:Mut (H x)) (he:e=x∨H e=some (.own x)) (k:∀ b u,b≠e→s.heap.get? b=some u→h'.get? b=some u) (heo:∃ u,h'.get? e=some u)
    (new:ObjOk X.prog X.w (upd H x o) h' x o):Inv X pins σ (upd H x o) { s with heap:=h',toks:=t' }:=I.un (Un.write mu he k heo) (I.hok.write mu he k heo new)
theorem Inv.pins_of {pins':List (Addr×Obj)} (I:Inv X pins σ H s) (h:∀ p∈pins',s.heap.get? p.1=some p.2∧H p.1=none∧p.1≠X.env.locals∧p.1∉X.fs∧∀ v,p.2.data≠.cell v):Inv X pins' σ H s :=
  ⟨I.ok,I.os,I.bare,I.base,I.loc,I.cell,I.free,I.freeC,fun p hp=>(List.mem_append.mp hp).elim (fun z=>I.pin p (List.mem_append_left _ z)) (h p),I.hok,I.len⟩
theorem ze2 {N:List Str} (hN:N.Nodup) {i j:Nat} {x:Str} (a:N[i]?=some x) (b:N[j]?=some x):i=j:=by
  refine bq fun bG=>?_
  obtain ⟨h1,e1⟩:=List.getElem?_eq_some_iff.mp a
  obtain ⟨h2,e2⟩:=List.getElem?_eq_some_iff.mp b
  exact bG ((List.getElem_inj hN).mp (e1.trans e2.symm))
theorem zbb {M:Model} {A:Around} {E:Value→Shared→Prop} {i:Nat} {x:Str} {v:V} {u:Value} {Q:Unit→Shared→Prop} (I:Inv X pins σ H s) (hN:X.N.Nodup) (hi:X.N[i]?=some x) (hx:Loc X.env.scope x) (r:RelV v u)
    (h:∀ s',Inv X pins (σ.set i (some v)) H s'→(∃ a,Heap.SameBut a s.heap s'.heap∧(a=X.env.locals∨X.env.cells.lookup x=some a))→Q () s') (hf:X.fn x=true∨X.env.scope.names.lookup x=some .local:=by first | exact .inl rfl | exact .inr rfl | assumption):wpAny M A (storeName X.env x u) Q E s:=by
  obtain ⟨m,hn,hl⟩:=id I.loc
  have hcls:(X.env.scope.kind==.class||(X.env.scope.kind==.module&&X.env.locals != X.env.globals))=false:=by rw [I.ok.kind];rfl
  have hiσ:i<σ.length:=by rw [I.len];exact (List.getElem?_eq_some_iff.mp hi).1
  have cne:=I.cne
  have tracked:∀ {a:Addr} {h':Heap},(∃ o,s.heap.get? a=some o∧H a=none)→Heap.SameBut a s.heap h'→HOk X.prog X.w H h':=fun {a h'} ha hs b ob e=>by
    refine bq fun bG=>?_
    obtain ⟨_,_,hfree⟩:=ha
    refine bG ((I.hok b ob e).stay (fun c w' hc q=>(hs.2 c ?_).trans q) (fun _ q=>q) fun _ _ q=>q)
    rintro rfl
    rcases hc with rfl | hc
    · rw [hfree] at e;cases e
    · rw [hfree] at hc;cases hc
  rcases hx with hk | hk
  · refine wpAny_storeName_local hk hn (fun h' hn' hs=>?_) hcls
    refine bq fun bG=>?_
    obtain ⟨oL,_,_,hoL,_⟩:=id hn
    refine bG (h _ ⟨I.ok,I.os,I.bare,⟨fun b o e n hb hx=>?_,fun b o e n hb hx=>?_,I.base.free,fun b o e hx=>?_,I.base.tups,I.base.frzs,I.base.tbls⟩,⟨_,hn',fun j y v' e1 e2 e3=>?_⟩,fun y c e=>?_,I.free,I.freeC,fun p hp=>?_,tracked ⟨oL,hoL,I.free⟩ hs,by simpa using I.len⟩ ⟨_,hs,.inl rfl⟩)
    · exact (hs.2 b (Nat.ne_of_lt (Nat.lt_of_lt_of_le (Heap.lt_size e) I.ok.above))).trans (I.base.keep b o e n hb hx)
    · obtain ⟨sl,e1⟩:=I.base.slot b o e n hb hx
      exact ⟨sl,(hs.2 b (Nat.ne_of_lt (Nat.lt_of_lt_of_le (Heap.lt_size e) I.ok.above))).trans e1⟩
    · obtain ⟨o',e1⟩:=I.base.there b o e hx
      exact ⟨o',(hs.2 b (Nat.ne_of_lt (Nat.lt_of_lt_of_le (Heap.lt_size e) I.ok.above))).trans e1⟩
    · by_cases hj:j=i
      · subst hj
        rw [hi] at e1;cases e1
        rw [List.getElem?_set_self hiσ] at e2
        cases e2
        exact ⟨u,r,.inl ⟨hk,by simp⟩⟩
      · rw [List.getElem?_set_ne (Ne.symm hj)] at e2
        refine bq fun bG=>?_
        obtain ⟨u',r',q⟩:=hl j y v' e1 e2 e3
        refine bG (⟨u',r',?_⟩)
        rcases q with ⟨k,e⟩ | ⟨k,c,e,z⟩
        · refine .inl ⟨k,?_⟩
          have:y≠x:=fun e=>hj (ze2 hN e1 (e ▸ hi))
          simp [this,e]
        · exact .inr ⟨k,c,e,z.sameBut hs (cne y c e)⟩
    · obtain ⟨w',z⟩:=I.cell y c e
      exact ⟨w',z.sameBut hs (cne y c e)⟩
    · obtain ⟨e,n,ne,nf,d⟩:=I.pin p hp
      exact ⟨(hs.2 p.1 ne).trans e,n,ne,nf,d⟩
  · have hfn:X.fn x=true:=by
      rcases hf with z | z
      · exact z
      · rw [z] at hk;cases hk
    refine bq fun bG=>?_
    obtain ⟨c,hc⟩:=I.ok.has x (.inl hk)
    obtain ⟨w',z⟩:=I.cell x c hc
    refine bG (wpAny_storeName_cell I.ok.kind hk hc z (fun h' hc' hs=>?_))
    refine bq fun bG=>?_
    obtain ⟨oc,hoc,hocd⟩:=id z
    refine bG (h { s with heap:=h' } ⟨I.ok,I.os,I.bare,⟨fun b o e n hb hx=>?_,fun b o e n hb hx=>?_,I.base.free,fun b o e hx=>?_,I.base.tups,I.base.frzs,I.base.tbls⟩,⟨m,hn.sameBut hs (Ne.symm (cne x c hc)),fun j y v' e1 e2 e3=>?_⟩,fun y c' e=>?_,I.free,I.freeC,fun p hp=>?_,tracked ⟨oc,hoc,I.freeC x c hc⟩ hs,by simpa using I.len⟩ ⟨c,hs,.inr hc⟩)
    · exact (hs.2 b (Nat.ne_of_lt (Nat.lt_of_lt_of_le (Heap.lt_size e) (I.ok.cab x c hfn hc)))).trans (I.base.keep b o e n hb hx)
    · obtain ⟨sl,e1⟩:=I.base.slot b o e n hb hx
      exact ⟨sl,(hs.2 b (Nat.ne_of_lt (Nat.lt_of_lt_of_le (Heap.lt_size e) (I.ok.cab x c hfn hc)))).trans e1⟩
    · obtain ⟨o',e1⟩:=I.base.there b o e hx
      exact ⟨o',(hs.2 b (Nat.ne_of_lt (Nat.lt_of_lt_of_le (Heap.lt_size e) (I.ok.cab x c hfn hc)))).trans e1⟩
    · by_cases hj:j=i
      · subst hj
        rw [hi] at e1;cases e1
        rw [List.getElem?_set_self hiσ] at e2
        cases e2
        exact ⟨u,r,.inr ⟨.inl hk,c,hc,hc'⟩⟩
      · rw [List.getElem?_set_ne (Ne.symm hj)] at e2
        refine bq fun bG=>?_
        obtain ⟨u',r',q⟩:=hl j y v' e1 e2 e3
        refine bG (⟨u',r',?_⟩)
        rcases q with q | ⟨k,c',e,z'⟩
        · exact .inl q
        · refine .inr ⟨k,c',e,z'.sameBut hs ?_⟩
          rintro rfl
          exact hj (ze2 hN e1 (I.ok.inj _ _ _ e hc ▸ hi))
    · by_cases hcc:c'=c
      · subst hcc;exact ⟨_,hc'⟩
      · obtain ⟨w2,z2⟩:=I.cell y c' e
        exact ⟨w2,z2.sameBut hs hcc⟩
    · obtain ⟨e,n,ne,nf,d⟩:=I.pin p hp
      refine ⟨(hs.2 p.1 ?_).trans e,n,ne,nf,d⟩
      intro q
      rw [q,hoc] at e
      have q':oc=p.2:=Option.some.inj e
      exact d w' (by rw [← q'];exact hocd)
theorem zad {M:Model} {A:Around} {E:Value→Shared→Prop} {i:Nat} {x:Str} {v:V} {u:Value} {Q:Unit→Shared→Prop} (I:Inv X pins σ H s) (hN:X.N.Nodup) (hi:X.N[i]?=some x) (hx:Loc X.env.scope x) (r:RelV v u)
    (h:∀ s',Inv X pins (σ.set i (some v)) H s'→Q () s') (hf:X.fn x=true∨X.env.scope.names.lookup x=some .local:=by first | exact .inl rfl | exact .inr rfl | assumption):wpAny M A (storeName X.env x u) Q E s :=
  zbb I hN hi hx r (fun s' I' _=>h s' I') hf
theorem Inv.call' {s':Shared} {ch:List Addr} (I:Inv X pins σ H s) (ho:s'.os=s.os) (u:Un (frs X.stack) ch H H' s.heap s'.heap) (hok:HOk X.prog X.w H' s'.heap) (hg:AllBare s'.gens)
    (hch:∀ b∈ch,(b∈X.ex∨X.s₀.heap.objs.size≤b)∧b≠X.env.locals∧(∀ x c,X.env.cells.lookup x=some c→c≠b)∧∀ p∈X.pn++pins,p.1≠b):Inv X pins σ H' s':=by
  refine bq fun bG=>?_
  obtain ⟨h',g',d',t',o'⟩:=s'
  have e:o'=s.os:=ho
  subst e
  exact bG (I.call (g':=g') (t':=t') (d':=d') u hok hg hch)
end
noncomputable abbrev XK:=Value→Option Addr→Hp→Prop
noncomputable abbrev St:=List (Option V)
noncomputable abbrev VK:=V→Hp→Prop
noncomputable abbrev TE:=St→Hp→VK→Prop
noncomputable abbrev TT:=St→Hp→(Bool→Hp→Prop)→Prop
noncomputable abbrev TA:=St→Hp→(List V→Hp→Prop)→Prop
structure Ends where
  nx:St→Hp→Prop
  rt:VK
  bk:St→Hp→Prop:=fun _ _=>False
  ct:St→Hp→Prop:=fun _ _=>False
noncomputable abbrev TS:=Ends→St→Hp→Prop
def EP (X:Cx) (pins:List (Addr×Obj)) (σ:St) (Q:VK) (u:Value) (s':Shared):Prop:=∃ v H',Inv X pins σ H' s'∧RelV v u∧Q v H'
def TP (X:Cx) (pins:List (Addr×Obj)) (σ:St) (Q:Bool→Hp→Prop) (b:Bool) (s':Shared):Prop:=∃ H',Inv X pins σ H' s'∧Q b H'
def AP (X:Cx) (pins:List (Addr×Obj)) (σ:St) (Q:List V→Hp→Prop) (us:List Value) (s':Shared):Prop:=∃ vs H',Inv X pins σ H' s'∧Vals vs us∧Q vs H'
noncomputable def SP (X:Cx) (pins:List (Addr×Obj)) (D:Ends) (f:Flow) (s':Shared):Prop :=
  match f with
  | .next=>∃ σ' H',Inv X pins σ' H' s'∧D.nx σ' H'
  | .brk=>∃ σ' H',Inv X pins σ' H' s'∧D.bk σ' H'
  | .cont=>∃ σ' H',Inv X pins σ' H' s'∧D.ct σ' H'
  | .ret u=>∃ v σ' H',Inv X pins σ' H' s'∧RelV v u∧D.rt v H'
noncomputable def PE (X:Cx) (e:Expr) (t:TE):Prop :=
  ∀ (pins:List (Addr×Obj)) (s:Shared) (σ:St) (H:Hp) (Q:VK),Inv X pins σ H s→t σ H Q→wpAny (model X.prog X.w) X.A (eval e X.env) (EP X pins σ Q) X.xe s
noncomputable def PT (X:Cx) (e:Expr) (t:TT):Prop :=
  ∀ (pins:List (Addr×Obj)) (s:Shared) (σ:St) (H:Hp) (Q:Bool→Hp→Prop),Inv X pins σ H s→t σ H Q→wpAny (model X.prog X.w) X.A (isTrue e X.env (eval e X.env)) (TP X pins σ Q) X.xe s
noncomputable def PW (X:Cx) (e:Expr) (t:TT):Prop :=
  ∀ (whole:Sem Value) (pins:List (Addr×Obj)) (s:Shared) (σ:St) (H:Hp) (Q:Bool→Hp→Prop),Inv X pins σ H s→t σ H Q→wpAny (model X.prog X.w) X.A (isTrue e X.env whole) (TP X pins σ Q) X.xe s
theorem PW.pt {X:Cx} {e:Expr} {t:TT} (h:PW X e t):PT X e t:=h _
noncomputable def PA (X:Cx) (es:List Expr) (t:TA):Prop :=
  ∀ (pos:Pos) (pins:List (Addr×Obj)) (s:Shared) (σ:St) (H:Hp) (Q:List V→Hp→Prop),Inv X pins σ H s→t σ H Q→wpAny (model X.prog X.w) X.A (spliced (backTo pos (starEach es X.env))) (AP X pins σ Q) X.xe s
noncomputable def PS (X:Cx) (st:Stmt) (t:TS):Prop :=
  ∀ (pins:List (Addr×Obj)) (s:Shared) (σ:St) (H:Hp) (D:Ends),Inv X pins σ H s→t D σ H→wpAny (model X.prog X.w) X.A (exec st X.env) (SP X pins D) X.xe s
noncomputable def PSs (X:Cx) (st:List Stmt) (t:TS):Prop :=
  ∀ (pins:List (Addr×Obj)) (s:Shared) (σ:St) (H:Hp) (D:Ends),Inv X pins σ H s→t D σ H→wpAny (model X.prog X.w) X.A (execs st X.env) (SP X pins D) X.xe s
theorem thn {α:Type} {t:Sem α} {Q Q':α→Shared→Prop} {M:Model} {A:Around} {E:Value→Shared→Prop} {s:Shared} (h:wpAny M A t Q E s) (hQ:∀ a s,Q a s→Q' a s):wpAny M A t Q' E s:=wpAny_mono h hQ fun _ _ x=>x
section
variable {X:Cx}
def ztu (i:Nat):TE:=fun σ H Q=>∃ v,σ[i]?=some (some v)∧Q v H
def tC (v:V):TE:=fun _ H Q=>Q v H
theorem zlk {i:Nat} {x:Str} {pos:Pos} (hN:X.N[i]?=some x) (hv:Vis X.env.scope x) (hd:(x==("__debug__" : Str))=false:=by decide) (hcd:(x==("__classdict__" : Str))=false:=by decide):PE X (.Name x pos) (ztu i):=by
  intro pins s σ H Q I h
  obtain ⟨v,e,h⟩:=h
  obtain ⟨m,hn,hl⟩:=I.loc
  obtain ⟨u,r,l⟩:=hl i x v hN e hv
  have fin:EP X pins σ Q u s:=⟨v,H,I,r,h⟩
  rcases l with ⟨hk,hm⟩ | ⟨hk,c,hc,hcell⟩
  · exact wpAny_Name (wpAny_loadName_local I.ok.kind hk hn hm fin) hd
  · rcases hk with hk | hk
    · exact wpAny_Name (wpAny_loadName_cell I.ok.kind hk hc hcell fin) hd
    · exact wpAny_Name (wpAny_loadName_free I.ok.kind hk hc hcell fin hcd) hd
theorem zqc {i j pos}:PE X (.Constant (.int i) j pos) (tC (.int i)):=fun _ _ _ H _ I h=>wpAny_Constant_int ⟨.int i,H,I.tok _,⟨_,rfl⟩,h⟩
theorem zsx {b j pos}:PE X (.Constant (.bool b) j pos) (tC (.bl b)):=fun _ _ _ H _ I h=>Constant_bool ⟨.bl b,H,I,rfl,h⟩
theorem zqb {j pos}:PE X (.Constant .none j pos) (tC .non):=fun _ _ _ H _ I h=>Constant_none ⟨.non,H,I,rfl,h⟩
theorem zll {x j pos}:PE X (.Constant (.str x) j pos) (tC (.str x)):=fun _ _ _ H _ I h=>Calls.Constant_str ⟨.str x,H,I.tok _,⟨_,rfl⟩,h⟩
def Gl (X:Cx) (x:Str):Prop:=X.env.kindOf x=some .globalImplicit
theorem z87 {E:Value→Shared→Prop} {pins:List (Addr×Obj)} {s:Shared} {σ:St} {H:Hp} {x:Str} {u:Value} {pos:Pos} {Q:Value→Shared→Prop} (I:Inv X pins σ H s) (hg:Gl X x) (hm:X.mg x=some u) (h:Q u s)
    (hd:(x==("__debug__" : Str))=false:=by decide):wpAny (model X.prog X.w) X.A (eval (.Name x pos) X.env) Q E s :=
  Calls.Name_function_global I.ok.kind hg (Calls.loadGlobal_global (by rw [I.ok.glob];exact I.mod.glob.keeps I.bk) hm h) hd
theorem zbp {E:Value→Shared→Prop} {pins:List (Addr×Obj)} {s:Shared} {σ:St} {H:Hp} {x:Str} {u:Value} {pos:Pos} {Q:Value→Shared→Prop} (I:Inv X pins σ H s) (hg:Gl X x) (hm:X.mg x=none) (hv:bootBuiltins x=some u) (h:Q u s)
    (hn:x ≠ "__name__" := by decide) (hd:(x==("__debug__" : Str))=false:=by decide):wpAny (model X.prog X.w) X.A (eval (.Name x pos) X.env) Q E s:=by
  obtain ⟨mb,h1,h2⟩:=I.mod.blt
  exact Calls.Name_function_global I.ok.kind hg (Calls.loadGlobal_builtin (by rw [I.ok.glob];exact I.mod.glob.keeps I.bk) hm (by rw [I.ok.blt];exact h1.keeps I.bk) ((h2 x hn).trans hv) h) hd
theorem z53 {x:Str} {v:V} {u:Value} {pos:Pos} (hg:Gl X x) (hm:X.mg x=some u) (r:RelV v u) (hd:(x==("__debug__" : Str))=false:=by decide):PE X (.Name x pos) (tC v) :=
  fun _ _ _ H _ I h=>z87 I hg hm ⟨v,H,I,r,h⟩ hd
theorem z2w {x:Str} {v:V} {u:Value} {pos:Pos} (hg:Gl X x) (hm:X.mg x=none) (hv:bootBuiltins x=some u) (r:RelV v u) (hn:x ≠ "__name__" := by decide) (hd:(x==("__debug__" : Str))=false:=by decide):PE X (.Name x pos) (tC v) :=
  fun _ _ _ H _ I h=>zbp I hg hm hv ⟨v,H,I,r,h⟩ hn hd
variable {a b:Expr} {ta tb:TE} {pos:Pos}
variable {tA tB':TT} {z4d:List Expr}
def ztv (t u:TT):TT:=fun σ H Q=>t σ H fun c H1=>if c=true then u σ H1 Q else Q false H1
def tOr (t u:TT):TT:=fun σ H Q=>t σ H fun c H1=>if c=true then Q true H1 else u σ H1 Q
def zum (t:TT):TT:=fun σ H Q=>t σ H fun c H1=>Q (!c) H1
theorem zn3 (ha:PT X a tA):PW X (.BoolOp .And [a] pos) tA:=by
  intro wh pins s σ H Q I h
  refine isTrue_and (thn (ha pins s σ H Q I h) fun c s1 e=>?_)
  cases c with
  | true=>exact isTrue_and_nil e
  | false=>exact e
theorem zpv (ha:PT X a tA):PW X (.BoolOp .Or [a] pos) tA:=by
  intro wh pins s σ H Q I h
  refine isTrue_or (thn (ha pins s σ H Q I h) fun c s1 e=>?_)
  cases c with
  | false=>exact isTrue_or_nil e
  | true=>exact e
theorem zpw (ha:PT X a tA) (hb:PW X (.BoolOp .And (b::z4d) pos) tB'):PW X (.BoolOp .And (a::b::z4d) pos) (ztv tA tB'):=by
  intro wh pins s σ H Q I h
  refine isTrue_and (thn (ha pins s σ H _ I h) fun c s1 hm=>?_)
  obtain ⟨H1,I1,q1⟩:=hm
  cases c with
  | true=>exact hb wh pins s1 σ H1 Q I1 q1
  | false=>exact ⟨H1,I1,q1⟩
theorem zsr (ha:PT X a tA) (hb:PW X (.BoolOp .Or (b::z4d) pos) tB'):PW X (.BoolOp .Or (a::b::z4d) pos) (tOr tA tB'):=by
  intro wh pins s σ H Q I h
  refine isTrue_or (thn (ha pins s σ H _ I h) fun c s1 hm=>?_)
  obtain ⟨H1,I1,q1⟩:=hm
  cases c with
  | true=>exact ⟨H1,I1,q1⟩
  | false=>exact hb wh pins s1 σ H1 Q I1 q1
theorem zpz (ha:PT X a tA):PT X (.UnaryOp .Not a pos) (zum tA):=by
  intro pins s σ H Q I h
  exact isTrue_not (ha pins s σ H (fun c H1=>Q (!c) H1) I h)
def zsj (ta tb:TE):TE:=fun σ H Q=>ta σ H fun x H1=>∃ c,x=.bl c∧if c=true then tb σ H1 Q else Q (.bl false) H1
def zul (ta tb:TE):TE:=fun σ H Q=>ta σ H fun x H1=>∃ c,x=.bl c∧if c=true then Q (.bl true) H1 else tb σ H1 Q
def zsd (ta:TE):TE:=fun σ H Q=>ta σ H fun x H1=>∃ c,x=.bl c∧Q (.bl (!c)) H1
theorem zq9 {op} {t:TE} (h:PE X a t):PE X (.BoolOp op [a] pos) t:=fun pins s σ H Q I hw=>BoolOp_one (h pins s σ H Q I hw)
theorem zqe (ha:PE X a ta) (hb:PE X (.BoolOp .And (b::z4d) pos) tb):PE X (.BoolOp .And (a::b::z4d) pos) (zsj ta tb):=by
  intro pins s σ H Q I h
  refine BoolOp_and (thn (ha pins s σ H _ I h) fun v s1 hm=>?_)
  refine bq fun bG=>?_
  obtain ⟨x,H1,I1,r1,q1⟩:=hm
  obtain ⟨c,rfl,q1⟩:=q1
  cases r1
  refine bG (wpAny_truthy_bool ?_)
  cases c with
  | true=>exact hb pins s1 σ H1 Q I1 q1
  | false=>exact ⟨.bl false,H1,I1,rfl,q1⟩
theorem zst (ha:PE X a ta) (hb:PE X (.BoolOp .Or (b::z4d) pos) tb):PE X (.BoolOp .Or (a::b::z4d) pos) (zul ta tb):=by
  intro pins s σ H Q I h
  refine BoolOp_or (thn (ha pins s σ H _ I h) fun v s1 hm=>?_)
  refine bq fun bG=>?_
  obtain ⟨x,H1,I1,r1,q1⟩:=hm
  obtain ⟨c,rfl,q1⟩:=q1
  cases r1
  refine bG (wpAny_truthy_bool ?_)
  cases c with
  | false=>exact hb pins s1 σ H1 Q I1 q1
  | true=>exact ⟨.bl true,H1,I1,rfl,q1⟩
theorem zqa (ha:PE X a ta):PE X (.UnaryOp .Not a pos) (zsd ta):=by
  intro pins s σ H Q I h
  refine UnaryOp_ (thn (ha pins s σ H _ I h) fun v s1 hm=>?_)
  refine bq fun bG=>?_
  obtain ⟨x,H1,I1,r1,q1⟩:=hm
  obtain ⟨c,rfl,q1⟩:=q1
  cases r1
  exact bG (not_of (wpAny_truthy_bool ⟨.bl (!c),H1,I1,rfl,q1⟩))
end
noncomputable def SqL (K:PySem.W.Frag) (H:Hp) (a:Addr) (xs:List V):Prop :=
  Rd H a (.lst xs) ∨
    ∃ (o:Obj) (its:Array Value) (n:Nat),K.lookup a=some o∧o.cls=.type "list" ∧ o.dict=none∧o.data=.seq its n∧its.size≤sizeLine∧Vals xs its.toList
noncomputable def SqT (K:PySem.W.Frag) (H:Hp) (a:Addr) (xs:List V):Prop :=
  Rd H a (.tup xs) ∨
    ∃ (o:Obj) (its:Array Value) (n:Nat),K.lookup a=some o∧o.cls=.type "tuple" ∧ o.data=.seq its n∧its.size≤sizeLine∧Vals xs its.toList
noncomputable def zvd:Value→Option V
  | .none=>some .non
  | .bool b=>some (.bl b)
  | .int i _=>some (.int i)
  | .str x _=>some (.str x)
  | .bytes b _=>some (.byt b)
  | .float b _=>some (.flt b)
  | .ref a=>some (.ref a)
  | .type n=>some (.ty n)
  | _=>none
theorem RelV.abs {x:V} {u:Value} (r:RelV x u):zvd u=some x:=by
  cases x with
  | non=>cases r;rfl
  | bl _=>cases r;rfl
  | int _=>obtain ⟨t,rfl⟩:=r;rfl
  | str _=>obtain ⟨t,rfl⟩:=r;rfl
  | byt _=>obtain ⟨t,rfl⟩:=r;rfl
  | flt _=>obtain ⟨t,rfl⟩:=r;rfl
  | ref _=>cases r;rfl
  | ty _=>cases r;rfl
theorem RelV.inj {x y:V} {u:Value} (r:RelV x u) (q:RelV y u):x=y:=Option.some.inj (r.abs.symm.trans q.abs)
theorem Vals.inj:∀ {xs ys:List V} {us:List Value},Vals xs us→Vals ys us→xs=ys
  | _,_,_,.nil,.nil=>rfl
  | _,_,_,.cons r t,.cons r' t'=>by rw [r.inj r',Vals.inj t t']
section
variable {X:Cx} {pins:List (Addr×Obj)} {σ:St} {H:Hp} {s:Shared} {a:Addr} {xs ys:List V}
theorem SqL.of {K:PySem.W.Frag} (h:H a=some (.lst xs)):SqL K H a xs:=.inl (.inl h)
theorem SqT.of {K:PySem.W.Frag} (h:H a=some (.tup xs)):SqT K H a xs:=.inl (.inl h)
theorem Inv.list (I:Inv X pins σ H s) (h:SqL X.K H a xs):∃ its:List Value,Vals xs its∧PlainL s.heap a its.toArray∧xs.length≤sizeLine:=by
  rcases h with h | ⟨o,its,n,hk,hc,hd,hs,hz,r⟩
  · obtain ⟨z,its,n,r,e⟩:=h.ok I.hok
    exact ⟨its,r,⟨_,n,e,rfl,rfl,rfl⟩,z⟩
  · refine ⟨its.toList,r,⟨o,n,I.kIn a o hk,hc,hd,by simpa using hs⟩,?_⟩
    have e:=r.length
    simp only [Array.length_toList] at e
    omega
theorem Inv.tuple (I:Inv X pins σ H s) (h:SqT X.K H a xs):∃ its:List Value,Vals xs its∧IsTup s.heap a its.toArray∧xs.length≤sizeLine:=by
  rcases h with h | ⟨o,its,n,hk,hc,hs,hz,r⟩
  · obtain ⟨z,its,r,p⟩:=h.ok I.hok
    exact ⟨its,r,p,z⟩
  · refine ⟨its.toList,r,⟨o,I.kIn a o hk,hc,n,by simpa using hs⟩,?_⟩
    have e:=r.length
    simp only [Array.length_toList] at e
    omega
theorem Inv.list_inj (I:Inv X pins σ H s) (h:SqL X.K H a xs) (h':SqL X.K H a ys):xs=ys:=by
  obtain ⟨its,r,⟨o,n,e,_,_,d⟩,_⟩:=I.list h
  obtain ⟨its',r',⟨o',n',e',_,_,d'⟩,_⟩:=I.list h'
  rw [e] at e';cases e'
  rw [d] at d'
  injection d' with d1 _
  have:its=its':=by simpa using congrArg Array.toList d1
  subst this
  exact r.inj r'
end
noncomputable abbrev Cx.wish (X:Cx) (E:Value→Shared→Prop):Cx:={ X with xe:=E }
noncomputable abbrev Cx.nox (X:Cx):Cx:=X.wish fun _ _=>False
theorem Cx.Ok.wish {X:Cx} (ok:X.Ok) (E:Value→Shared→Prop):(X.wish E).Ok :=
  ⟨ok.mod,ok.kind,ok.glob,ok.blt,ok.above,ok.inj,ok.has,ok.cab,ok.hd,ok.frames,ok.stk,ok.exf,ok.bs,ok.bsz,ok.noex,ok.exfs,ok.funs,ok.frf⟩
theorem Cx.Ok.unwish {X:Cx} {E:Value→Shared→Prop} (ok:(X.wish E).Ok):X.Ok :=
  ⟨ok.mod,ok.kind,ok.glob,ok.blt,ok.above,ok.inj,ok.has,ok.cab,ok.hd,ok.frames,ok.stk,ok.exf,ok.bs,ok.bsz,ok.noex,ok.exfs,ok.funs,ok.frf⟩
section
variable {X:Cx} {pins:List (Addr×Obj)} {σ:St} {H:Hp} {s:Shared} {E:Value→Shared→Prop}
theorem Inv.wish (I:Inv X pins σ H s) (E:Value→Shared→Prop):Inv (X.wish E) pins σ H s:=⟨I.ok.wish E,I.os,I.bare,I.base,I.loc,I.cell,I.free,I.freeC,I.pin,I.hok,I.len⟩
theorem Inv.unwish (I:Inv (X.wish E) pins σ H s):Inv X pins σ H s:=⟨I.ok.unwish,I.os,I.bare,I.base,I.loc,I.cell,I.free,I.freeC,I.pin,I.hok,I.len⟩
theorem SP.unwish {D:Ends} {f:Flow} {s':Shared} (h:SP (X.wish E) pins D f s'):SP X pins D f s':=by
  cases f with
  | next=>obtain ⟨σ',H',I,q⟩:=h;exact ⟨σ',H',I.unwish,q⟩
  | brk=>obtain ⟨σ',H',I,q⟩:=h;exact ⟨σ',H',I.unwish,q⟩
  | cont=>obtain ⟨σ',H',I,q⟩:=h;exact ⟨σ',H',I.unwish,q⟩
  | ret u=>obtain ⟨v,σ',H',I,r,q⟩:=h;exact ⟨v,σ',H',I.unwish,r,q⟩
theorem PE.nox {e:Expr} {t:TE} (h:PE X.nox e t):PE X e t:=fun pins s σ H Q I hw =>
  wpAny_mono (h pins s σ H Q (I.wish _) hw) (fun _ _ ⟨v,H',I',r,q⟩=>⟨v,H',I'.unwish,r,q⟩) fun _ _ z=>False.elim z
theorem PT.nox {e:Expr} {t:TT} (h:PT X.nox e t):PT X e t:=fun pins s σ H Q I hw =>
  wpAny_mono (h pins s σ H Q (I.wish _) hw) (fun _ _ ⟨H',I',q⟩=>⟨H',I'.unwish,q⟩) fun _ _ z=>False.elim z
theorem PSs.nox {st:List Stmt} {t:TS} (h:PSs X.nox st t):PSs X st t:=fun pins s σ H D I hw =>
  wpAny_mono (h pins s σ H D (I.wish _) hw) (fun _ _ q=>q.unwish) fun _ _ z=>False.elim z
end
section
variable {X:Cx} {st:Stmt} {z4d:List Stmt} {t u:TS} {e:Expr} {te:TE} {pos:Pos}
def zse:TS:=fun D σ H=>D.nx σ H
def zuj (t u:TS):TS:=fun D σ H=>t { D with nx:=u D } σ H
theorem zn4:PSs X [] zse:=fun _ _ σ H _ I h=>wpAny_execs_nil ⟨σ,H,I,h⟩
theorem zdz (h1:PS X st t) (h2:PSs X z4d u):PSs X (st::z4d) (zuj t u):=by
  intro pins s σ H D I h
  refine wpAny_execs_cons (thn (h1 pins s σ H { D with nx:=u D } I h) fun f s1 q=>?_)
  cases f with
  | next =>
    obtain ⟨σ',H',I',q⟩:=q
    exact h2 pins s1 σ' H' D I' q
  | ret v=>exact q
  | brk=>exact q
  | cont=>exact q
theorem zh0 (h1:PS X st t):PSs X [st] t:=by
  intro pins s σ H D I h
  refine wpAny_execs_cons (thn (h1 pins s σ H D I h) fun f s1 q=>?_)
  cases f with
  | next=>exact wpAny_execs_nil q
  | ret v=>exact q
  | brk=>exact q
  | cont=>exact q
theorem Inv.quiet {pins:List (Addr×Obj)} {σ:St} {H:Hp} {s:Shared} (I:Inv X pins σ H s):interactive X.env=false:=by simp [interactive,I.ok.kind]
def zsg (te:TE):TS:=fun D σ H=>te σ H fun _ H1=>D.nx σ H1
theorem zh1 (he:PE X e te) (hs:swapsWith e none pos.line X.env=pure false:=by rfl):PS X (.Expr e pos) (zsg te):=by
  intro pins s σ H D I h
  exact wpAny_Expr_any (thn (he pins s σ H _ I h) fun v s1 ⟨x,H1,I1,r1,q1⟩=>⟨σ,H1,I1,q1⟩) I.quiet hs
def zuk (te:TE):TS:=fun D σ H=>te σ H D.rt
theorem zq1 (he:PE X e te):PS X (.Return (some e) pos) (zuk te):=by
  intro pins s σ H D I h
  exact wpAny_Return_some (thn (he pins s σ H _ I h) fun v s1 ⟨x,H1,I1,r1,q1⟩=>⟨x,σ,H1,I1,r1,q1⟩)
def zuo (c:TT) (t u:TS):TS:=fun D σ H=>c σ H fun b H1=>if b=true then t D σ H1 else u D σ H1
theorem zq2 {c:Expr} {a b:List Stmt} {tc:TT} (hc:PT X c tc) (ha:PSs X a t) (hb:PSs X b u):PS X (.If c a b pos) (zuo tc t u):=by
  intro pins s σ H D I h
  refine wpAny_If (thn (hc pins s σ H _ I h) fun d s1 hm=>?_)
  obtain ⟨H1,I1,q1⟩:=hm
  cases d with
  | true=>exact ha pins s1 σ H1 D I1 q1
  | false=>exact hb pins s1 σ H1 D I1 q1
end
noncomputable abbrev TG:=V→St→Hp→(St→Hp→Prop)→Prop
noncomputable abbrev TGs:=List V→St→Hp→(St→Hp→Prop)→Prop
noncomputable def PG (X:Cx) (target:Expr) (t:TG):Prop :=
  ∀ (pins:List (Addr×Obj)) (s:Shared) (σ:St) (H:Hp) (v:V) (u:Value) (Q:St→Hp→Prop),Inv X pins σ H s→RelV v u→t v σ H Q →
    wpAny (model X.prog X.w) X.A (assign target X.env u) (fun _ s'=>∃ σ' H',Inv X pins σ' H' s'∧Q σ' H') X.xe s
noncomputable def PGs (X:Cx) (ts:List Expr) (t:TGs):Prop :=
  ∀ (pins:List (Addr×Obj)) (s:Shared) (σ:St) (H:Hp) (vs:List V) (us:List Value) (Q:St→Hp→Prop),Inv X pins σ H s→Vals vs us→t vs σ H Q →
    wpAny (model X.prog X.w) X.A (assignInOrder ((assignEach ts X.env).map (·.2)) us) (fun _ s'=>∃ σ' H',Inv X pins σ' H' s'∧Q σ' H') X.xe s
noncomputable abbrev ztq:=V→V→V→Hp→(Hp→Prop)→Prop
noncomputable def zue (X:Cx) (t:ztq):Prop :=
  ∀ (pins:List (Addr×Obj)) (s:Shared) (σ:St) (H:Hp) (o i v:V) (ov iv u:Value) (Q:Hp→Prop),Inv X pins σ H s→RelV o ov→RelV i iv→RelV v u→t o i v H Q →
    wpAny (model X.prog X.w) X.A (setItem ov iv u) (fun _ s'=>∃ H',Inv X pins σ H' s'∧Q H') X.xe s
section
variable {X:Cx} {pos:Pos}
def znw (i:Nat):TG:=fun v σ H Q=>Q (σ.set i (some v)) H
theorem znc {i:Nat} {x:Str} (hN:X.N.Nodup) (hi:X.N[i]?=some x) (hx:Loc X.env.scope x) (hf:X.fn x=true∨X.env.scope.names.lookup x=some .local:=by first | exact .inl rfl | exact .inr rfl | assumption):PG X (.Name x pos) (znw i):=by
  intro pins s σ H v u Q I r h
  exact wpAny_assign_Name (zad I hN hi hx r (fun s' I'=>⟨_,H,I',h⟩) hf)
noncomputable def zv0:TGs:=fun vs σ H Q=>vs=[]∧Q σ H
noncomputable def zte (t:TG) (u:TGs):TGs:=fun vs σ H Q=>∃ v r,vs=v::r∧t v σ H fun σ' H'=>u r σ' H' Q
theorem znb:PGs X [] zv0:=by
  intro pins s σ H vs us Q I r h
  refine bq fun bG=>?_
  obtain ⟨e,h⟩:=h
  subst e
  cases r
  exact bG (assignInOrder_nil ⟨σ,H,I,h⟩)
theorem zk8 {e:Expr} {es:List Expr} {t:TG} {u:TGs} (h1:PG X e t) (h2:PGs X es u)
    (hs:(assignEach (e::es) X.env).map (·.2)=assign e X.env::(assignEach es X.env).map (·.2):=by rfl):PGs X (e::es) (zte t u):=by
  intro pins s σ H vs us Q I r h
  obtain ⟨v,vr,e1,h⟩:=h
  subst e1
  cases r with
  | cons r rr =>
    rw [hs]
    refine assignInOrder_cons (thn (h1 pins s σ H _ _ _ I r h) fun _ s1 hm=>?_)
    refine bq fun bG=>?_
    obtain ⟨σ1,H1,I1,q1⟩:=hm
    exact bG (h2 pins s1 σ1 H1 _ _ Q I1 rr q1)
def zu6 (K:PySem.W.Frag) (n:Nat) (t:TGs):TG:=fun v σ H Q=>∃ a xs,v=.ref a∧SqT K H a xs∧xs.length=n∧t xs σ H Q
theorem zq7 {es:List Expr} {k:Nat} {t:TGs} {n:Nat} (hc:X.calm=true) (h:PGs X es t)
    (hn:(assignEach es X.env).length=n:=by rfl) (hst:(assignEach es X.env).findIdx? (·.1)=none:=by rfl):PG X (.Tuple es k pos) (zu6 X.K n t):=by
  intro pins s σ H v u Q I r hw
  refine bq fun bG=>?_
  obtain ⟨a,xs,e1,hq,hl,hw⟩:=hw
  subst e1
  cases r
  obtain ⟨its,rv,ht,hz⟩:=I.tuple hq
  refine bG (assign_Tuple_tuple (I.ok.hd hc) ht (by simp [hn,← hl,rv.length]) hst fun h' hx=>?_)
  have I1:Inv X pins σ H { s with heap:=h' }:=I.kept (t':=s.toks) fun b o e=>hx b o (Nat.ne_of_lt (Heap.lt_size e)) e
  exact h pins _ σ H xs _ Q I1 (by simpa using rv) hw
def zuz (to ti:TE) (t:ztq):TG:=fun v σ H Q=>to σ H fun o H1=>ti σ H1 fun i H2=>t o i v H2 fun H3=>Q σ H3
theorem zq8 {o i:Expr} {to ti:TE} {t:ztq} (ho:PE X o to) (hi:PE X i ti) (hs:zue X t)
    (ha:∀ v,assign (.Subscript o i pos) X.env v=(do
      let ov ← holding [v] (eval o X.env)
      let iv ← holding [v,ov] (eval i X.env)
      standAt pos
      holding [v,ov,iv] (setItem ov iv v)
      release [v,ov,iv] []):=by intro _;rfl):PG X (.Subscript o i pos) (zuz to ti t):=by
  intro pins s σ H v u Q I r h
  rw [ha]
  refine wpAny_bind (wpAny_holding (thn (ho pins s σ H _ I h) fun ov s1 hm=>?_))
  refine bq fun bG=>?_
  obtain ⟨x,H1,I1,r1,q1⟩:=hm
  refine bG (wpAny_bind (wpAny_holding (thn (hi pins s1 σ H1 _ I1 q1) fun iv s2 hm=>?_)))
  refine bq fun bG=>?_
  obtain ⟨y,H2,I2,r2,q2⟩:=hm
  refine bG (wpAny_bind (wpAny_standAt (wpAny_bind (wpAny_holding (thn (hs pins s2 σ H2 x y v ov iv u _ I2 r1 r2 r q2) fun _ s3 hm=>?_)))))
  refine bq fun bG=>?_
  obtain ⟨H3,I3,q3⟩:=hm
  exact bG (wpAny_release ⟨σ,H3,I3,q3⟩)
def zsi (te:TE) (g:TG):TS:=fun D σ H=>te σ H fun x H1=>g x σ H1 D.nx
theorem zq3 {tg e:Expr} {te:TE} {g:TG} (he:PE X e te) (hg:PG X tg g) (hs:swapsWithSole [tg] e pos.line X.env=pure false:=by rfl) (hw:swappedStores [tg] e X.env=pure none:=by rfl)
    (h1:(assignEach [tg] X.env).map (·.2)=[assign tg X.env]:=by rfl):PS X (.Assign [tg] e pos) (zsi te g):=by
  intro pins s σ H D I h
  refine wpAny_Assign_stores (thn (he pins s σ H _ I h) fun v s1 hm=>?_) hs hw
  obtain ⟨x,H1,I1,r1,q1⟩:=hm
  rw [h1]
  exact thn (hg pins s1 σ H1 x v _ I1 r1 q1) fun _ s2 q=>q
theorem zli {i:Nat} {x:Str} {e:Expr} {te:TE} {pos':Pos} (hN:X.N.Nodup) (hi:X.N[i]?=some x) (hx:Loc X.env.scope x) (he:PE X e te) (hs:swapsWith e (some (.Name x pos')) pos.line X.env=pure false:=by rfl) (hf:X.fn x=true∨X.env.scope.names.lookup x=some .local:=by first | exact .inl rfl | exact .inr rfl | assumption) :
    PS X (.Assign [.Name x pos'] e pos) (zsi te (znw i)):=by
  intro pins s σ H D I h
  refine wpAny_Assign_Name (thn (he pins s σ H _ I h) fun v s1 hm=>?_) hs
  refine bq fun bG=>?_
  obtain ⟨y,H1,I1,r1,q1⟩:=hm
  exact bG (zad I1 hN hi hx r1 (fun s2 I2=>⟨_,H1,I2,q1⟩) hf)
end
section
variable {X:Cx} {pos:Pos}
end
structure It where
  go:Nat→Hp→Prop
  yld:Nat→Hp→V→Hp→Prop
  stop:Nat→Hp→Prop
noncomputable def zce (X:Cx) (pins:List (Addr×Obj)) (H:Hp) (b:Addr):Prop :=
  H b=none∧b≠X.env.locals∧b∉X.fs∧(b∈X.ex∨X.s₀.heap.objs.size≤b)∧(∀ x c,X.env.cells.lookup x=some c→c≠b)∧∀ p∈X.pn++pins,p.1≠b
theorem Inv.fpOk {X:Cx} {pins:List (Addr×Obj)} {σ:St} {H H':Hp} {s:Shared} {b:Addr} (I:Inv X pins σ H s) (hb:s.heap.objs.size≤b) (hn:H' b=none):zce X pins H' b:=by
  refine ⟨hn,Nat.ne_of_gt (Nat.lt_of_lt_of_le I.lt hb),I.nofs hb,.inr (Nat.le_trans I.sz hb),fun x c e z=>?_,fun p hp z=>?_⟩
  · obtain ⟨v,q⟩:=I.cell x c e
    exact absurd (Nat.lt_of_lt_of_le q.lt (by rw [z];exact hb)) (Nat.lt_irrefl _)
  · exact absurd (Nat.lt_of_lt_of_le (Heap.lt_size (I.pin p hp).1) (by rw [z];exact hb)) (Nat.lt_irrefl _)
structure Turn (P:Program) (w:World) (K:PySem.W.Frag) (tg:Expr) (J:It) (fp:List Addr) (it:Addr) (tn:Nat→Heap→Prop):Prop where
  mem:it∈fp
  obj:∀ i h,tn i h→∀ b∈fp,∃ o,h.get? b=some o∧∀ v,o.data≠.cell v
  keep:∀ i h h',tn i h→(∀ b∈fp,∀ o,h.get? b=some o→h'.get? b=some o)→tn i h'
  item:∀ (X:Cx),X.prog=P→X.w=w→X.K=K→X.calm=true→∀ (i:Nat) (pins:List (Addr×Obj)) (s:Shared) (σ:St) (H:Hp) (E:Value→Shared→Prop),Inv X pins σ H s→(∀ b∈fp,zce X pins H b)→tn i s.heap→J.go i H →
    wpAny (model P w) X.A (pyNext (.ref it)) (fun r s1=>∃ u,r=some u ∧
      wpAny (model P w) X.A (letOwnedTupleGo tg (.ref it) u) (fun _ s2=>∃ x H',Inv X pins σ H' s2∧RelV x u∧J.yld i H x H'∧tn (i+1) s2.heap∧∀ b∈fp,H' b=none) E s1) E s
  done:∀ (X:Cx),X.prog=P→X.w=w→X.K=K→X.calm=true→∀ (i:Nat) (pins:List (Addr×Obj)) (s:Shared) (σ:St) (H:Hp) (E:Value→Shared→Prop),Inv X pins σ H s→(∀ b∈fp,zce X pins H b)→tn i s.heap→J.stop i H →
    wpAny (model P w) X.A (pyNext (.ref it)) (fun r s1=>r=none∧Inv X pins σ H s1) E s
  self:∀ (A:Around) (i:Nat) (s:Shared) (Q:Value→Shared→Prop) (E:Value→Shared→Prop),tn i s.heap→Q (.ref it) s→wpAny (model P w) A (pyIter (.ref it)) Q E s
noncomputable abbrev TI:=St→Hp→(It→Hp→Prop)→Prop
noncomputable def PIE (X:Cx) (pins:List (Addr×Obj)) (σ:St) (tg:Expr) (R:It→Hp→Prop) (itv:Value) (s2:Shared):Prop :=
  ∃ (it:Addr) (fp:List Addr) (tn:Nat→Heap→Prop) (J:It) (H':Hp),itv=.ref it∧Inv X pins σ H' s2∧Turn X.prog X.w X.K tg J fp it tn∧tn 0 s2.heap∧(∀ b∈fp,zce X pins H' b)∧R J H'
noncomputable def PI (X:Cx) (tg iter:Expr) (wi:TI):Prop :=
  ∀ (pins:List (Addr×Obj)) (s:Shared) (σ:St) (H:Hp) (R:It→Hp→Prop),Inv X pins σ H s→wi σ H R →
    wpAny (model X.prog X.w) X.A (eval iter X.env) (fun v s1=>wpAny (model X.prog X.w) X.A (pyIter v) (PIE X pins σ tg R) X.xe s1) X.xe s
theorem zr8 {M:Model} {A:Around} {E:Value→Shared→Prop} {s:Shared} {tg:Expr} {it:Addr} {u:Value} {o:Obj} {n:String} {vs:Array Value} {Q:Unit→Shared→Prop} (ho:s.heap.get? it=some o) (hc:o.cls=.type n) (hd:o.data=.fields vs)
    (hn:["enumerate", "zip", "dict_itemiterator", "dict_reverseitemiterator", "odict_iterator", "itertools.zip_longest", "itertools.pairwise"].contains n=false) (hQ:Q () s):wpAny M A (letOwnedTupleGo tg (.ref it) u) Q E s:=by
  unfold letOwnedTupleGo
  cases tg <;> first
    | exact wpAny_pure hQ
    | (cases u <;> first
        | exact wpAny_pure hQ
        | (refine wpAny_bind (wpAny_load ho ?_)
           rw [hc,hd]
           show wpAny M A (if (["enumerate", "zip", "dict_itemiterator", "dict_reverseitemiterator", "odict_iterator", "itertools.zip_longest", "itertools.pairwise"].contains n&&vs[0]?==some (rawInt _))=true then _ else _) Q E s
           rw [if_neg (by intro h;rw [hn,Bool.false_and] at h;cases h)]
           exact wpAny_pure hQ))
noncomputable def Itl (K:PySem.W.Frag) (a:Addr):It :=
  ⟨fun i H=>∃ xs x,SqL K H a xs∧xs[i]?=some x,fun i H x H'=>H'=H∧∀ xs,SqL K H a xs→xs[i]?=some x,fun i H=>∃ xs,SqL K H a xs∧xs.length≤i⟩
noncomputable def Itr (lo:Int) (n:Nat):It:=⟨fun i _=>i<n,fun i H x H'=>H'=H∧x=.int (lo+i),fun i _=>n≤i⟩
theorem zg6 {P:Program} {w:World} {K:PySem.W.Frag} {tg:Expr} (a it:Addr):Turn P w K tg (Itl K a) [it] it (fun i h=>h.IsListIter it a i) where
  mem:=by simp
  obj:=fun i h st b hb=>by
    have e:b=it:=by simpa using hb
    subst e
    obtain ⟨o,e,c,d⟩:=st
    exact ⟨o,e,fun v z=>by rw [d] at z;cases z⟩
  keep:=fun i h h' st k=>st.at fun o e=>k it (by simp) o e
  item:=by
    intro X hP hw hK hc i pins s σ H E I hf st hg
    subst hP hw hK
    refine bq fun bG=>?_
    obtain ⟨xs,x,hq,hx⟩:=hg
    obtain ⟨its,rv,p,hz⟩:=I.list hq
    obtain ⟨u,hu,ru⟩:=rv.get hx
    obtain ⟨f0,f1,f2,f3,f4,f5⟩:=hf it (by simp)
    refine bG (wpAny_pyNext_list_item st p.isList (x:=u) (by simpa using hu) fun h' st' sb=>?_)
    have I1:Inv X pins σ H { s with heap:=h' }:=I.turned (t':=s.toks) (fun b o hb e=>(sb.2 b hb).trans e) f0 f1 f3 f4 f5
    obtain ⟨o,e,c,d⟩:=id st'
    exact ⟨u,rfl,zr8 (s:={ s with heap:=h' }) e c d (by decide) ⟨x,H,I1,ru,⟨rfl,fun ys hy=>by rw [I.list_inj hy hq];exact hx⟩,st',fun b hb=>(hf b hb).1⟩⟩
  done:=by
    intro X hP hw hK hc i pins s σ H E I hf st hg
    subst hP hw hK
    obtain ⟨xs,hq,hx⟩:=hg
    obtain ⟨its,rv,p,hz⟩:=I.list hq
    obtain ⟨f0,f1,f2,f3,f4,f5⟩:=hf it (by simp)
    have hl:=rv.length
    exact wpAny_pyNext_list_end (I.ok.hd hc) st p.isList (by simp;omega) fun h' eb=>⟨rfl,I.turned (t':=s.toks) (fun b o hb e=>eb b o hb e) f0 f1 f3 f4 f5⟩
  self:=fun _ _ _ _ _ st h=>wpAny_pyIter_listiter st h
theorem zeu {P:Program} {w:World} {K:PySem.W.Frag} {tg:Expr} (it:Addr) (lo:Int) (n:Nat):Turn P w K tg (Itr lo n) [it] it (fun i h=>IsRangeIter h it (lo+(i:Nat)*1) ((n:Int) - (i:Nat)) 1) where
  mem:=by simp
  obj:=fun i h st b hb=>by
    have e:b=it:=by simpa using hb
    subst e
    exact ⟨_,st,fun v z=>by
      have z':Data.fields _=Data.cell v:=z
      cases z'⟩
  keep:=fun i h h' st k=>k it (by simp) _ st
  item:=by
    intro X hP hw hK hc i pins s σ H E I hf st hg
    subst hP hw hK
    refine bq fun bG=>?_
    obtain ⟨f0,f1,f2,f3,f4,f5⟩:=hf it (by simp)
    have W:=Walks.range (prog:=X.prog) (w:=X.w) (I.ok.hd hc) it lo 1 n
    refine bG (W.item i s _ _ hg st fun v h' tk hv st' kk=>?_)
    refine bq fun bG=>?_
    obtain ⟨t,rfl⟩:=hv
    have I1:Inv X pins σ H { s with heap:=h',toks:=tk }:=I.turned (fun b o hb e=>kk b o (by simpa using hb) e) f0 f1 f3 f4 f5
    refine bG (⟨_,rfl,zr8 (s:={ s with heap:=h',toks:=tk }) (n := "range_iterator") st' rfl rfl (by decide) ⟨.int (lo+i),H,I1,⟨t,?_⟩,⟨rfl,rfl⟩,st',fun b hb=>(hf b hb).1⟩⟩)
    rw [Int.mul_one]
  done:=by
    intro X hP hw hK hc i pins s σ H E I hf st hg
    subst hP hw hK
    obtain ⟨f0,f1,f2,f3,f4,f5⟩:=hf it (by simp)
    exact wpAny_pyNext_range_end (I.ok.hd hc) st (by have:n≤i:=hg;omega) fun h' eb=>⟨rfl,I.turned (t':=s.toks) (fun b o hb e=>eb b o hb e) f0 f1 f3 f4 f5⟩
  self:=fun _ _ _ _ _ st h=>wpAny_pyIter_rangeiter st h
section
variable {X:Cx} {tg:Expr}
def zr6 (K:PySem.W.Frag) (tl:TE):TI:=fun σ H R=>tl σ H fun x H1=>∃ a,x=.ref a∧(∃ xs,SqL K H1 a xs)∧R (Itl K a) H1
theorem zn9 {l:Expr} {tl:TE} (hl:PE X l tl):PI X tg l (zr6 X.K tl):=by
  intro pins s σ H R I h
  refine thn (hl pins s σ H _ I h) fun v s1 hm=>?_
  refine bq fun bG=>?_
  obtain ⟨x,H1,I1,r1,q1⟩:=hm
  refine bG (bq fun bG=>?_)
  obtain ⟨a,e,⟨xs,hq⟩,q⟩:=q1
  subst e
  cases r1
  obtain ⟨its,rv,p,hz⟩:=I1.list hq
  refine bG (wpAny_pyIter_list p.isList ?_)
  refine ⟨s1.heap.objs.size,[s1.heap.objs.size],_,_,H1,rfl,I1.kept (t':=s1.toks) fun b o e=>Heap.get?_push_of_some _ e,zg6 a _,⟨_,Heap.get?_push_size _ rfl,rfl,rfl⟩,fun b hb=>?_,q⟩
  have e:b=s1.heap.objs.size:=by simpa using hb
  subst e
  exact I1.fpOk (Nat.le_refl _) (I1.hok.fresh (Nat.le_refl _))
theorem zk0 {pins:List (Addr×Obj)} {σ:St} {H:Hp} {s:Shared} {R:It→Hp→Prop} {E:Value→Shared→Prop} {lo hi:Int} {t u v:Tok} {tk:Nat} (I:Inv X pins σ H s) (h1:-(2 ^ 62)≤lo) (h2:lo<2 ^ 62) (h3:-(2 ^ 62)≤hi) (h4:hi<2 ^ 62)
    (q:R (Itr lo (hi - lo).toNat) H):wpAny (model X.prog X.w) X.A (pyIter (.ref s.heap.objs.size)) (PIE X pins σ tg R) E { s with heap:=s.heap.push { cls:=.type "range",data:=.fields #[.int lo t,.int hi u,.int 1 v] },toks:=tk }:=by
  refine wpAny_pyIter_range (IsRange.new ..) (small_one h1 h2 h3 h4) ?_
  have I1:Inv X pins σ H { s with heap:=s.heap.push { cls:=.type "range",data:=.fields #[.int lo t,.int hi u,.int 1 v] },toks:=tk }:=I.kept fun b o e=>Heap.get?_push_of_some _ e
  refine ⟨(s.heap.push { cls:=.type "range",data:=.fields #[.int lo t,.int hi u,.int 1 v] }).objs.size,[(s.heap.push { cls:=.type "range",data:=.fields #[.int lo t,.int hi u,.int 1 v] }).objs.size],_,_,H,rfl,
    I1.kept (t':=tk) fun b o e=>Heap.get?_push_of_some _ e,zeu _ lo (hi - lo).toNat,?_,fun b hb=>?_,q⟩
  · have e1:lo+((0:Nat):Int)*1=lo:=by simp
    have e2:(((hi - lo).toNat:Nat):Int) - ((0:Nat):Int)=Builtin.Range.rangeSize lo hi 1:=by rw [rangeSize_one];split <;> omega
    show IsRangeIter _ _ (lo+((0:Nat):Int)*1) ((((hi - lo).toNat:Nat):Int) - ((0:Nat):Int)) 1
    rw [e1,e2]
    exact Heap.get?_push_size _ rfl
  · have e:b=(s.heap.push { cls:=.type "range",data:=.fields #[.int lo t,.int hi u,.int 1 v] }).objs.size:=by simpa using hb
    subst e
    exact I1.fpOk (Nat.le_refl _) (I1.hok.fresh (Nat.le_refl _))
def zr5 (ta:TA):TI:=fun σ H R=>ta σ H fun vs H1=>∃ j:Int,vs=[.int j]∧-(2 ^ 62)≤j∧j<2 ^ 62∧R (Itr 0 j.toNat) H1
theorem zh3 {a:Expr} {ta:TA} {p pos:Pos} (hg:Gl X "range") (hm:X.mg "range" = none) (ha:PA X [a] ta) (hs:starEach [a] X.env=[(false,eval a X.env)]:=by rfl):PI X tg (.Call (.Name "range" p) [a] [] pos) (zr5 ta):=by
  intro pins s σ H R I h
  refine Call_ (zbp I hg hm boot_range (PyProof.Rows.callWith_type1 (thn (ha pos pins s σ H _ I h) fun us s1 hm=>?_) hs rfl))
  obtain ⟨vs,H1,I1,r1,q1⟩:=hm
  obtain ⟨j,e,q1,q2,q⟩:=q1
  subst e
  cases r1 with
  | cons r rr =>
    cases rr
    refine bq fun bG=>?_
    obtain ⟨t,rfl⟩:=r
    exact bG (call_range_1 (zk0 I1 (by omega) (by omega) q1 q2 (by simpa using q)))
def zup (wi:TI) (g:TG) (tb:TS):TS:=fun D σ H=>wi σ H fun J H1=>∃ W:Nat→Nat→St→Hp→Prop,(∃ m,W 0 m σ H1)∧∀ i m σ H,W i m σ H →
  (J.stop i H∧D.nx σ H)∨(J.go i H∧∃ N:St→Hp→Prop,(∀ σ' H',N σ' H'→∃ m',m'<m∧W (i+1) m' σ' H')∧∀ x H',J.yld i H x H'→g x σ H' fun σ2 H2=>tb { D with nx:=N,ct:=N,bk:=D.nx } σ2 H2)
noncomputable def zbj (fp:List Addr) (h:Heap):List (Addr×Obj):=fp.filterMap fun b=>(h.get? b).map fun o=>(b,o)
theorem z5q {fp:List Addr} {h:Heap} {b:Addr} {o:Obj} (hb:b∈fp) (e:h.get? b=some o):(b,o)∈zbj fp h:=List.mem_filterMap.mpr ⟨b,hb,by rw [e];rfl⟩
theorem zh7 {fp:List Addr} {h:Heap} {p:Addr×Obj} (hp:p∈zbj fp h):p.1∈fp∧h.get? p.1=some p.2:=by
  obtain ⟨b,hb,e⟩:=List.mem_filterMap.mp hp
  cases q:h.get? b with
  | none=>rw [q] at e;cases e
  | some o =>
    rw [q] at e
    have e':(b,o)=p:=Option.some.inj e
    subst e'
    exact ⟨hb,q⟩
theorem Inv.pinned {pins:List (Addr×Obj)} {σ:St} {H:Hp} {s:Shared} {fp:List Addr} (I:Inv X pins σ H s) (hf:∀ b∈fp,zce X pins H b) (ho:∀ b∈fp,∃ o,s.heap.get? b=some o∧∀ v,o.data≠.cell v):Inv X (pins++zbj fp s.heap) σ H s :=
  I.pins_of fun p hp=>(List.mem_append.mp hp).elim (fun z=>I.pin p (List.mem_append_right _ z)) fun z=>by
    obtain ⟨hb,e⟩:=zh7 z
    obtain ⟨f0,f1,f2,_⟩:=hf p.1 hb
    obtain ⟨o,e',d⟩:=ho p.1 hb
    rw [e] at e';cases e'
    exact ⟨e,f0,f1,f2,d⟩
theorem Inv.unpinned {pins pl:List (Addr×Obj)} {σ:St} {H:Hp} {s:Shared} (I:Inv X (pins++pl) σ H s):Inv X pins σ H s:=I.pins_of fun p hp=>I.pin p (List.mem_append_right _ (List.mem_append_left _ hp))
theorem zlj {iter:Expr} {body:List Stmt} {wi:TI} {g:TG} {tb:TS} {pos:Pos} (hp:PassesOwn (model X.prog X.w) X.A X.env X.xe) (hc:X.calm=true) (hi:PI X tg iter wi) (hg:PG X tg g) (hb:PSs X body tb)
    (hs:∀ x,foldedSetIterable iter X.env x=pure x:=by intro _;rfl):PS X (.For tg iter body [] pos) (zup wi g tb):=by
  intro pins s σ H D I h
  refine wpAny_For (thn (hi pins s σ H _ I h) fun v s1 h1=>thn h1 fun itv s2 h2=>?_) hs
  obtain ⟨it,fp,tn,J,H2,e,I2,T,st2,f2,W,⟨m0,w0⟩,turn⟩:=h2
  subst e
  have stat:∀ {H':Hp},(∀ b∈fp,H' b=none)→∀ b∈fp,zce X pins H' b:=fun hn b hb=>⟨hn b hb,(f2 b hb).2⟩
  refine codeAny_forLoop_any (fun n s'=>∃ i σ' H',Inv X pins σ' H' s'∧tn i s'.heap∧(∀ b∈fp,H' b=none)∧W i n σ' H') ?_ m0 ⟨0,σ,H2,I2,st2,fun b hb=>(f2 b hb).1,w0⟩
  rintro n s3 ⟨i,σ3,H3,I3,st3,fr3,w3⟩
  rcases turn i n σ3 H3 w3 with ⟨stop,qn⟩ | ⟨go,N,hN,step⟩
  · refine wpAny_passesOwn hp (thn (T.done X rfl rfl rfl hc i pins s3 σ3 H3 X.xe I3 (stat fr3) st3 stop) fun r s4 ⟨hr,I4⟩=>?_)
    subst hr
    exact wpAny_execs_nil ⟨σ3,H3,I4,qn⟩
  · refine wpAny_passesOwn hp (thn (T.item X rfl rfl rfl hc i pins s3 σ3 H3 X.xe I3 (stat fr3) st3 go) fun r s4 ⟨u,hr,h4⟩=>?_)
    subst hr
    refine wpAny_passesOwn hp (thn h4 fun _ s5 hm=>?_)
    refine bq fun bG=>?_
    obtain ⟨x,H5,I5,r5,y5,st5,fr5⟩:=hm
    have I5':=I5.pinned (stat fr5) (T.obj _ _ st5)
    refine bG (wpAny_passesOwn hp (thn (hg _ s5 σ3 H5 x u _ I5' r5 (step x H5 y5)) fun _ s6 hm=>?_))
    refine bq fun bG=>?_
    obtain ⟨σ6,H6,I6,q6⟩:=hm
    refine bG (wpAny_passesOwn hp (thn (hb _ s6 σ6 H6 _ I6 q6) fun f s7 q7=>?_))
    have again:∀ {σ7:St} {H7:Hp},Inv X (pins++zbj fp s5.heap) σ7 H7 s7→N σ7 H7→∃ m,m<n∧∃ i σ' H',Inv X pins σ' H' s7∧tn i s7.heap∧(∀ b∈fp,H' b=none)∧W i m σ' H':=fun {σ7 H7} I7 n7=>by
      refine bq fun bG=>?_
      obtain ⟨m',hm,w7⟩:=hN σ7 H7 n7
      refine bG (⟨m',hm,i+1,σ7,H7,I7.unpinned,T.keep _ _ _ st5 fun b hb o e=>(I7.pin (b,o) (List.mem_append_right _ (List.mem_append_right _ (z5q hb e)))).1,fun b hb=>?_,w7⟩)
      refine bq fun bG=>?_
      obtain ⟨o,e,d⟩:=T.obj _ _ st5 b hb
      exact bG ((I7.pin (b,o) (List.mem_append_right _ (List.mem_append_right _ (z5q hb e)))).2.1)
    cases f with
    | next=>obtain ⟨σ7,H7,I7,n7⟩:=q7;exact again I7 n7
    | cont=>obtain ⟨σ7,H7,I7,n7⟩:=q7;exact again I7 n7
    | brk=>obtain ⟨σ7,H7,I7,q7⟩:=q7;exact ⟨σ7,H7,I7.unpinned,q7⟩
    | ret v=>obtain ⟨x7,σ7,H7,I7,r7,q7⟩:=q7;exact ⟨x7,σ7,H7,I7.unpinned,r7,q7⟩
end
noncomputable abbrev R2:=V→V→Hp→VK→Prop
noncomputable def OpR (X:Cx) (f:Value→Value→Sem Value) (r:R2):Prop :=
  ∀ (pins:List (Addr×Obj)) (s:Shared) (σ:St) (H:Hp) (x y:V) (v u:Value) (Q:VK),Inv X pins σ H s→RelV x v→RelV y u→r x y H Q →
    wpAny (model X.prog X.w) X.A (f v u) (EP X pins σ Q) X.xe s
noncomputable def z72 (X:Cx) (f:Value) (r:List V→Hp→VK→Prop):Prop :=
  ∀ (pins:List (Addr×Obj)) (s:Shared) (σ:St) (H:Hp) (xs:List V) (us:List Value) (Q:VK),Inv X pins σ H s→Vals xs us→r xs H Q →
    wpAny (model X.prog X.w) X.A (call f us) (EP X pins σ Q) X.xe s
noncomputable def zvg (X:Cx) (r:V→Hp→(Bool→Hp→Prop)→Prop):Prop :=
  ∀ (pins:List (Addr×Obj)) (s:Shared) (σ:St) (H:Hp) (x:V) (v:Value) (Q:Bool→Hp→Prop),Inv X pins σ H s→RelV x v→r x H Q →
    wpAny (model X.prog X.w) X.A (truthy v) (TP X pins σ Q) X.xe s
def tOp (r:R2) (ta tb:TE):TE:=fun σ H Q=>ta σ H fun x H1=>tb σ H1 fun y H2=>r x y H2 Q
noncomputable def rI (C:Int→Int→Prop) (g:Int→Int→V):R2:=fun x y H Q=>∃ i j,x=.int i∧y=.int j∧C i j∧Q (g i j) H
noncomputable def rI0 (g:Int→Int→V):R2:=fun x y H Q=>∃ i j,x=.int i∧y=.int j∧Q (g i j) H
section
variable {X:Cx} {a b c:Expr} {ta tb tc:TE} {pos:Pos}
theorem zto (ha:PE X a ta) (hb:PE X b tb) {pins:List (Addr×Obj)} {s:Shared} {σ:St} {H:Hp} {R:V→V→Hp→Prop} (I:Inv X pins σ H s)
    (h:ta σ H fun x H1=>tb σ H1 fun y H2=>R x y H2) {Q:Value→Shared→Prop} {f:Value→Value→Sem Value}
    (hf:∀ v u s2 x y H2,Inv X pins σ H2 s2→RelV x v→RelV y u→R x y H2→wpAny (model X.prog X.w) X.A (f v u) Q X.xe s2) :
    wpAny (model X.prog X.w) X.A (eval a X.env) (fun v s₁=>wpAny (model X.prog X.w) X.A (eval b X.env) (fun u s₂=>wpAny (model X.prog X.w) X.A (f v u) Q X.xe s₂) X.xe s₁) X.xe s:=by
  refine thn (ha pins s σ H _ I h) fun v s1 hm=>?_
  refine bq fun bG=>?_
  obtain ⟨x,H1,I1,r1,q1⟩:=hm
  refine bG (thn (hb pins s1 σ H1 _ I1 q1) fun u s2 hm=>?_)
  refine bq fun bG=>?_
  obtain ⟨y,H2,I2,r2,q2⟩:=hm
  exact bG (hf v u s2 x y H2 I2 r1 r2 q2)
theorem zsu {op:Operator} {r:R2} (ho:OpR X (binaryOp op) r) (ha:PE X a ta) (hb:PE X b tb):PE X (.BinOp a op b pos) (tOp r ta tb):=by
  intro pins s σ H Q I h
  exact wpAny_BinOp (zto ha hb I h fun v u s2 x y H2 I2 rx ry q=>ho pins s2 σ H2 x y v u Q I2 rx ry q)
theorem opI {f:Value→Value→Sem Value} {C:Int→Int→Prop} {g:Int→Int→Int}
    (rule:∀ (i j:Int) (t u:Tok) (s:Shared) (Q:Value→Shared→Prop) (E:Value→Shared→Prop),C i j→Q (.int (g i j) s.toks) { s with toks:=s.toks+1 }→wpAny (model X.prog X.w) X.A (f (.int i t) (.int j u)) Q E s) :
    OpR X f (rI C fun i j=>.int (g i j)):=by
  intro pins s σ H x y v u Q I rx ry h
  refine bq fun bG=>?_
  obtain ⟨i,j,rfl,rfl,hc,q⟩:=h
  obtain ⟨t,rfl⟩:=rx
  obtain ⟨t',rfl⟩:=ry
  exact bG (rule i j t t' s _ _ hc ⟨.int (g i j),H,I.tok _,⟨_,rfl⟩,q⟩)
theorem zu4 {f:Value→Value→Sem Value} {g:Int→Int→Int}
    (rule:∀ (i j:Int) (t u:Tok) (s:Shared) (Q:Value→Shared→Prop) (E:Value→Shared→Prop),Q (.int (g i j) s.toks) { s with toks:=s.toks+1 }→wpAny (model X.prog X.w) X.A (f (.int i t) (.int j u)) Q E s) :
    OpR X f (rI0 fun i j=>.int (g i j)):=by
  intro pins s σ H x y v u Q I rx ry h
  refine bq fun bG=>?_
  obtain ⟨i,j,rfl,rfl,q⟩:=h
  obtain ⟨t,rfl⟩:=rx
  obtain ⟨t',rfl⟩:=ry
  exact bG (rule i j t t' s _ _ ⟨.int (g i j),H,I.tok _,⟨_,rfl⟩,q⟩)
theorem zt0 {f:Value→Value→Sem Value} {g:Int→Int→Bool}
    (rule:∀ (i j:Int) (t u:Tok) (s:Shared) (Q:Value→Shared→Prop) (E:Value→Shared→Prop),Q (.bool (g i j)) s→wpAny (model X.prog X.w) X.A (f (.int i t) (.int j u)) Q E s) :
    OpR X f (rI0 fun i j=>.bl (g i j)):=by
  intro pins s σ H x y v u Q I rx ry h
  refine bq fun bG=>?_
  obtain ⟨i,j,rfl,rfl,q⟩:=h
  obtain ⟨t,rfl⟩:=rx
  obtain ⟨t',rfl⟩:=ry
  exact bG (rule i j t t' s _ _ ⟨.bl (g i j),H,I,rfl,q⟩)
def zrr (i j:Int):Prop:=0≤j∧j≤1000000∧i.natAbs<2 ^ 64
def CMul (i j:Int):Prop:=(-(2 ^ 64)<i∧i<2 ^ 64)∨(-(2 ^ 64)<j∧j<2 ^ 64)
theorem CMul.ok {i j:Int} (h:CMul i j):IntMulOk i j:=by
  rcases h with ⟨h1,h2⟩ | ⟨h1,h2⟩
  · exact .of_left (intBits_le_64 h1 h2)
  · exact .of_right (intBits_le_64 h1 h2)
theorem op_add:OpR X (binaryOp .Add) (rI0 fun i j=>.int (i+j)):=zu4 fun _ _ _ _ _ _ _ q=>add_int q
theorem zqf:OpR X (binaryOp .Sub) (rI0 fun i j=>.int (i - j)):=zu4 fun _ _ _ _ _ _ _ q=>sub_int q
theorem op_mul:OpR X (binaryOp .Mult) (rI CMul fun i j=>.int (i*j)):=opI fun _ _ _ _ _ _ _ hc q=>mul_int q hc.ok
theorem zqj:OpR X (binaryOp .Mod) (rI (fun _ j=>0<j) fun i j=>.int (i % j)):=opI fun i j _ _ _ _ _ hc q=>by
  have h1:(0:Int)<j:=hc
  exact mod_int' (by omega) (by rw [Int.fmod_eq_emod_of_nonneg i (by omega)];exact q)
theorem zqh:OpR X (binaryOp .Pow) (rI zrr fun i j=>.int (i ^ j.toNat)):=opI fun _ _ _ _ _ _ _ hc q=>pow_int_small hc.1 hc.2.1 hc.2.2 q
end
section
variable {X:Cx} {a b c:Expr} {ta tb tc:TE} {pos:Pos}
theorem zra {pins:List (Addr×Obj)} {σ:St} {H:Hp} {s:Shared} {Q:VK} {k k':Bool} (I:Inv X pins σ H s) (q:Q (.bl k) H) (e:k=k'):EP X pins σ Q (.bool k') s:=by
  subst e
  exact ⟨.bl k,H,I,rfl,q⟩
theorem znl:OpR X (compareOp .Lt) (rI0 fun i j=>.bl (decide (i<j))):=zt0 fun _ _ _ _ _ _ _ q=>lt_int q
theorem zqk:OpR X (compareOp .LtE) (rI0 fun i j=>.bl (decide (i≤j))):=zt0 fun _ _ _ _ _ _ _ q=>le_int q
theorem zql:OpR X (compareOp .Gt) (rI0 fun i j=>.bl (decide (j<i))):=zt0 fun _ _ _ _ _ _ _ q=>gt_int q
theorem znk:OpR X (compareOp .IsNot) (fun x y H Q=>y=.non∧Q (.bl (!decide (x=.non))) H):=by
  intro pins s σ H x y v u Q I rx ry h
  refine bq fun bG=>?_
  obtain ⟨rfl,q⟩:=h
  cases ry
  refine bG (isnot_none_gen (zra I q ?_))
  cases x <;> first
    | (cases rx;rfl)
    | (obtain ⟨t,rfl⟩:=rx;rfl)
theorem OpR.or {f:Value→Value→Sem Value} {r r':R2} (h:OpR X f r) (h':OpR X f r'):OpR X f (fun x y H Q=>r x y H Q∨r' x y H Q):=by
  intro pins s σ H x y v u Q I rx ry q
  rcases q with q | q
  · exact h pins s σ H x y v u Q I rx ry q
  · exact h' pins s σ H x y v u Q I rx ry q
theorem z85 (b:Expr) {op:CmpOp} (h:op≠.In:=by decide) (h2:op≠.NotIn:=by decide):behindInMarks op b=false:=by
  have e1:(op==CmpOp.In)=false:=by cases op <;> first | rfl | exact absurd rfl h
  have e2:(op==CmpOp.NotIn)=false:=by cases op <;> first | rfl | exact absurd rfl h2
  cases b <;> simp [behindInMarks,e1,e2]
theorem zcx {op:CmpOp} {r:R2} (ho:OpR X (compareOp op) r) (ha:PE X a ta) (hb:PE X b tb) (hm:behindInMarks op b=false):PE X (.Compare a [op] [b] pos) (tOp r ta tb):=by
  intro pins s σ H Q I h
  exact wpAny_Compare1 (zto ha hb I h fun v u s2 x y H2 I2 rx ry q=>ho pins s2 σ H2 x y v u Q I2 rx ry q) hm
def zgb (t:TE):TT:=fun σ H Q=>t σ H fun x H'=>∃ k,x=.bl k∧Q k H'
theorem zcw {op:CmpOp} {r:R2} (ho:OpR X (compareOp op) r) (ha:PE X a ta) (hb:PE X b tb) (hm:behindInMarks op b=false):PT X (.Compare a [op] [b] pos) (zgb (tOp r ta tb)):=by
  intro pins s σ H Q I h
  refine wpAny_isTrue_Compare1 (thn (ha pins s σ H _ I h) fun v s1 ⟨x,H1,I1,r1,q1⟩=>thn (hb pins s1 σ H1 _ I1 q1) fun u s2 ⟨y,H2,I2,r2,q2⟩ =>
    thn (ho pins s2 σ H2 x y v u _ I2 r1 r2 q2) fun c s3 ⟨z,H3,I3,r3,k,e,q3⟩=>?_) hm
  subst e
  cases r3
  exact wpAny_truthy_bool ⟨H3,I3,q3⟩
def zlc (r r':R2) (ta tb tc:TE):TE:=fun σ H Q=>ta σ H fun x H1=>tb σ H1 fun y H2=>r x y H2 fun z H3=>∃ k,z=.bl k ∧
  (if k=true then tc σ H3 fun w' H4=>r' y w' H4 Q else Q (.bl false) H3)
theorem zk5 {op op':CmpOp} {r r':R2} (ho:OpR X (compareOp op) r) (ho':OpR X (compareOp op') r') (ha:PE X a ta) (hb:PE X b tb) (hc:PE X c tc)
    (hm:lastMarks [op,op'] [b,c]=false:=by with_unfolding_all rfl):PT X (.Compare a [op,op'] [b,c] pos) (zgb (zlc r r' ta tb tc)):=by
  intro pins s σ H Q I h
  refine isTrue_chain (thn (ha pins s σ H _ I h) fun v s1 ⟨x,H1,I1,r1,q1⟩=>test_link (thn (hb pins s1 σ H1 _ I1 q1) fun u s2 ⟨y,H2,I2,r2,q2⟩ =>
    thn (ho pins s2 σ H2 x y v u _ I2 r1 r2 q2) fun d s3 ⟨z,H3,I3,r3,k,e,q3⟩=>?_)) hm
  subst e
  cases r3
  refine wpAny_truthy_bool ?_
  cases k with
  | false =>
    obtain ⟨k',e',q'⟩:=q3
    cases e'
    exact ite_ff ⟨H3,I3,q'⟩
  | true =>
    refine ite_tt (test_last (thn (hc pins s3 σ H3 _ I3 q3) fun w' s4 ⟨z',H4,I4,r4,q4⟩=>thn (ho' pins s4 σ H4 y z' u w' _ I4 r2 r4 q4) fun d' s5 hm=>?_))
    refine bq fun bG=>?_
    obtain ⟨z2,H5,I5,r5,k2,e2,q5⟩:=hm
    subst e2
    cases r5
    exact bG (wpAny_truthy_bool ⟨H5,I5,q5⟩)
noncomputable def ztp (K:PySem.W.Frag) (x:V) (H:Hp) (k:Bool):Prop :=
  match x with
  | .non=>k=false
  | .bl b=>k=b
  | .int i=>k=(i != 0)
  | .str y=>y.length≤sizeLine∧k=((y.length:Int) != 0)
  | .byt y=>y.size≤sizeLine∧k=((y.size:Int) != 0)
  | .ref p=>(∃ xs,SqL K H p xs∧k=!xs.isEmpty)∨(∃ xs,SqT K H p xs∧k=!xs.isEmpty)∨∃ kvs,H p=some (.dK kvs)∧k=!kvs.isEmpty
  | _=>False
theorem zfd {κ:Type} {kvs:List (κ×V)} {vs:List (κ×Value)} (r:KV kvs vs):(!vs.isEmpty)=!kvs.isEmpty:=by
  cases r <;> rfl
theorem za7 {xs:List V} {its:List Value} (r:Vals xs its):(!its.toArray.isEmpty)=!xs.isEmpty:=by
  cases r <;> simp
theorem za5:(sizeLine:Nat)<2 ^ 63:=by rw [sizeLine_eq];decide
theorem zp7:zvg X (fun x H Q=>∃ k,ztp X.K x H k∧Q k H):=by
  intro pins s σ H x v Q I rx h
  obtain ⟨k,e,q⟩:=h
  have hl:=za5
  have hs:sizeLine=16777216:=sizeLine_eq
  cases x with
  | non =>
    cases rx
    have e':k=false:=e
    subst e'
    exact truthy_none ⟨H,I,q⟩
  | bl b =>
    cases rx
    have e':k=b:=e
    subst e'
    exact wpAny_truthy_bool ⟨H,I,q⟩
  | int i =>
    obtain ⟨t,rfl⟩:=rx
    have e':k=(i != 0):=e
    subst e'
    exact PySem.P.truthy_int ⟨H,I,q⟩
  | str y =>
    obtain ⟨t,rfl⟩:=rx
    obtain ⟨hy,e'⟩:y.length≤sizeLine∧k=((y.length:Int) != 0):=e
    subst e'
    exact PySem.P.truthy_str (by omega) ⟨H,I.tok _,q⟩
  | byt y =>
    obtain ⟨t,rfl⟩:=rx
    obtain ⟨hy,e'⟩:y.size≤sizeLine∧k=((y.size:Int) != 0):=e
    subst e'
    exact PySem.W.truthy_bytes (by omega) ⟨H,I.tok _,q⟩
  | ref p =>
    cases rx
    have e':(∃ xs,SqL X.K H p xs∧k=!xs.isEmpty)∨(∃ xs,SqT X.K H p xs∧k=!xs.isEmpty)∨∃ kvs,H p=some (.dK kvs)∧k=!kvs.isEmpty:=e
    rcases e' with ⟨xs,hx,e'⟩ | ⟨xs,hx,e'⟩ | ⟨kvs,hx,e'⟩
    · subst e'
      obtain ⟨its,r,pl,hz⟩:=I.list hx
      have hlen:=r.length
      exact wpAny_truthy_list pl.isList (by simp only [List.size_toArray];omega) ⟨H,I.tok _,by rw [za7 r];exact q⟩
    · subst e'
      obtain ⟨its,r,pl,hz⟩:=I.tuple hx
      have hlen:=r.length
      exact truthy_tuple pl (by simp only [List.size_toArray];omega) ⟨H,I.tok _,by rw [za7 r];exact q⟩
    · subst e'
      obtain ⟨hz,hS,vs,r,m⟩:kvs.length≤sizeLine∧(p==sysModules)=false∧∃ vs,KV kvs vs∧s.heap.DictOf (zhd X.prog X.w) p vs:=I.hok p _ hx
      have hlen:kvs.length=vs.length:=Paired.length r
      exact wpAny_truthy_dict hS m (by omega) ⟨H,I.tok _,by rw [zfd r];exact q⟩
  | _=>exact (show False from e).elim
theorem zk4 (ha:PE X a ta) (he:∀ whole,isTrue a X.env whole=(do let v ← whole;standAt a.pos;holding [v] (truthy v))) :
    PT X a (fun σ H Q=>ta σ H fun x H'=>∃ k,ztp X.K x H' k∧Q k H'):=by
  intro pins s σ H Q I h
  exact isTrue_plain (thn (ha pins s σ H _ I h) fun v s1 ⟨x,H1,I1,r1,q1⟩=>zp7 pins s1 σ H1 x v Q I1 r1 q1) (he _)
theorem zcn {x:V} {us:List Value} (r:Vals [x] us):∃ u,us=[u]∧RelV x u:=by
  cases r with
  | cons r1 r2=>cases r2;exact ⟨_,rfl,r1⟩
theorem zg4 {x y:V} {us:List Value} (r:Vals [x,y] us):∃ u w',us=[u,w']∧RelV x u∧RelV y w':=by
  cases r with
  | cons r1 r2 =>
    cases r2 with
    | cons r3 r4=>cases r4;exact ⟨_,_,rfl,r1,r3⟩
theorem zif (hc:X.calm=true):z72 X (.builtin "max") (fun xs H Q=>∃ i j,xs=[.int i,.int j]∧Q (.int (if j > i then j else i)) H):=by
  intro pins s σ H xs us Q I r h
  refine bq fun bG=>?_
  obtain ⟨i,j,rfl,q⟩:=h
  obtain ⟨u,w',rfl,⟨t,rfl⟩,⟨t',rfl⟩⟩:=zg4 r
  refine bG (max_two_ints (I.ok.hd hc) fun h' tk k=>⟨_,H,I.kept k,?_,q⟩)
  by_cases hj:j > i
  · rw [if_pos hj,if_pos hj];exact ⟨_,rfl⟩
  · rw [if_neg hj,if_neg hj];exact ⟨_,rfl⟩
theorem zii:z72 X (.type "int") (fun xs H Q=>(∃ i,xs=[.int i]∧Q (.int i) H)∨∃ k,xs=[.bl k]∧Q (.int (if k then 1 else 0)) H):=by
  intro pins s σ H xs us Q I r h
  rcases h with ⟨i,rfl,q⟩ | ⟨k,rfl,q⟩
  · obtain ⟨u,rfl,t,rfl⟩:=zcn r
    exact call_int_int ⟨.int i,H,I,⟨_,rfl⟩,q⟩
  · obtain ⟨u,rfl,r1⟩:=zcn r
    cases r1
    exact call_int_bool ⟨.int (if k then 1 else 0),H,I.tok _,⟨_,rfl⟩,q⟩
end
section
variable {prog:Program} {w:World} {A:Around} {E:Value→Shared→Prop} {s:Shared} {K:PySem.W.Frag} {x dx C f:Addr} {mA:Str→Option Value} {name:Str} {v:Value}
end
section
variable {P:Program} {w:World} {H H':Hp} {h h':Heap} {a C dx:Addr} {fs fs':List (Str×V)}
end
section
variable {X:Cx} {pins:List (Addr×Obj)} {σ:St} {H:Hp} {s:Shared} {a C dx:Addr} {fs:List (Str×V)} {f:Str} {v:V} {A:Around} {E:Value→Shared→Prop}
end
section
variable {X:Cx} {o e value:Expr} {f:Str} {pos pos' tpos:Pos} {ta tv:TE}
end
section
variable {X:Cx} {pins:List (Addr×Obj)} {σ:St} {H:Hp} {s:Shared} {A:Around} {E:Value→Shared→Prop} {Q:Value→Shared→Prop} {c:Value} {b:Bool}
end
structure Room (k:Nat) (A:Around):Prop where
  hd:A.handled=none
  dp:A.depth+3*k+5<recursionLimit
  un:A.units+16*k+200<cLine
theorem Room.mono {j k:Nat} {A:Around} (r:Room k A) (h:j≤k):Room j A:=⟨r.hd,by have:=r.dp;omega,by have:=r.un;omega⟩
theorem Room.deeper {k:Nat} {A:Around} (r:Room (k+1) A) (env:Env):Room k (A.deeper env) :=
  ⟨r.hd,by have:=r.dp;show A.depth+1+3*k+5<_;omega,by have:=r.un;show A.units+3+16*k+200<_;omega⟩
theorem Room.depth {k:Nat} {A:Around} (r:Room k A):A.depth<recursionLimit:=by have:=r.dp;omega
theorem Room.units {k:Nat} {A:Around} (r:Room k A):A.units+64<cLine:=by have:=r.un;omega
def zji:TA:=fun _ H Q=>Q [] H
def z8q (ta:TE) (tr:TA):TA:=fun σ H Q=>ta σ H fun x H1=>tr σ H1 fun xs H2=>Q (x::xs) H2
section
variable {X:Cx} {e:Expr} {es:List Expr} {te:TE} {t:TA} {pos:Pos}
theorem z2v:PA X [] zji:=fun _ _ _ _ H Q I h=>Calls.spliced_nil ⟨[],H,I,.nil,h⟩
theorem z0r (ha:PE X e te) (hr:PA X es t) (hs:starEach (e::es) X.env=(false,eval e X.env)::starEach es X.env:=by rfl):PA X (e::es) (z8q te t):=by
  intro pos pins s σ H Q I h
  rw [hs]
  show wpAny _ _ (spliced ((false,eval e X.env)::backTo pos (starEach es X.env))) _ _ s
  refine Calls.spliced_cons (thn (ha pins s σ H _ I h) fun u s1 hm=>?_)
  refine bq fun bG=>?_
  obtain ⟨x,H1,I1,r1,q1⟩:=hm
  exact bG (thn (hr pos pins s1 σ H1 _ I1 q1) fun us s2 ⟨xs,H2,I2,r2,q2⟩=>⟨x::xs,H2,I2,.cons r1 r2,q2⟩)
def zui (t:TA):TE:=fun σ H Q=>t σ H fun xs H1=>xs.length≤sizeLine∧∀ p,H1 p=none→Q (.ref p) (upd H1 p (.tup xs))
def zun (t:TA):TE:=fun σ H Q=>t σ H fun xs H1=>xs.length≤sizeLine∧∀ p,H1 p=none→Q (.ref p) (upd H1 p (.lst xs))
theorem zh4 {x1} (h:PA X es t):PE X (.Tuple es x1 pos) (zui t):=by
  intro pins s σ H Q I hq
  refine wpAny_Tuple_spliced (thn (h pos pins s σ H _ I hq) fun us s1 ⟨xs,H1,I1,r,z,q⟩=>⟨by rw [← r.length];exact z,?_⟩)
  have hf:H1 s1.heap.objs.size=none:=I1.hok.fresh (Nat.le_refl _)
  refine ⟨.ref s1.heap.objs.size,upd H1 s1.heap.objs.size (.tup xs),I1.laid (t':=s1.toks) (fun b u e=>Heap.get?_push_of_some _ e) (Nat.le_refl _) ?_,rfl,q _ hf⟩
  exact ⟨z,us,r,⟨_,Heap.get?_push_size _ rfl,rfl,_,rfl⟩⟩
theorem zlm (h:PA X es t):PE X (.List es pos) (zun t):=by
  intro pins s σ H Q I hq
  refine wpAny_List_spliced (thn (h pos pins s σ H _ I hq) fun us s1 ⟨xs,H1,I1,r,z,q⟩=>⟨by rw [← r.length];exact z,?_⟩)
  have hf:H1 s1.heap.objs.size=none:=I1.hok.fresh (Nat.le_refl _)
  refine ⟨.ref s1.heap.objs.size,upd H1 s1.heap.objs.size (.lst xs),I1.laid (t':=s1.toks) (fun b u e=>Heap.get?_push_of_some _ e) (Nat.le_refl _) ?_,rfl,q _ hf⟩
  exact ⟨z,us,0,r,Heap.get?_push_size _ rfl⟩
end
noncomputable abbrev Sp:=List V→Hp→VK→XK→Prop
noncomputable abbrev CXT:=List Env→Hp→Shared→XK→Value→Shared→Prop
structure Env0 (P:Program) (w:World) (K:PySem.W.Frag) (mg:Str→Option Value) (base:Heap) (A:Around) (outer:List Env) (s:Shared) (H:Hp):Prop where
  frames:A.frames=some outer
  mod:Mod K mg base
  bs:∀ b o,base.get? b=some o→s.heap.get? b=some o∧H b=none
  bsz:base.objs.size≤s.heap.objs.size
  funs:s.heap.FunFrames base outer
  frf:∀ b∈frs outer,H b=none
  hok:HOk P w H s.heap
  bare:AllBare s.gens
noncomputable def CE (outer:List Env) (P:Program) (w:World) (H:Hp) (s:Shared) (Q:VK) (u:Value) (s':Shared):Prop :=
  ∃ v H',s'.os=s.os∧AllBare s'.gens∧Un (frs outer) [] H H' s.heap s'.heap∧HOk P w H' s'.heap∧RelV v u∧Q v H'
noncomputable def CR (CX:CXT) (outer:List Env) (P:Program) (w:World) (H:Hp) (s:Shared) (Q:VK) (E:XK) (r:Result) (s':Shared):Prop :=
  match r with
  | .ok (.ret u)=>CE outer P w H s Q u s'
  | .ok _=>False
  | .error e=>CX outer H s E e s'
structure FnOk (P:Program) (w:World) (K:PySem.W.Frag) (mg:Str→Option Value) (base:Heap) (CX:CXT) (k:Nat) (f:Addr) (fd:FuncData) (ps:List Str) (sp:Sp):Prop where
  len:∀ vs H Q E,sp vs H Q E→vs.length=ps.length
  run:∀ (A:Around) (outer:List Env) (s:Shared) (H:Hp) (args:Args) (us:List Value) (vs:List V) (Q:VK) (E:XK),Room k A→Env0 P w K mg base A outer s H→BindsTo s fd args (ps.zip us)→Vals vs us→sp vs H Q E →
    codeAny (model P w) A (.call (.ref f) args) (CR CX outer P w H s Q E) s
theorem FnOk.imp {P:Program} {w:World} {K:PySem.W.Frag} {mg:Str→Option Value} {base:Heap} {CX:CXT} {k:Nat} {f:Addr} {fd:FuncData} {ps:List Str} {sp sp':Sp} (F:FnOk P w K mg base CX k f fd ps sp)
    (h:∀ vs H Q E,sp' vs H Q E→sp vs H Q E):FnOk P w K mg base CX k f fd ps sp' :=
  ⟨fun vs H Q E q=>F.len vs H Q E (h _ _ _ _ q),fun A outer s H args us vs Q E hr he hb hv hs=>F.run A outer s H args us vs Q E hr he hb hv (h _ _ _ _ hs)⟩
section
variable {X:Cx} {pins:List (Addr×Obj)} {σ:St} {H:Hp} {s s':Shared}
theorem Inv.env0 (I:Inv X pins σ H s):Env0 X.prog X.w X.K X.mg X.base X.A X.stack s H :=
  ⟨I.ok.frames,I.ok.mod,I.bs,Nat.le_trans I.ok.bsz I.sz,I.stack,I.stkFree,I.hok,I.bare⟩
theorem Inv.after {Q:VK} {u:Value} (I:Inv X pins σ H s) (h:CE X.stack X.prog X.w H s Q u s'):EP X pins σ Q u s':=by
  obtain ⟨v,H',os,bare,un,hok,r,q⟩:=h
  obtain ⟨hh,g,d,t,os'⟩:=s'
  obtain rfl:os'=s.os:=os
  exact ⟨v,H',I.call (h':=hh) (g':=g) (d':=d) (t':=t) (ch:=[]) un hok bare (fun b z=>absurd z (by simp)),r,q⟩
end
def zpa (sp:Sp) (dvs:List V) (E:XK) (t:TA):TE:=fun σ H Q=>t σ H fun vs H1=>sp (vs++dvs) H1 Q E
noncomputable def Binds (K:PySem.W.Frag) (fd:FuncData) (ps:List Str) (ds:List Value):Prop :=
  ∀ (s:Shared) (us:List Value),K.In s.heap→(us++ds).length=ps.length→BindsTo s fd ⟨us,[]⟩ (ps.zip (us++ds))
theorem Binds.all {K:PySem.W.Frag} {fd:FuncData} {ps:List Str} (h:∀ us:List Value,us.length=ps.length→bindArgs fd ⟨us,[]⟩=pure (ps.zip us)):Binds K fd ps []:=fun s us _ hl=>by
  rw [List.append_nil] at hl ⊢
  exact .of_eq (h us hl)
def zeo (CX:CXT) (X:Cx) (E:XK):Prop:=∀ (pins:List (Addr×Obj)) (σ:St) (H:Hp) (s:Shared) (e:Value) (s':Shared),Inv X pins σ H s→CX X.stack H s E e s'→X.xe e s'
section
variable {X:Cx} {CX:CXT} {k:Nat} {f C:Addr} {fd:FuncData} {ps:List Str} {sp:Sp} {dvs:List V} {ds:List Value} {E:XK} {x m:Str} {p pos apos:Pos} {e o:Expr} {es:List Expr} {ta:TE} {t:TA}
theorem zpf {pins:List (Addr×Obj)} {σ:St} {H:Hp} {s:Shared} {Q:VK} {us:List Value} {vs:List V} (F:FnOk X.prog X.w X.K X.mg X.base CX k f fd ps sp) (hr:Room k X.A) (hb:Binds X.K fd ps ds) (hd:Vals dvs ds) (hx:zeo CX X E)
    (I:Inv X pins σ H s) (r:Vals vs us) (h:sp (vs++dvs) H Q E):wpAny (model X.prog X.w) X.A (call (.ref f) us) (EP X pins σ Q) X.xe s:=by
  have r2:Vals (vs++dvs) (us++ds):=r.append hd
  have hl:(us++ds).length=ps.length:=by rw [← r2.length];exact F.len _ _ _ _ h
  refine wpAny_call (codeAny_mono (F.run X.A X.stack s H ⟨us,[]⟩ (us++ds) (vs++dvs) Q E hr I.env0 (hb s us I.kIn hl) r2 h) fun r s' hq=>?_)
  cases r with
  | error e=>exact hx pins σ H s e s' I hq
  | ok fl =>
    cases fl with
    | ret u=>exact I.after hq
    | next=>exact False.elim hq
    | brk=>exact False.elim hq
    | cont=>exact False.elim hq
theorem zne (F:FnOk X.prog X.w X.K X.mg X.base CX k f fd ps sp) (hr:Room k X.A) (hg:Gl X x) (hm:X.mg x=some (.ref f)) (hk:PySem.W.keepIn X.K (.ref f)=true) (hb:Binds X.K fd ps ds) (hd:Vals dvs ds) (hx:zeo CX X E)
    (ha:PA X (e::es) t) (hdb:(x==("__debug__" : Str))=false:=by decide) (he:starEach (e::es) X.env=(false,eval e X.env)::starEach es X.env:=by rfl) (hpl:(backTo pos (starEach es X.env)).any (·.1)=false:=by rfl) :
    PE X (.Call (.Name x p) (e::es) [] pos) (zpa sp dvs E t):=by
  intro pins s σ H Q I h
  refine wpAny_Call_Name_kw (z87 I hg hm ?_ hdb)
  refine PySem.W.callWith_K (h₀:=X.base) I.ok.mod.kin hk (thn (ha pos pins s σ H _ I h) fun us s1 ⟨vs,H1,I1,r,q⟩=>⟨I1.kIn,?_⟩) he hpl
  exact zpf F hr hb hd hx I1 r q
end
section
variable {X:Cx} {CX:CXT} {k:Nat} {f C:Addr} {fd:FuncData} {ps ks:List Str} {sp:Sp} {E:XK} {x m:Str} {p pos apos kpos:Pos} {e o:Expr} {es:List Expr} {kws:List Keyword} {te ta:TE} {t tk:TA} {nm:Option Str}
variable {g:List Value→List Value→List Value} {gV:List V→List V→List V}
end
structure FnScope (N P:List Str) (sc:Scope):Prop where
  kind:sc.kind=.function
  co:sc.isCoroutine=false
  gen:sc.isGenerator=false
  nd:N.Nodup
  pre:N.take P.length=P
  par:∀ x∈P,sc.names.lookup x=some .local∨sc.names.lookup x=some .cell
  nofree:∀ y∈sc.names,y.2≠.free
theorem zc4 {kindOf:Str→Option NameKind} {x:Str}:∀ {binds:List (Str×Value)} {m:Str→Option Value},(∀ v,(x,v)∉binds)→bindL kindOf binds m x=m x
  | [],_,_=>rfl
  | (n,v)::r,m,h=>by
    unfold bindL
    rw [zc4 fun w hw=>h w (List.mem_cons_of_mem _ hw)]
    split
    · have:x≠n:=by rintro rfl;exact h v List.mem_cons_self
      simp [this]
    · rfl
theorem zc6 {kindOf:Str→Option NameKind} {x:Str}:∀ {binds:List (Str×Value)} {m:Str→Option Value},(∀ v,(x,v)∉binds)→bindC kindOf binds m x=m x
  | [],_,_=>rfl
  | (n,v)::r,m,h=>by
    unfold bindC
    rw [zc6 fun w hw=>h w (List.mem_cons_of_mem _ hw)]
    split
    · rfl
    · have:x≠n:=by rintro rfl;exact h v List.mem_cons_self
      simp [this]
theorem zc5 {kindOf:Str→Option NameKind} {x:Str} {v:Value}:∀ {P:List Str} {vs:List Value} {i:Nat} {m:Str→Option Value},P.Nodup→P[i]?=some x→vs[i]?=some v→kindOf x=some .local →
    bindL kindOf (P.zip vs) m x=some v
  | [],_,_,_,_,h,_,_=>by simp at h
  | _::_,[],_,_,_,_,h,_=>by simp at h
  | p::P,w::vs,0,m,nd,h1,h2,hk=>by
    simp at h1 h2;subst h1;subst h2
    show bindL kindOf ((p,w)::P.zip vs) m p=_
    unfold bindL
    rw [zc4 fun v hv=>(List.nodup_cons.mp nd).1 (List.of_mem_zip hv).1,if_pos hk]
    simp
  | p::P,w::vs,i+1,m,nd,h1,h2,hk=>by
    show bindL kindOf ((p,w)::P.zip vs) m x=_
    unfold bindL
    exact zc5 (i:=i) (List.nodup_cons.mp nd).2 (by simpa using h1) (by simpa using h2) hk
theorem zc7 {kindOf:Str→Option NameKind} {x:Str} {v:Value}:∀ {P:List Str} {vs:List Value} {i:Nat} {m:Str→Option Value},P.Nodup→P[i]?=some x→vs[i]?=some v→kindOf x≠some .local →
    bindC kindOf (P.zip vs) m x=some v
  | [],_,_,_,_,h,_,_=>by simp at h
  | _::_,[],_,_,_,_,h,_=>by simp at h
  | p::P,w::vs,0,m,nd,h1,h2,hk=>by
    simp at h1 h2;subst h1;subst h2
    show bindC kindOf ((p,w)::P.zip vs) m p=_
    unfold bindC
    rw [zc6 fun v hv=>(List.nodup_cons.mp nd).1 (List.of_mem_zip hv).1,if_neg hk]
    simp
  | p::P,w::vs,i+1,m,nd,h1,h2,hk=>by
    show bindC kindOf ((p,w)::P.zip vs) m x=_
    unfold bindC
    exact zc7 (i:=i) (List.nodup_cons.mp nd).2 (by simpa using h1) (by simpa using h2) hk
noncomputable def zae (N:List Str) (vs:List V):St:=vs.map some++List.replicate (N.length - vs.length) none
noncomputable def z5a (CX:CXT) (P:Program) (w:World) (K:PySem.W.Frag) (mg:Str→Option Value) (base:Heap) (N:List Str) (qual:Str) (scope:Scope) (f:Addr) (cd:Value) (A:Around) (outer:List Env) (s:Shared) (H:Hp) (E:XK):Cx where
  prog:=P
  w:=w
  K:=K
  mg:=mg
  base:=base
  A:=A.deeper (envOfC qual scope s.heap.objs.size f cd)
  N:=N
  s₀:=s
  H₀:=H
  env:=envOfC qual scope s.heap.objs.size f cd
  outer:=outer
  stack:=envOfC qual scope s.heap.objs.size f cd::outer
  ex:=[]
  calm:=true
  fn:=fun _=>true
  pn:=[]
  xe:=fun e s'=>wpAny (model P w) (A.deeper (envOfC qual scope s.heap.objs.size f cd)) (leaving (envOfC qual scope s.heap.objs.size f cd) e) (fun _ s''=>CX outer H s E e s'') (fun e' s''=>CX outer H s E e' s'') s'
theorem zem {sc:Scope} {n:Nat} {x:Str} (h:sc.names.lookup x=some .cell):∃ c,(cellsFrom n sc.names []).lookup x=some c:=by
  have q:=PySem.W.cellsFrom_some sc.names n [] (.inl h)
  exact Option.isSome_iff_exists.mp q
theorem zhs {CX:CXT} {P:Program} {w:World} {K:PySem.W.Frag} {mg:Str→Option Value} {base:Heap} {N ps:List Str} {qual:Str} {scope:Scope} {f:Addr} {cd:Value} {A:Around} {outer:List Env} {s s1:Shared} {H:Hp} {E:XK} {us:List Value} {vs:List V}
    (S:FnScope N ps scope) (hd:A.handled=none) (e0:Env0 P w K mg base A outer s H) (hl:vs.length=ps.length) (r:Vals vs us)
    (x:InCallC s s.heap.objs.size (bindL (envOfC qual scope s.heap.objs.size f cd).kindOf (ps.zip us) fun _=>none) (cellsFrom (s.heap.objs.size+1) scope.names []) (bindC (envOfC qual scope s.heap.objs.size f cd).kindOf (ps.zip us) fun _=>none) s1) :
    Inv (z5a CX P w K mg base N qual scope f cd A outer s H E) [] (zae N vs) H s1:=by
  have hpl:ps.length≤N.length:=by have:=congrArg List.length S.pre;rw [List.length_take] at this;omega
  obtain ⟨h1,tk,rfl,hk⟩:=x.done
  have noA:∀ b:Addr,b∉(z5a CX P w K mg base N qual scope f cd A outer s H E).ex:=fun b z=>absurd (show b∈([]:List Addr) from z) (by simp)
  refine ⟨⟨e0.mod,S.kind,rfl,rfl,Nat.le_refl _,fun y z c h1 h2=>?_,fun y hy=>?_,fun y c _ h=>?_,fun _=>hd,Around.frames_deeper e0.frames,.inr ⟨rfl,rfl⟩,fun b z=>absurd z (noA b),e0.bs,e0.bsz,fun b _ _=>noA b,fun b z=>absurd z (noA b),e0.funs,e0.frf⟩,
    rfl,e0.bare,Un.kept hk,⟨_,x.toInCall.ns,fun i y v h1 h2 h3=>?_⟩,fun y c h=>⟨_,x.cell y c h⟩,e0.hok.fresh (Nat.le_refl _),fun y c h=>?_,fun p hp=>absurd (show p∈([]:List (Addr×Obj)) from hp) (by simp),e0.hok.kept hk,?_⟩
  · exact name_of_addr x.apart (PySem.mem_of_lookup h1) (PySem.mem_of_lookup h2)
  · have hy:scope.names.lookup y=some .cell∨scope.names.lookup y=some .free:=hy
    rcases hy with hy | hy
    · exact zem hy
    · exact absurd rfl (S.nofree _ (PySem.mem_of_lookup hy))
  · exact Nat.le_of_lt (x.above y c (PySem.mem_of_lookup h))
  · have hi:i<vs.length:=by
      unfold zae at h2
      by_cases hi:i<vs.length
      · exact hi
      · rw [List.getElem?_append_right (by simpa using hi)] at h2
        rw [List.getElem?_replicate] at h2
        split at h2 <;> cases h2
    have ha:vs[i]?=some v:=by
      unfold zae at h2
      rw [List.getElem?_append_left (by simpa using hi),List.getElem?_map] at h2
      cases e:vs[i]? with
      | none=>rw [e] at h2;cases h2
      | some a=>rw [e] at h2;cases h2;rfl
    obtain ⟨u,hu,rv⟩:=r.get ha
    have hp:ps[i]?=some y:=by
      rw [← S.pre,List.getElem?_take_of_lt (by omega)];exact h1
    have ndP:ps.Nodup:=by rw [← S.pre];exact S.nd.sublist (List.take_sublist _ _)
    refine ⟨u,rv,?_⟩
    rcases S.par y (List.mem_of_getElem? hp) with k | k
    · exact .inl ⟨k,zc5 ndP hp hu k⟩
    · obtain ⟨c,e⟩:=zem (n:=s.heap.objs.size+1) k
      refine .inr ⟨.inl k,c,e,?_⟩
      have q:=x.cell y c e
      rw [zc7 ndP hp hu (by show scope.names.lookup y≠_;rw [k];decide)] at q
      exact q
  · exact e0.hok.fresh (Nat.le_of_lt (x.above y c (PySem.mem_of_lookup h)))
  · unfold zae
    show _=N.length
    rw [List.length_append,List.length_map,List.length_replicate]
    omega
theorem zr9 {CX:CXT} {P:Program} {w:World} {K:PySem.W.Frag} {mg:Str→Option Value} {base:Heap} {k:Nat} {f:Addr} {name qual:Str} {params:Arguments} {body:List Stmt} {scope:Scope} {dV kV doc pm cdv ct oc:Value} {an od:Option Addr}
    {osl:Array (Option Value)} {N ps:List Str} {sp:Sp} (lk:K.lookup f=some ⟨oc,od,.func (PySem.W.fnOf name qual params body scope dV kV doc pm an cdv ct),osl⟩) (hcd:PySem.W.codeIn K cdv qual=true) (S:FnScope N ps scope)
    (len:∀ vs H Q E,sp vs H Q E→vs.length=ps.length)
    (hbody:∀ (A:Around) (outer:List Env) (s:Shared) (H:Hp) (vs:List V) (Q:VK) (E:XK),Room k (A.deeper (envOfC qual scope s.heap.objs.size f cdv))→sp vs H Q E →
      ∃ t,PSs (z5a CX P w K mg base N qual scope f cdv A outer s H E) body t∧t { nx:=fun _ H'=>Q .non H',rt:=Q } (zae N vs) H) :
    FnOk P w K mg base CX (k+1) f (PySem.W.fnOf name qual params body scope dV kV doc pm an cdv ct) ps sp:=by
  refine ⟨len,fun A outer s H args us vs Q E hr e0 hb r hsp=>?_⟩
  have hl:=len _ _ _ _ hsp
  have KX:K.In s.heap:=e0.mod.kin.keeps fun b o e=>(e0.bs b o e).1
  have lim:s.heap.NoLimit:=e0.mod.nolimit.keeps fun b o e=>(e0.bs b o e).1
  have hkind:∀ y∈ps.zip us,scope.names.lookup y.1=some .local∨(scope.names.lookup y.1=some .cell∧((cellsFrom (s.heap.objs.size+1) scope.names []).lookup y.1).isSome=true):=fun ⟨n,v⟩ hy=>by
    rcases S.par n (List.of_mem_zip hy).1 with q | q
    · exact .inl q
    · exact .inr ⟨q,PySem.W.cellsFrom_some _ _ _ (.inl q)⟩
  refine codeAny_call_function hr.depth (KX _ _ lk) rfl S.co S.gen rfl (PySem.W.codeRec_of KX hcd) (hb _ _ _ _ ?_)
  refine wpAny_newFunctionEnv_cells S.kind hkind fun env he s1 x=>?_
  subst he
  refine ⟨lim.keeps x.toInCall.keep,codeAny_func ?_⟩
  refine bq fun bG=>?_
  obtain ⟨t,ht,hq⟩:=hbody A outer s H vs Q E (hr.deeper _) hsp
  have I:Inv (z5a CX P w K mg base N qual scope f cdv A outer s H E) [] (zae N vs) H s1:=zhs S hr.hd e0 hl r x
  refine bG (wpAny_mono (ht [] s1 (zae N vs) H _ I hq) (fun fl s' hs=>?_) fun e s' hs=>hs)
  have fin:∀ {σ':St} {H':Hp} {v:V} {u:Value},Inv (z5a CX P w K mg base N qual scope f cdv A outer s H E) [] σ' H' s'→RelV v u→Q v H'→CE outer P w H s Q u s' :=
    fun {σ' H' v u} J rv q=>⟨v,H',J.os,J.bare,J.base,J.hok,rv,q⟩
  cases fl with
  | ret u =>
    obtain ⟨v,σ',H',J,rv,q⟩:=hs
    exact fin J rv q
  | next =>
    obtain ⟨σ',H',J,q⟩:=hs
    exact fin (v:=V.non) (u:=Value.none) J rfl q
  | brk =>
    obtain ⟨_,_,_,q⟩:=hs
    exact False.elim q
  | cont =>
    refine bq fun bG=>?_
    obtain ⟨_,_,_,q⟩:=hs
    exact bG (False.elim q)
section
variable {X:Cx} {x:Str} {p pos:Pos} {e:Expr} {es:List Expr} {t:TA} {id T:String} {r:List V→Hp→VK→Prop}
def tCB (r:List V→Hp→VK→Prop) (t:TA):TE:=fun σ H Q=>t σ H fun vs H1=>r vs H1 Q
theorem z3l (hc:z72 X (.builtin id) r) (hg:Gl X x) (hm:X.mg x=none) (hv:bootBuiltins x=some (.builtin id)) (ha:PA X (e::es) t) (hn:x ≠ "__name__" := by decide) (hdb:(x==("__debug__" : Str))=false:=by decide)
    (he:starEach (e::es) X.env=(false,eval e X.env)::starEach es X.env:=by rfl) (hpl:(backTo pos (starEach es X.env)).any (·.1)=false:=by rfl):PE X (.Call (.Name x p) (e::es) [] pos) (tCB r t):=by
  intro pins s σ H Q I h
  refine wpAny_Call_Name_kw (zbp I hg hm hv ?_ hn hdb)
  exact PyProof.Rows.callWith_builtin1 (thn (ha pos pins s σ H _ I h) fun us s1 ⟨vs,H1,I1,r1,q1⟩=>hc pins s1 σ H1 vs us Q I1 r1 q1) he hpl
theorem zbk (hc:z72 X (.type T) r) (hg:Gl X x) (hm:X.mg x=none) (hv:bootBuiltins x=some (.type T)) (ha:PA X (e::es) t) (hn:x ≠ "__name__" := by decide) (hdb:(x==("__debug__" : Str))=false:=by decide)
    (he:starEach (e::es) X.env=(false,eval e X.env)::starEach es X.env:=by rfl) (hpl:(backTo pos (starEach es X.env)).any (·.1)=false:=by rfl):PE X (.Call (.Name x p) (e::es) [] pos) (tCB r t):=by
  intro pins s σ H Q I h
  refine wpAny_Call_Name_kw (zbp I hg hm hv ?_ hn hdb)
  exact PyProof.Rows.callWith_type1 (thn (ha pos pins s σ H _ I h) fun us s1 ⟨vs,H1,I1,r1,q1⟩=>hc pins s1 σ H1 vs us Q I1 r1 q1) he hpl
end
end L2
namespace HT
open PySem PyProof.Rows
noncomputable def lexLt:List Int→List Int→Bool
  | [],[]=>false
  | [],_::_=>true
  | _::_,[]=>false
  | x::xs,y::ys=>if x=y then lexLt xs ys else decide (x<y)
theorem eqAt_int (A:Around) (s:Shared) (a:Int) (t:Tok) (c:Int) (u:Tok):∃ e,SeqAt.EqAt A s (.int a t) (.int c u) e∧(e=true↔a=c) :=
  ⟨(a==c),SeqAt.EqAt.int_int a t c u,by simp⟩
theorem rcLt_int (A:Around) (s:Shared) (a:Int) (t:Tok) (c:Int) (u:Tok) (prog:Program) (w:World) (E:Value→Shared→Prop) (Q:Value→Shared→Prop) (h:Q (.bool (decide (a<c))) s) :
    wpAny (model prog w) A (richCompare .Lt (.int a t) (.int c u)) Q E s :=
  (PyProof.Rows.lt_int h:wpAny (model prog w) A (compareOp .Lt (.int a t) (.int c u)) Q E s)
section
open PySem.SeqAt
open PySem.AutoSeq1 (wpAny_loadPart')
open PySem.MeetsSeq PySem.MeetsSeq2 PySem.MeetsSeq3
end
section
variable {prog:Program} {w:World} {A:Around} {E:Value→Shared→Prop} {s:Shared}
theorem cat_tup {t b:Addr} {vs ws:List Value} {Q:Value→Shared→Prop} (ht:IsTup s.heap t vs.toArray) (hb:IsTup s.heap b ws.toArray) (hv:vs≠[])
    (h1:ws=[]→Q (.ref t) s) (h2:ws≠[]→Q (.ref s.heap.objs.size) { s with heap:=s.heap.push { cls:=.type "tuple",data:=.seq (vs++ws).toArray } })
    (hsz:vs.length+ws.length≤sizeLine):wpAny (model prog w) A (binaryOp .Add (.ref t) (.ref b)) Q E s:=by
  obtain ⟨⟨cls,dd,data,sl⟩,ho,hc,n,hd⟩:=id ht
  obtain ⟨⟨cls2,dd2,data2,sl2⟩,ho2,hc2,n2,hd2⟩:=id hb
  simp only at hc hd hc2 hd2
  subst hc hd hc2 hd2
  have e:vs.toArray++ws.toArray=(vs++ws).toArray:=by simp
  by_cases hw:ws=[]
  · exact concat_meets ⟨_,ho,rfl⟩ ⟨_,ho2,rfl⟩ noFill_tuple_add seq_tuple_add PySem.F.slot_tuple_add PySem.F.entry_tuple_add (PySem.F.args_tuple_add_2 _ _)
      (tuple_addW1 t b vs.toArray ws.toArray n n2 dd dd2 sl sl2 (by simpa using hv) (by simp [hw])) ⟨ho,ho2,h1 hw⟩
  · refine concat_meets ⟨_,ho,rfl⟩ ⟨_,ho2,rfl⟩ noFill_tuple_add seq_tuple_add PySem.F.slot_tuple_add PySem.F.entry_tuple_add (PySem.F.args_tuple_add_2 _ _)
      (tuple_addW2 t b vs.toArray ws.toArray n n2 dd dd2 sl sl2 (by simpa using hv) (by simpa using hw) (by rw [List.size_toArray,List.size_toArray];exact hsz)) ⟨ho,ho2,?_⟩
    rw [e]
    exact h2 hw
noncomputable def sIx (n d:Nat):Option Int→Nat
  | none=>d
  | some v=>if v<0 then (v+(n:Int)).toNat else min v.toNat n
theorem sIx_none (n d:Nat):sIx n d none=d:=rfl
theorem sIx_nat (n d k:Nat):sIx n d (some (k:Int))=min k n:=by
  show (if (k:Int)<0 then ((k:Int)+(n:Int)).toNat else min (k:Int).toNat n)=min k n
  rw [if_neg (by omega),Int.toNat_natCast]
theorem zpe (n d:Nat) (hd:d≤n) (o:Option Int):sIx n d o≤n:=by
  cases o with
  | none=>exact hd
  | some v =>
    show (if v<0 then (v+(n:Int)).toNat else min v.toNat n)≤n
    by_cases hv:v<0
    · rw [if_pos hv];omega
    · rw [if_neg hv];exact Nat.min_le_right _ _
theorem zic (v:Int) (n d:Nat):(if v<0 then max (v+(n:Int)) 0 else min v (n:Int))=((sIx n d (some v):Nat):Int):=by
  show (if v<0 then max (v+(n:Int)) 0 else min v (n:Int))=(((if v<0 then (v+(n:Int)).toNat else min v.toNat n):Nat):Int)
  by_cases hv:v<0
  · simp only [if_pos hv];omega
  · simp only [if_neg hv];omega
theorem zfl (lo hi:Option Int) (n:Nat):Builtin.Slice.sliceAdjust lo hi 1 (n:Int)=(((sIx n 0 lo:Nat):Int),((sIx n n hi:Nat):Int)):=by
  have h1:¬ ((1:Int)<0):=by omega
  unfold Builtin.Slice.sliceAdjust
  simp only [h1,if_false]
  refine Prod.ext ?_ ?_
  · cases lo with
    | none=>rfl
    | some v=>exact zic v n 0
  · cases hi with
    | none=>rfl
    | some v=>exact zic v n n
theorem zf5 (i j:Nat):Builtin.Slice.slicePlaces (i:Int) (j:Int) 1=j - i:=by
  unfold Builtin.Slice.slicePlaces
  have h1:(1:Int) > 0:=by omega
  simp only [h1,if_true,Int.ediv_one]
  split <;> omega
theorem z9j {v:Value} {o:Option Int} {Q:Option Int→Shared→Prop} (p:IsPart v o) (h:Q o s):wpAny (model prog w) A (Builtin.Slice.slicePartIndex v) Q E s:=by
  cases p with
  | none=>exact slicePart_none h
  | int i t=>exact slicePart_int h
theorem z79 {sl:Addr} {vl vu:Value} {lo hi:Option Int} {n:Nat} {Q:Int×Int×Nat→Shared→Prop} (hs:s.heap.IsSliceOf sl vl vu .none) (pl:IsPart vl lo) (pu:IsPart vu hi)
    (h:Q (((sIx n 0 lo:Nat):Int),1,sIx n n hi - sIx n 0 lo) s):wpAny (model prog w) A (Builtin.Slice.sliceApplied (.ref sl) (pure (n:Int))) Q E s:=by
  obtain ⟨os,hos,hcs,hds⟩:=id hs
  unfold Builtin.Slice.sliceApplied Builtin.Slice.sliceFields
  refine wpAny_bind (wpAny_bind (wpAny_field hos hds (x:=vl) rfl (wpAny_bind (wpAny_field hos hds (x:=vu) rfl (wpAny_bind (wpAny_field hos hds (x:=.none) rfl (wpAny_pure ?_)))))))
  refine wpAny_bind (slicePart_none ?_)
  show wpAny _ _ (if ((1:Int)==0)=true then _ else _) _ _ s
  rw [if_neg (by decide)]
  refine wpAny_bind (z9j pl (wpAny_bind (z9j pu (wpAny_bind (wpAny_pure ?_)))))
  show wpAny _ _ (match Builtin.Slice.sliceAdjust lo hi 1 (n:Int) with | (lo,hi)=>pure (lo,(1:Int),Builtin.Slice.slicePlaces lo hi 1)) _ _ s
  rw [zfl lo hi n]
  show wpAny _ _ (pure (((sIx n 0 lo:Nat):Int),(1:Int),Builtin.Slice.slicePlaces ((sIx n 0 lo:Nat):Int) ((sIx n n hi:Nat):Int) 1)) _ _ s
  rw [zf5]
  exact wpAny_pure h
theorem zk7 (xs:Array Value) (i k:Nat):((List.range k).filterMap fun (m:Nat)=>xs[((i:Int)+(m:Int)*1).toNat]?).toArray=((xs.toList.drop i).take k).toArray:=by
  have e:(fun (m:Nat)=>xs[((i:Int)+(m:Int)*1).toNat]?)=fun m=>xs[i+m]?:=by
    funext m
    have:((i:Int)+(m:Int)*1).toNat=i+m:=by omega
    rw [this]
  rw [e]
  have:=pick_run xs i k
  rw [List.filterMap_map] at this
  have e2:((fun x=>xs[x]?) ∘ fun x=>i+x)=fun m=>xs[i+m]?:=rfl
  rw [e2] at this
  rw [this]
theorem getItem_tuple_cut {t sl:Addr} {items:Array Value} {vl vu:Value} {lo hi:Option Int} {Q:Value→Shared→Prop} (ht:IsTup s.heap t items) (hs:s.heap.IsSliceOf sl vl vu .none) (pl:IsPart vl lo) (pu:IsPart vu hi)
    (hw:¬ (sIx items.size 0 lo=0∧sIx items.size items.size hi=items.size))
    (h:Q (.ref s.heap.objs.size) { s with heap:=s.heap.push { cls:=.type "tuple",data:=.seq ((items.toList.drop (sIx items.size 0 lo)).take (sIx items.size items.size hi - sIx items.size 0 lo)).toArray } })
    (hsz:items.size≤sizeLine):wpAny (model prog w) A (getItem (.ref t) (.ref sl)) Q E s:=by
  have htake:sizeOk (.seq ((items.toList.drop (sIx items.size 0 lo)).take (sIx items.size items.size hi - sIx items.size 0 lo)).toArray):=by
    show ((items.toList.drop (sIx items.size 0 lo)).take (sIx items.size items.size hi - sIx items.size 0 lo)).toArray.size≤sizeLine
    rw [List.size_toArray,List.length_take,List.length_drop,Array.length_toList]
    omega
  have hj:sIx items.size items.size hi≤items.size:=zpe _ _ (Nat.le_refl _) hi
  obtain ⟨os,hos,hcs,hds⟩:=id hs
  have hTs:s.TypeIs (.ref sl) "slice" := ⟨os,hos,hcs⟩
  unfold getItem
  try with_reducible refine wpAny_holding ?_
  first | refine wpAny_bind (wpAny_pure ?_) | skip
  refine wpAny_bind (wpAny_sequenceKey ht.typeIs (by decide) ?_)
  refine wpAny_bind (wpAny_callSpecial?_slot (name:=Str.ofString "__getitem__") ht.typeIs PyProof.Rows.slot_tuple_getitem
    (wpAny_call_entry PyProof.Rows.slot_tuple_getitem ht.typeIs entry_tuple_getitem ?_ (args_tuple_getitem _ _)))
  show wpAny _ _ (Builtin.Tuple.tupleItemsOf (.ref t) >>= _) _ _ s
  refine wpAny_bind (tupleItemsOf_ ht ?_)
  refine wpAny_bind (wpAny_typeOf hTs ?_)
  rw [if_pos (by decide)]
  refine wpAny_bind (z79 hs pl pu ?_)
  have hno:¬ ((((sIx items.size 0 lo:Nat):Int)==0&&(1:Int)==1&&(sIx items.size items.size hi - sIx items.size 0 lo)==items.size)=true):=by
    intro q
    rw [Bool.and_eq_true,Bool.and_eq_true] at q
    have q1:((sIx items.size 0 lo:Nat):Int)=0:=eq_of_beq q.1.1
    have q2:sIx items.size items.size hi - sIx items.size 0 lo=items.size:=eq_of_beq q.2
    exact hw ⟨by omega,by omega⟩
  show wpAny _ _ (if (((sIx items.size 0 lo:Nat):Int)==0&&(1:Int)==1&&(sIx items.size items.size hi - sIx items.size 0 lo)==items.size)=true then _ else _) _ _ s
  rw [if_neg hno,zk7]
  first
    | exact wpAny_bind (m:=Builtin.Tuple.tupleExact _) (wpAny_newObj_type (wpAny_pure ⟨_,rfl,wpAny_pure h⟩) htake)
    | exact wpAny_bind (m:=Builtin.Tuple.tupleExact _) (wpAny_newObj_type (wpAny_bind (wpAny_pure (wpAny_pure ⟨_,rfl,wpAny_pure h⟩))) htake)
    | exact wpAny_bind (wpAny_bind (m:=Builtin.Tuple.tupleExact _) (wpAny_newObj_type (wpAny_pure (wpAny_pure ⟨_,rfl,wpAny_pure h⟩)) htake))
    | exact wpAny_bind (wpAny_bind (m:=Builtin.Tuple.tupleExact _) (wpAny_newObj_type (wpAny_pure ⟨_,rfl,wpAny_pure h⟩) htake))
end
end HT
namespace L2
open PySem PySem.Spec PyProof.Rows
noncomputable abbrev TO:=St→Hp→(Option Int→Hp→Prop)→Prop
noncomputable def PO (X:Cx) (e:Option Expr) (t:TO):Prop :=
  ∀ (pins:List (Addr×Obj)) (s:Shared) (σ:St) (H:Hp) (Q:Option Int→Hp→Prop),Inv X pins σ H s→t σ H Q →
    wpAny (model X.prog X.w) X.A (evalPart e X.env) (fun u s'=>∃ o H',Inv X pins σ H' s'∧IsPart u o∧Q o H') X.xe s
noncomputable def zmo:TO:=fun _ H Q=>Q none H
noncomputable def zsc (t:TE):TO:=fun σ H Q=>t σ H fun x H1=>∃ i,x=.int i∧Q (some i) H1
theorem za8 {ns:List Int}:∀ {us:List Value},Vals (ns.map V.int) us→IntsAre us ns:=by
  induction ns with
  | nil=>intro us r;rw [List.map_nil] at r;cases r;exact .nil
  | cons n ns ih =>
    intro us r
    rw [List.map_cons] at r
    cases r with
    | cons r1 r2 =>
      refine bq fun bG=>?_
      obtain ⟨t,e⟩:=r1
      subst e
      exact bG (.cons n t (ih r2))
section
variable {X:Cx} {e:Expr} {te:TE} {lo hi:Option Expr} {tl th:TO} {pos p2:Pos}
theorem zn6:PO X none zmo:=by
  intro pins s σ H Q I h
  rw [evalPart_none]
  exact wpAny_pure ⟨none,H,I,.none,h⟩
theorem zn5 (h:PE X e te):PO X (some e) (zsc te):=by
  intro pins s σ H Q I hw
  rw [evalPart_some]
  refine thn (h pins s σ H _ I hw) fun u s1 hm=>?_
  refine bq fun bG=>?_
  obtain ⟨x,H1,I1,r1,q1⟩:=hm
  refine bG (bq fun bG=>?_)
  obtain ⟨i,rfl,q⟩:=q1
  obtain ⟨t,rfl⟩:=r1
  exact bG (⟨some i,H1,I1,.int i t,q⟩)
noncomputable def SlR (X:Cx) (r:V→Option Int→Option Int→Hp→VK→Prop):Prop :=
  ∀ (pins:List (Addr×Obj)) (s:Shared) (σ:St) (H:Hp) (x:V) (v vl vu:Value) (lo hi:Option Int) (sl:Addr) (Q:VK),Inv X pins σ H s→RelV x v→s.heap.IsSliceOf sl vl vu .none→IsPart vl lo→IsPart vu hi→r x lo hi H Q →
    ∃ T id,typeLookup (.type T) "__getitem__" = pure (some (.builtin id))∧s.TypeIs v T∧wpAny (model X.prog X.w) X.A (getItem v (.ref sl)) (EP X pins σ Q) X.xe s
theorem SlR.or {r r':V→Option Int→Option Int→Hp→VK→Prop} (h:SlR X r) (h':SlR X r'):SlR X (fun x lo hi H Q=>r x lo hi H Q∨r' x lo hi H Q):=by
  intro pins s σ H x v vl vu lo hi sl Q I rx hs pl pu q
  rcases q with q | q
  · exact h pins s σ H x v vl vu lo hi sl Q I rx hs pl pu q
  · exact h' pins s σ H x v vl vu lo hi sl Q I rx hs pl pu q
def tSl (r:V→Option Int→Option Int→Hp→VK→Prop) (te:TE) (tl th:TO):TE:=fun σ H Q=>te σ H fun x H1=>tl σ H1 fun l H2=>th σ H2 fun u H3=>r x l u H3 Q
theorem zka {r:V→Option Int→Option Int→Hp→VK→Prop} (hr:SlR X r) (he:PE X e te) (hl:PO X lo tl) (hu:PO X hi th):PE X (.Subscript e (.Slice lo hi none p2) pos) (tSl r te tl th):=by
  intro pins s σ H Q I h
  refine Subscript_ (thn (he pins s σ H _ I h) fun v s1 hm=>?_)
  refine bq fun bG=>?_
  obtain ⟨x,H1,I1,r1,q1⟩:=hm
  refine bG (wpAny_Slice (thn (hl pins s1 σ H1 _ I1 q1) fun vl s2 ⟨l,H2,I2,pl,q2⟩=>thn (hu pins s2 σ H2 _ I2 q2) fun vu s3 hm=>?_))
  obtain ⟨u,H3,I3,pu,q3⟩:=hm
  rw [evalPart_none]
  refine wpAny_pure ?_
  have I4:Inv X pins σ H3 { s3 with heap:=s3.heap.push { cls:=.type "slice",data:=.fields #[vl,vu,.none] } }:=I3.kept (t':=s3.toks) fun b ob q=>Heap.get?_push_of_some _ q
  obtain ⟨T,id,hT,ht,hg⟩:=hr pins { s3 with heap:=s3.heap.push { cls:=.type "slice",data:=.fields #[vl,vu,.none] } } σ H3 x v vl vu l u s3.heap.objs.size Q I4 r1 (Heap.IsSliceOf.new ..) pl pu q3
  show wpAny (model X.prog X.w) X.A (subscriptTail e (.Slice lo hi none p2) v (.ref s3.heap.objs.size)) (EP X pins σ Q) X.xe { s3 with heap:=s3.heap.push { cls:=.type "slice",data:=.fields #[vl,vu,.none] } }
  exact tail_any (ops:=[.ref s3.heap.objs.size,v]) ht hT hg (by with_unfolding_all rfl)
noncomputable def zix (xs:List V) (lo hi:Option Int):List V:=(xs.drop (HT.sIx xs.length 0 lo)).take (HT.sIx xs.length xs.length hi - HT.sIx xs.length 0 lo)
theorem z8d (xs:List V) (lo hi:Option Int):(zix xs lo hi).length≤xs.length:=by
  unfold zix
  rw [List.length_take,List.length_drop]
  omega
def zuq (K:PySem.W.Frag):V→Option Int→Option Int→Hp→VK→Prop:=fun x lo hi H Q=>∃ a xs,x=.ref a∧SqT K H a xs ∧
  ¬ (HT.sIx xs.length 0 lo=0∧HT.sIx xs.length xs.length hi=xs.length)∧∀ p,H p=none→Q (.ref p) (upd H p (.tup (zix xs lo hi)))
theorem zpd:SlR X (zuq X.K):=by
  intro pins s σ H x v vl vu lo hi sl Q I rx hs pl pu h
  refine bq fun bG=>?_
  obtain ⟨a,xs,rfl,hx,hw,q⟩:=h
  cases rx
  obtain ⟨its,r,ht,hz⟩:=I.tuple hx
  have hlen:its.toArray.size=xs.length:=by rw [List.size_toArray];exact r.length.symm
  refine bG (⟨"tuple",_,PyProof.Rows.slot_tuple_getitem.lookup,ht.typeIs,?_⟩)
  refine HT.getItem_tuple_cut ht hs pl pu (by rw [hlen];exact hw) ?_ (by rw [hlen];exact hz)
  rw [hlen]
  refine ⟨.ref s.heap.objs.size,_,I.laid (t':=s.toks) (o:=.tup (zix xs lo hi)) (fun b ob q=>Heap.get?_push_of_some _ q) (Nat.le_refl _) ?_,rfl,q _ (I.hok.fresh (Nat.le_refl _))⟩
  exact ⟨Nat.le_trans (z8d xs lo hi) hz,_,(r.drop (HT.sIx xs.length 0 lo)).take (HT.sIx xs.length xs.length hi - HT.sIx xs.length 0 lo),IsTup.new _ _⟩
noncomputable def zpq (K:PySem.W.Frag):R2:=fun x y H Q=>∃ a b xs ys,x=.ref a∧y=.ref b∧SqT K H a xs∧SqT K H b ys∧xs≠[]∧xs.length+ys.length≤sizeLine ∧
  (ys=[]→Q (.ref a) H)∧(ys≠[]→∀ p,H p=none→Q (.ref p) (upd H p (.tup (xs++ys))))
theorem Vals.nil_iff {xs:List V} {us:List Value} (r:Vals xs us):us=[]↔xs=[]:=by
  cases r with
  | nil=>simp
  | cons _ _=>simp
theorem znm:OpR X (binaryOp .Add) (zpq X.K):=by
  intro pins s σ H x y v u Q I rx ry h
  obtain ⟨a,b,xs,ys,rfl,rfl,ha,hb,hx,hz,q1,q2⟩:=h
  cases rx
  cases ry
  obtain ⟨its,r1,p1,_⟩:=I.tuple ha
  obtain ⟨its2,r2,p2,_⟩:=I.tuple hb
  refine HT.cat_tup p1 p2 (fun z=>hx (r1.nil_iff.mp z)) (fun z=>⟨.ref a,H,I,rfl,q1 (r2.nil_iff.mp z)⟩) (fun z=>?_) (by rw [← r1.length,← r2.length];exact hz)
  refine ⟨.ref s.heap.objs.size,_,I.laid (t':=s.toks) (o:=.tup (xs++ys)) (fun b ob q=>Heap.get?_push_of_some _ q) (Nat.le_refl _) ?_,rfl,q2 (fun w=>z (r2.nil_iff.mpr w)) _ (I.hok.fresh (Nat.le_refl _))⟩
  exact ⟨by rw [List.length_append];exact hz,_,r1.append r2,IsTup.new _ _⟩
end
noncomputable def ixN (n:Nat) (i:Int):Option Nat:=if 0≤i then (if i<n then some i.toNat else none) else if -(n:Int)≤i then some (i+n).toNat else none
noncomputable def atI {α:Type} (xs:List α) (i:Int):Option α:=(ixN xs.length i).bind fun j=>xs[j]?
theorem zhp {n:Nat} {i:Int} {j:Nat} (h:ixN n i=some j):seqIndex? i n=some j∧j<n∧-(n:Int)≤i∧i<n:=by
  unfold ixN at h
  by_cases h0:0≤i
  · rw [if_pos h0] at h
    by_cases h1:i<n
    · rw [if_pos h1] at h
      have e:i.toNat=j:=Option.some.inj h
      exact ⟨by rw [seqIndex_of h0 h1,e],by omega,by omega,h1⟩
    · rw [if_neg h1] at h;cases h
  · rw [if_neg h0] at h
    by_cases h1:-(n:Int)≤i
    · rw [if_pos h1] at h
      have e:(i+n).toNat=j:=Option.some.inj h
      exact ⟨by rw [seqIndex_neg (by omega) h1,e],by omega,h1,by omega⟩
    · rw [if_neg h1] at h;cases h
theorem zdh {α:Type} {xs:List α} {i:Int} {v:α} (h:atI xs i=some v):∃ j,seqIndex? i xs.length=some j∧xs[j]?=some v∧j<xs.length∧-(xs.length:Int)≤i∧i<xs.length:=by
  unfold atI at h
  cases e:ixN xs.length i with
  | none=>rw [e] at h;cases h
  | some j =>
    rw [e] at h
    refine bq fun bG=>?_
    obtain ⟨h1,h2,h3,h4⟩:=zhp e
    exact bG (⟨j,h1,h,h2,h3,h4⟩)
theorem zoa {α:Type} {xs:List α} {j:Nat} {v:α} (h:xs[j]?=some v):atI xs (j:Int)=some v:=by
  have hj:j<xs.length:=(List.getElem?_eq_some_iff.mp h).1
  have e:ixN xs.length (j:Int)=some j:=by
    unfold ixN
    rw [if_pos (by omega),if_pos (by omega)];simp
  unfold atI;rw [e];exact h
def zim (b:Expr):Prop:=∀ o i,subscripted b false o i=operate [o,i] (getItem o i)
noncomputable def IxR (X:Cx) (r:R2):Prop :=
  ∀ (value slice:Expr) (pins:List (Addr×Obj)) (s:Shared) (σ:St) (H:Hp) (x y:V) (v u:Value) (Q:VK),Inv X pins σ H s→RelV x v→RelV y u→r x y H Q →
    subscripted slice false v u=operate [v,u] (getItem v u)→wpAny (model X.prog X.w) X.A (subscriptTail value slice v u) (EP X pins σ Q) X.xe s
noncomputable def MtR (X:Cx) (id:String) (r:V→List V→Hp→VK→Prop):Prop :=
  ∀ (pins:List (Addr×Obj)) (s:Shared) (σ:St) (H:Hp) (x:V) (xs:List V) (v:Value) (us:List Value) (Q:VK),Inv X pins σ H s→RelV x v→Vals xs us→r x xs H Q →
    wpAny (model X.prog X.w) X.A (call (.builtin id) (v::us)) (EP X pins σ Q) X.xe s
section
variable {X:Cx} {a b:Expr} {ta tb:TE} {pos:Pos}
theorem IxR.or {r r':R2} (h:IxR X r) (h':IxR X r'):IxR X (fun x y H Q=>r x y H Q∨r' x y H Q):=by
  intro value slice pins s σ H x y v u Q I rx ry q hs
  rcases q with q | q
  · exact h value slice pins s σ H x y v u Q I rx ry q hs
  · exact h' value slice pins s σ H x y v u Q I rx ry q hs
theorem zsv {r:R2} (hr:IxR X r) (ha:PE X a ta) (hb:PE X b tb) (hs:zim b):PE X (.Subscript a b pos) (tOp r ta tb):=by
  intro pins s σ H Q I h
  exact Subscript_ (zto ha hb I h fun v u s2 x y H2 I2 rx ry q=>hr a b pins s2 σ H2 x y v u Q I2 rx ry q (hs _ _))
noncomputable def zu0 (K:PySem.W.Frag):R2:=fun x y H Q=>∃ p xs i v,x=.ref p∧y=.int i∧SqL K H p xs∧atI xs i=some v∧Q v H
noncomputable def zty (K:PySem.W.Frag):R2:=fun x y H Q=>∃ p xs i v,x=.ref p∧y=.int i∧SqT K H p xs∧atI xs i=some v∧Q v H
noncomputable def ztz:R2:=fun x y H Q=>∃ z i c,x=.str z∧y=.int i∧z.length≤sizeLine∧atI z.cps.toList i=some c∧Q (.str ⟨#[c]⟩) H
theorem ix_list:IxR X (zu0 X.K):=by
  intro value slice pins s σ H x y v u Q I rx ry h hs
  obtain ⟨p,xs,i,z,rfl,rfl,hq,he,q⟩:=h
  cases rx
  obtain ⟨t,rfl⟩:=ry
  obtain ⟨its,r,pl,hz⟩:=I.list hq
  obtain ⟨j,h1,h2,h3,h4,h5⟩:=zdh he
  obtain ⟨w,ew,rw'⟩:=r.get h2
  have hl:=r.length
  have hn:=za5
  have fin:EP X pins σ Q w s:=⟨z,H,I,rw',q⟩
  by_cases h0:0≤i
  · have hj:i.toNat=j:=by
      rw [seqIndex_of h0 h5] at h1
      exact Option.some.inj h1
    exact item_listR pl.isList h0 (by omega) (by rw [hj];simpa using ew) fin hs
  · have hj:(i+(its.toArray.size:Int)).toNat=j:=by
      rw [seqIndex_neg (by omega) h4] at h1
      rw [List.size_toArray,← hl]
      exact Option.some.inj h1
    exact subscriptTail_builtinR (x:=w) pl.isList.typeIs slot_list_getitem.lookup
      (wpAny_getItem_list_neg (Q:=fun r s'=>r=w∧EP X pins σ Q r s') pl.isList (by omega) (by rw [List.size_toArray] <;> omega) (by omega) (by rw [hj];simpa using ew) ⟨rfl,fin⟩) hs
theorem ix_tup:IxR X (zty X.K):=by
  intro value slice pins s σ H x y v u Q I rx ry h hs
  obtain ⟨p,xs,i,z,rfl,rfl,hq,he,q⟩:=h
  cases rx
  obtain ⟨t,rfl⟩:=ry
  obtain ⟨its,r,pl,hz⟩:=I.tuple hq
  obtain ⟨j,h1,h2,h3,h4,h5⟩:=zdh he
  obtain ⟨w,ew,rw'⟩:=r.get h2
  have hl:=r.length
  have hn:=za5
  have fin:EP X pins σ Q w s:=⟨z,H,I,rw',q⟩
  exact subscriptTail_builtinR (x:=w) pl.typeIs slot_tuple_getitem.lookup
    (getItem_tuple (j:=j) (Q:=fun r s'=>r=w∧EP X pins σ Q r s') pl (by omega) (by omega) (by rw [List.size_toArray,← hl];exact h1) (by simpa using ew) ⟨rfl,fin⟩) hs
theorem zr2:IxR X ztz:=by
  intro value slice pins s σ H x y v u Q I rx ry h hs
  obtain ⟨z,i,c,rfl,rfl,hz,he,q⟩:=h
  obtain ⟨t,rfl⟩:=rx
  obtain ⟨t',rfl⟩:=ry
  obtain ⟨j,h1,h2,h3,h4,h5⟩:=zdh he
  have hl:z.cps.toList.length=z.length:=by simp [Str.length]
  rw [hl] at h1 h4 h5
  have hn:=za5
  exact tail_any (typeIs_str s z t) slot_str_getitem.lookup (getItem_str (c:=c) (by
    have e1:decide (i < -(2 ^ 63:Int))=false:=decide_eq_false (by omega)
    have e2:decide (i≥2 ^ 63)=false:=decide_eq_false (by omega)
    rw [e1,e2,Bool.or_false]) (by rw [h1];simpa using h2) ⟨.str ⟨#[c]⟩,H,I.tok _,⟨_,rfl⟩,q⟩) hs
noncomputable def rIx (K:PySem.W.Frag):R2:=fun x y H Q=>zu0 K x y H Q∨zty K x y H Q∨ztz x y H Q
theorem zr3:IxR X (rIx X.K):=ix_list.or (ix_tup.or zr2)
theorem zf9 (its:List Value) (n j:Nat) (u:Value):Obj.mapSeq (·.setIfInBounds j u) { cls:=.type "list",data:=.seq its.toArray n }={ cls:=.type "list",data:=.seq (its.set j u).toArray n }:=by
  simp [Obj.mapSeq]
theorem Inv.lst {pins:List (Addr×Obj)} {σ:St} {H:Hp} {s:Shared} {p:Addr} {xs:List V} (I:Inv X pins σ H s) (h:H p=some (.lst xs)) :
    ∃ (its:List Value) (n:Nat),Vals xs its∧s.heap.get? p=some { cls:=.type "list",data:=.seq its.toArray n }∧xs.length≤sizeLine:=by
  refine bq fun bG=>?_
  obtain ⟨z,its,n,r,e⟩:=I.hok p _ h
  exact bG (⟨its,n,r,e,z⟩)
theorem Inv.lstUpd {pins:List (Addr×Obj)} {σ:St} {H:Hp} {s:Shared} {p:Addr} {xs ys:List V} {its its':List Value} {n n':Nat} {f:Obj→Obj} (I:Inv X pins σ H s) (h:H p=some (.lst xs))
    (ho:s.heap.get? p=some { cls:=.type "list",data:=.seq its.toArray n }) (hf:f { cls:=.type "list",data:=.seq its.toArray n }={ cls:=.type "list",data:=.seq its'.toArray n' }) (r:Vals ys its') (hz:ys.length≤sizeLine) (t:Nat) :
    Inv X pins σ (upd H p (.lst ys)) { s with heap:=s.heap.update p f,toks:=t }:=by
  have e:(s.heap.update p f).get? p=some { cls:=.type "list",data:=.seq its'.toArray n' }:=by
    rw [Heap.get?_update_self f ho (by rw [hf] <;> rfl),hf]
  refine I.write (x:=p) (e:=p) (by rw [h];trivial) (.inl rfl) (fun b u hb q=>(Heap.get?_update_other _ _ (Ne.symm hb)).trans q) ⟨_,e⟩ ?_
  exact ⟨hz,its',n',r,e⟩
def zsn:V→V→V→Hp→(Hp→Prop)→Prop:=fun o i v H Q=>∃ p xs k j,o=.ref p∧i=.int k∧H p=some (.lst xs)∧ixN xs.length k=some j∧Q (upd H p (.lst (xs.set j v)))
theorem zjo:zue X zsn:=by
  intro pins s σ H o i v ov iv u Q I ro ri rv h
  obtain ⟨p,xs,k,j,rfl,rfl,hp,hj,q⟩:=h
  cases ro
  obtain ⟨t,rfl⟩:=ri
  obtain ⟨its,n,r,ho,hz⟩:=I.lst hp
  obtain ⟨h1,h2,h3,h4⟩:=zhp hj
  have hl:=r.length
  have hn:=za5
  have I':Inv X pins σ (upd H p (.lst (xs.set j v))) { s with heap:=s.heap.update p (Obj.mapSeq (·.setIfInBounds j u)) } :=
    I.lstUpd hp ho (zf9 its n j u) (r.set rv j) (by rw [List.length_set];exact hz) s.toks
  by_cases h0:0≤k
  · have hk:k.toNat=j:=by
      rw [seqIndex_of h0 h4] at h1
      exact Option.some.inj h1
    exact PySem.W.ki_setAt ho h0 (by omega) (by rw [List.size_toArray,← hl];exact h4) (by rw [hk];exact ⟨_,I',q⟩)
  · have hk:(k+(its.toArray.size:Int)).toNat=j:=by
      rw [seqIndex_neg (by omega) h3] at h1
      rw [List.size_toArray,← hl]
      exact Option.some.inj h1
    exact PySem.W.ki_setBack ho (by omega) (by rw [List.size_toArray,← hl];exact h3) (by omega) (by rw [hk];exact ⟨_,I',q⟩)
theorem zbe (lo hi:Option Int) (n:Nat):(sliceBounds lo hi none n).1=((HT.sIx n 0 lo:Nat):Int)∧(sliceBounds lo hi none n).2.1=((HT.sIx n n hi:Nat):Int)∧(sliceBounds lo hi none n).2.2=1:=by
  refine ⟨?_,?_,rfl⟩
  · cases lo with
    | none=>simp [sliceBounds,HT.sIx]
    | some i =>
      simp only [sliceBounds,HT.sIx,Option.getD_none,show (1:Int) > 0 by decide,if_true]
      by_cases h:i<0
      · simp only [h,if_true] <;> omega
      · simp only [h,if_false] <;> omega
  · cases hi with
    | none=>simp [sliceBounds,HT.sIx]
    | some i =>
      simp only [sliceBounds,HT.sIx,Option.getD_none,show (1:Int) > 0 by decide,if_true]
      by_cases h:i<0
      · simp only [h,if_true] <;> omega
      · simp only [h,if_false] <;> omega
theorem zaf (its:List Value) (lo hi:Option Int):slicePick its.toArray lo hi none=((its.drop (HT.sIx its.length 0 lo)).take (HT.sIx its.length its.length hi - HT.sIx its.length 0 lo)).toArray:=by
  obtain ⟨h1,h2,h3⟩:=zbe lo hi its.toArray.size
  unfold slicePick
  rw [h1,h2,h3]
  simp only [sliceRange_one,pick_run,List.size_toArray] <;> rfl
def zur (K:PySem.W.Frag):V→Option Int→Option Int→Hp→VK→Prop:=fun x lo hi H Q=>∃ a xs,x=.ref a∧SqL K H a xs∧∀ p,H p=none→Q (.ref p) (upd H p (.lst (zix xs lo hi)))
theorem sl_list:SlR X (zur X.K):=by
  intro pins s σ H x v vl vu lo hi sl Q I rx hs pl pu h
  refine bq fun bG=>?_
  obtain ⟨a,xs,rfl,hx,q⟩:=h
  cases rx
  obtain ⟨its,r,ht,hz⟩:=I.list hx
  have hlen:=r.length
  refine bG (⟨"list",_,slot_list_getitem.lookup,ht.isList.typeIs,?_⟩)
  refine wpAny_getItem_list_slice ht.isList hs pl pu .none (by simp) ?_ (by rw [List.size_toArray] <;> omega)
  rw [zaf,← hlen]
  refine ⟨.ref s.heap.objs.size,_,I.laid (t':=s.toks) (o:=.lst (zix xs lo hi)) (fun b ob q=>Heap.get?_push_of_some _ q) (Nat.le_refl _) ?_,rfl,q _ (I.hok.fresh (Nat.le_refl _))⟩
  exact ⟨Nat.le_trans (z8d xs lo hi) hz,_,0,(r.drop (HT.sIx xs.length 0 lo)).take (HT.sIx xs.length xs.length hi - HT.sIx xs.length 0 lo),Heap.get?_push_size _ rfl⟩
noncomputable def z92:V→Bool
  | .non=>true
  | .bl _=>true
  | .int _=>true
  | .str _=>true
  | _=>false
noncomputable def eqV:V→V→Bool
  | .non,.non=>true
  | .bl a,.bl b=>a==b
  | .bl a,.int b=>(if a then 1 else 0)==b
  | .int a,.bl b=>a==(if b then 1 else 0)
  | .int a,.int b=>a==b
  | .str a,.str b=>a==b
  | _,_=>false
theorem zrf {A:Around} {s:Shared} {y x:V} {u v:Value} (ry:RelV y u) (rx:RelV x v) (fy:z92 y=true) (fx:z92 x=true):SeqAt.EqAt A s u v (eqV y x):=by
  cases y with
  | non =>
    cases ry
    cases x with
    | non=>cases rx;exact SeqAt.EqAt.same _
    | bl b=>cases rx;exact SeqAt.EqAt.none_bool b
    | int b=>obtain ⟨t,rfl⟩:=rx;exact SeqAt.EqAt.none_int b t
    | str b=>obtain ⟨t,rfl⟩:=rx;exact SeqAt.EqAt.none_str b t
    | _=>exact absurd (show false=true from fx) Bool.false_ne_true
  | bl a =>
    cases ry
    cases x with
    | non=>cases rx;exact SeqAt.EqAt.bool_none a
    | bl b=>cases rx;exact SeqAt.EqAt.bool_bool a b
    | int b=>obtain ⟨t,rfl⟩:=rx;exact SeqAt.EqAt.bool_int a b t
    | str b=>obtain ⟨t,rfl⟩:=rx;exact SeqAt.EqAt.bool_str a b t
    | _=>exact absurd (show false=true from fx) Bool.false_ne_true
  | int a =>
    obtain ⟨t',rfl⟩:=ry
    cases x with
    | non=>cases rx;exact SeqAt.EqAt.int_none a t'
    | bl b=>cases rx;exact SeqAt.EqAt.int_bool a t' b
    | int b=>obtain ⟨t,rfl⟩:=rx;exact SeqAt.EqAt.int_int a t' b t
    | str b=>obtain ⟨t,rfl⟩:=rx;exact SeqAt.EqAt.int_str a t' b t
    | _=>exact absurd (show false=true from fx) Bool.false_ne_true
  | str a =>
    obtain ⟨t',rfl⟩:=ry
    cases x with
    | non=>cases rx;exact SeqAt.EqAt.str_none a t'
    | bl b=>cases rx;exact SeqAt.EqAt.str_bool a t' b
    | int b=>obtain ⟨t,rfl⟩:=rx;exact SeqAt.EqAt.str_int a t' b t
    | str b=>obtain ⟨t,rfl⟩:=rx;exact SeqAt.EqAt.str_str a t' b t
    | _=>exact absurd (show false=true from fx) Bool.false_ne_true
  | _=>exact absurd (show false=true from fy) Bool.false_ne_true
noncomputable def eqU (x:V) (u:Value):Bool:=match u with
  | .none=>eqV .non x
  | .bool b=>eqV (.bl b) x
  | .int i _=>eqV (.int i) x
  | .str z _=>eqV (.str z) x
  | _=>false
theorem zlw {x y:V} {u:Value} (r:RelV y u) (f:z92 y=true):eqU x u=eqV y x:=by
  cases y with
  | non=>cases r;rfl
  | bl b=>cases r;rfl
  | int i=>obtain ⟨t,rfl⟩:=r;rfl
  | str z=>obtain ⟨t,rfl⟩:=r;rfl
  | _=>exact absurd (show false=true from f) Bool.false_ne_true
theorem z8g {x:V}:∀ {xs:List V} {us:List Value},Vals xs us→xs.all z92=true→us.any (eqU x)=xs.any fun y=>eqV y x
  | _,_,.nil,_=>rfl
  | y::xs,u::us,.cons r t,f=>by
    rw [List.all_cons,Bool.and_eq_true] at f
    rw [List.any_cons,List.any_cons,zlw r f.1,z8g t f.2]
theorem z6h {A:Around} {s:Shared} {x:V} {v:Value} (rx:RelV x v) (fx:z92 x=true):∀ {xs:List V} {us:List Value},Vals xs us→xs.all z92=true→∀ u∈us,SeqAt.EqAt A s u v (eqU x u)
  | _,_,.nil,_=>fun u hu=>by cases hu
  | y::xs,u::us,.cons r t,f=>fun u' hu=>by
    rw [List.all_cons,Bool.and_eq_true] at f
    rcases List.mem_cons.mp hu with rfl | hu
    · rw [zlw r f.1];exact zrf r rx f.1 fx
    · exact z6h rx fx t f.2 u' hu
noncomputable def inV (x:V) (xs:List V):Bool:=xs.any fun y=>eqV y x
noncomputable def rIn (K:PySem.W.Frag) (neg:Bool):R2:=fun x y H Q=>∃ p xs,y=.ref p∧(SqL K H p xs∨SqT K H p xs)∧z92 x=true∧xs.all z92=true∧Q (.bl (if neg then !inV x xs else inV x xs)) H
theorem zbl:OpR X (compareOp .In) (rIn X.K false):=by
  intro pins s σ H x y v u Q I rx ry h
  obtain ⟨p,xs,rfl,hq,fx,fs,q⟩:=h
  cases ry
  rcases hq with hq | hq
  · obtain ⟨its,r,pl,hz⟩:=I.list hq
    refine SeqAt.in_listAt (eqU x) pl.isList (fun w hw=>z6h rx fx r fs w (by simpa using hw)) ⟨.bl _,H,I,rfl,?_⟩
    rw [show its.toArray.any (eqU x)=its.any (eqU x) by simp,z8g r fs]
    exact q
  · obtain ⟨its,r,pl,hz⟩:=I.tuple hq
    refine SeqAt.in_tupleAt (eqU x) pl (fun w hw=>z6h rx fx r fs w (by simpa using hw)) ⟨.bl _,H,I,rfl,?_⟩
    rw [show its.toArray.any (eqU x)=its.any (eqU x) by simp,z8g r fs]
    exact q
theorem z75:OpR X (compareOp .NotIn) (rIn X.K true):=by
  intro pins s σ H x y v u Q I rx ry h
  obtain ⟨p,xs,rfl,hq,fx,fs,q⟩:=h
  cases ry
  rcases hq with hq | hq
  · obtain ⟨its,r,pl,hz⟩:=I.list hq
    refine SeqAt.notIn_listAt (eqU x) pl.isList (fun w hw=>z6h rx fx r fs w (by simpa using hw)) ⟨.bl _,H,I,rfl,?_⟩
    rw [show its.toArray.any (eqU x)=its.any (eqU x) by simp,z8g r fs]
    exact q
  · obtain ⟨its,r,pl,hz⟩:=I.tuple hq
    refine SeqAt.notIn_tupleAt (eqU x) pl (fun w hw=>z6h rx fx r fs w (by simpa using hw)) ⟨.bl _,H,I,rfl,?_⟩
    rw [show its.toArray.any (eqU x)=its.any (eqU x) by simp,z8g r fs]
    exact q
theorem zc3:z72 X (.builtin "len") (fun xs H Q=>∃ p ys,xs=[.ref p]∧(SqL X.K H p ys∨SqT X.K H p ys)∧Q (.int ys.length) H):=by
  intro pins s σ H xs us Q I r h
  obtain ⟨p,ys,rfl,hq,q⟩:=h
  obtain ⟨u,rfl,rx⟩:=zcn r
  cases rx
  have hn:=za5
  rcases hq with hq | hq
  · obtain ⟨its,r',pl,hz⟩:=I.list hq
    have hlen:=r'.length
    exact Calls.call_len_list pl.isList (by simp only [List.size_toArray] <;> omega) ⟨.int ys.length,H,I.tok _,⟨s.toks+1,by rw [List.size_toArray,hlen]⟩,q⟩
  · obtain ⟨its,r',pl,hz⟩:=I.tuple hq
    have hlen:=r'.length
    exact len_tuple pl (by simp only [List.size_toArray] <;> omega) ⟨.int ys.length,H,I.tok _,⟨s.toks+1,by rw [List.size_toArray,hlen]⟩,q⟩
theorem zc2:z72 X (.type "list") (fun xs H Q=>∃ p ys,xs=[.ref p]∧(SqL X.K H p ys∨SqT X.K H p ys)∧∀ l,H l=none→Q (.ref l) (upd H l (.lst ys))):=by
  intro pins s σ H xs us Q I r h
  obtain ⟨p,ys,rfl,hq,q⟩:=h
  obtain ⟨u,rfl,rx⟩:=zcn r
  cases rx
  have fin:∀ (its:List Value),Vals ys its→ys.length≤sizeLine→∀ (h':Heap) (c':Nat),(∀ b o',s.heap.get? b=some o'→h'.get? b=some o') →
      h'.get? s.heap.objs.size=some { cls:=.type "list",dict:=none,data:=.seq its.toArray c',slots:=#[] }→EP X pins σ Q (.ref s.heap.objs.size) { s with heap:=h' }:=fun its r' hz h' c' kp e =>
    ⟨.ref s.heap.objs.size,_,I.laid (t':=s.toks) kp (Nat.le_refl _) (show ObjOk X.prog X.w _ h' _ (.lst ys) from ⟨hz,its,c',r',e⟩),rfl,q _ (I.hok.fresh (Nat.le_refl _))⟩
  rcases hq with hq | hq
  · obtain ⟨its,r',pl,hz⟩:=I.list hq
    have hlen:=r'.length
    obtain ⟨o,ho,hc,n,hd⟩:=pl.isList
    exact call_list_seq p (.inl rfl) ho hc hd (fun h' c' kp e=>fin its r' hz h' c' kp e) (by simp only [List.size_toArray] <;> omega)
  · obtain ⟨its,r',pl,hz⟩:=I.tuple hq
    have hlen:=r'.length
    obtain ⟨o,ho,hc,n,hd⟩:=pl
    exact call_list_seq p (.inr rfl) ho hc hd (fun h' c' kp e=>fin its r' hz h' c' kp e) (by simp only [List.size_toArray] <;> omega)
def tyV (K:PySem.W.Frag) (T:String) (x:V) (H:Hp):Prop:=match x with
  | .str _=>T = "str"
  | .int _=>T = "int"
  | .ref p=>(T = "list" ∧ ∃ xs,SqL K H p xs)∨(T = "tuple" ∧ ∃ o,K.lookup p=some o∧o.cls=.type "tuple" ∧ o.dict=none) ∨
      (T = "dict" ∧ ((∃ kvs,H p=some (.dK kvs))∨∃ kvs,H p=some (.dT kvs)))∨(T = "set" ∧ ∃ S n,H p=some (.set S n))
  | _=>False
theorem zou {pins:List (Addr×Obj)} {σ:St} {H:Hp} {s:Shared} {T:String} {x:V} {v:Value} (I:Inv X pins σ H s) (r:RelV x v) (ty:tyV X.K T x H) :
    s.TypeIs v T∧∀ a,v=.ref a→∃ ob,s.heap.get? a=some ob∧ob.dict=none:=by
  cases x with
  | str z =>
    obtain ⟨t,rfl⟩:=r
    cases (show T = "str" from ty)
    exact ⟨typeIs_str s z t,fun _ e=>nomatch e⟩
  | int i =>
    obtain ⟨t,rfl⟩:=r
    cases (show T = "int" from ty)
    exact ⟨typeIs_int s i t,fun _ e=>nomatch e⟩
  | ref p =>
    cases r
    rcases ty with ⟨rfl,xs,hq⟩ | ⟨rfl,o,hk,hc,hd⟩ | ⟨rfl,hk⟩ | ⟨rfl,S,n,hk⟩
    · obtain ⟨its,_,pl,_⟩:=I.list hq
      refine ⟨pl.isList.typeIs,fun a e=>?_⟩
      cases e
      refine bq fun bG=>?_
      obtain ⟨o,n,e,c,hd,_⟩:=pl
      exact bG (⟨o,e,hd⟩)
    · refine ⟨⟨o,I.kIn p o hk,hc⟩,fun a e=>?_⟩
      cases e
      exact ⟨o,I.kIn _ o hk,hd⟩
    · have z:∃ o,s.heap.get? p=some o∧o.ExactDict:=by
        rcases hk with ⟨kvs,hk⟩ | ⟨kvs,hk⟩
        · obtain ⟨_,_,_,_,o,_,_,e,ex,_⟩:=I.hok p _ hk
          exact ⟨o,e,ex⟩
        · obtain ⟨_,_,_,_,o,_,_,e,ex,_⟩:=I.hok p _ hk
          exact ⟨o,e,ex⟩
      refine bq fun bG=>?_
      obtain ⟨o,e,ex⟩:=z
      refine bG (⟨⟨o,e,ex.1⟩,fun a e2=>?_⟩)
      cases e2
      exact ⟨o,e,ex.2.1⟩
    · obtain ⟨o,_,_,_,e,ex,_⟩:=I.hok p _ hk
      refine ⟨⟨o,e,ex.1⟩,fun a e2=>?_⟩
      cases e2
      exact ⟨o,e,ex.2.1⟩
  | _=>exact False.elim ty
def tBM (K:PySem.W.Frag) (T:String) (r:V→List V→Hp→VK→Prop) (to:TE) (t:TA):TE:=fun σ H Q=>to σ H fun x H1=>tyV K T x H1∧t σ H1 fun xs H2=>r x xs H2 Q
variable {o e:Expr} {es:List Expr} {to:TE} {t:TA} {name:Str} {apos cpos:Pos} {T id:String} {r:V→List V→Hp→VK→Prop}
theorem znf (pa:PlainAttrs T) (slot:Slot T name id) (hty:typeOf (.builtin id)=pure (.type "method_descriptor")) (hm:MtR X id r) (ho:PE X o to) (ha:PA X (e::es) t)
    (hbase:attributeBase o name X.env (eval o X.env)=eval o X.env:=by rfl)
    (hfew:((backTo cpos (starEach (e::es) X.env)).all (fun x=>!x.1)&&(backToKw cpos (keywordEach [] X.env)).all (fun x=>x.1.isSome)
      && decide ((e::es).length+([]:List Keyword).length+(if ([]:List Keyword).isEmpty then 0 else 1)<30))=true:=by rfl)
    (hline:(apos.endLine==cpos.line)=true:=by rfl) (hs:starEach (e::es) X.env=(false,eval e X.env)::starEach es X.env:=by rfl) (hplain:(backTo cpos (starEach es X.env)).any (·.1)=false:=by rfl) :
    PE X (.Call (.Attribute o name apos) (e::es) [] cpos) (tBM X.K T r to t):=by
  intro pins s σ H Q I h
  refine wpAny_Call_method_late hbase hfew hline rfl (thn (ho pins s σ H _ I h) fun v s1 hm=>?_)
  refine bq fun bG=>?_
  obtain ⟨x,H1,I1,r1,ty,q1⟩:=hm
  obtain ⟨h1,h2⟩:=zou I1 r1 ty
  refine bG (⟨T,id,pa,slot,hty,h1,h2,?_⟩)
  have hA:=ha cpos pins s1 σ H1 _ I1 q1
  rw [hs] at hA ⊢
  refine Calls.callWith_builtin (by show (false||(backTo cpos (starEach es X.env)).any (·.1))=false;rw [hplain] <;> rfl) (Calls.evalArgs_plain ?_)
  exact thn hA fun us s2 ⟨vs,H2,I2,r2,q2⟩=>hm pins s2 σ H2 x vs v us Q I2 r1 r2 q2
end
noncomputable def MtM (X:Cx) (id:String) (r:V→List V→Hp→VK→Prop):Prop :=
  ∀ (pins:List (Addr×Obj)) (s:Shared) (σ:St) (H:Hp) (x:V) (xs:List V) (v:Value) (us:List Value) (Q:VK),Inv X pins σ H s→RelV x v→Vals xs us→r x xs H Q →
    wpAny (model X.prog X.w) X.A (call (.builtin id) (v::us)) (EP X pins σ Q) X.xe s
theorem Vals.one {x:V} {us:List Value} (h:Vals [x] us):∃ u,us=[u]∧RelV x u:=by
  cases h with | cons r t=>cases t;exact ⟨_,rfl,r⟩
theorem Vals.rep {xs:List V} {us:List Value} (h:Vals xs us):∀ k:Nat,Vals (List.replicate k xs).flatten (List.replicate k us).flatten
  | 0=>.nil
  | k+1=>by
    rw [List.replicate_succ,List.replicate_succ,List.flatten_cons,List.flatten_cons]
    exact Vals.append h (Vals.rep h k)
theorem zbq (its:List Value):∀ (k:Nat) (acc:List Value),
    List.foldl (fun x1 x2=>x1++x2) acc.toArray (List.replicate k its.toArray)=(acc++(List.replicate k its).flatten).toArray
  | 0,acc=>by simp
  | k+1,acc=>by
    have e:acc.toArray++its.toArray=(acc++its).toArray:=by simp
    have e2:(acc++its)++(List.replicate k its).flatten=acc++(List.replicate (k+1) its).flatten:=by
      rw [List.replicate_succ,List.flatten_cons,List.append_assoc]
    rw [← e2,← zbq its k (acc++its),← e,List.replicate_succ,List.foldl_cons]
section
variable {X:Cx} {pins:List (Addr×Obj)} {σ:St} {H:Hp} {s:Shared} {l b:Addr} {xs ys zs:List V}
theorem Inv.lset {its its':List Value} {n:Nat} {f:Array Value→Array Value} {t':Nat} (I:Inv X pins σ H s) (hH:H l=some (.lst xs))
    (e:s.heap.get? l=some { cls:=.type "list",data:=.seq its.toArray n }) (hf:f its.toArray=its'.toArray) (hv:Vals ys its') (hz:ys.length≤sizeLine) :
    Inv X pins σ (upd H l (.lst ys)) { s with heap:=s.heap.update l (Obj.mapSeq f),toks:=t' }:=by
  have q:=PySem.IsL.update e f
  rw [hf] at q
  refine I.write (x:=l) (e:=l) (by rw [hH];exact trivial) (.inl rfl) (fun b' u hb hu=>(Heap.get?_update_other s.heap (Obj.mapSeq f) (Ne.symm hb)).trans hu) ⟨_,q⟩ ?_
  exact ⟨hz,its',_,hv,q⟩
theorem Inv.lnew {its:List Value} {t':Nat} (I:Inv X pins σ H s) (hv:Vals ys its) (hz:ys.length≤sizeLine) :
    Inv X pins σ (upd H s.heap.objs.size (.lst ys)) { s with heap:=s.heap.push { cls:=.type "list",data:=.seq its.toArray },toks:=t' } :=
  I.laid (fun _ _ q=>Heap.get?_push_of_some _ q) (Nat.le_refl _) ⟨hz,its,0,hv,Heap.get?_push_size _ rfl⟩
theorem Inv.fresh (I:Inv X pins σ H s):H s.heap.objs.size=none:=I.hok.fresh (Nat.le_refl _)
theorem Inv.lstM (I:Inv X pins σ H s) (hH:H l=some (.lst xs)):xs.length≤sizeLine∧∃ (its:List Value) (n:Nat),Vals xs its∧xs.length=its.length∧s.heap.get? l=some { cls:=.type "list",data:=.seq its.toArray n }:=by
  refine bq fun bG=>?_
  obtain ⟨z,its,n,r,e⟩:=I.hok l _ hH
  exact bG (⟨z,its,n,r,r.length,e⟩)
theorem zke {n:Nat} (h:n≤sizeLine):Builtin.List.listTooLong n=false:=by
  unfold Builtin.List.listTooLong
  exact decide_eq_false (by omega)
end
section
variable {X:Cx}
def zgu:V→List V→Hp→VK→Prop:=fun x vs H Q=>∃ l xs y,x=.ref l∧vs=[y]∧H l=some (.lst xs)∧xs.length<sizeLine∧Q .non (upd H l (.lst (xs++[y])))
theorem zbo:MtM X "list.append" zgu:=by
  intro pins s σ H x vs v us Q I rx rv h
  obtain ⟨l,xs,y,rfl,rfl,hH,hz,q⟩:=h
  cases rx
  obtain ⟨u,rfl,ru⟩:=rv.one
  obtain ⟨z,its,n,r,hl,e⟩:=I.lstM hH
  refine call_meets F.slot_list_append ⟨_,e,rfl⟩ F.entry_list_append (F.args_list_append_2 _ _) (PySem.list_append l its.toArray n u (by rw [List.size_toArray];omega)) ⟨e,?_⟩
  refine ⟨.non,_,I.lset (its':=its++[u]) hH e (by simp) (r.append (.cons ru .nil)) ?_,rfl,q⟩
  rw [List.length_append,List.length_singleton]
  omega
noncomputable def zu1:R2:=fun x y H Q=>∃ l b xs zs,x=.ref l∧y=.ref b∧H l=some (.lst xs)∧H b=some (.lst zs)∧xs.length+zs.length≤sizeLine∧∀ p,H p=none→Q (.ref p) (upd H p (.lst (xs++zs)))
theorem op_cat:OpR X (binaryOp .Add) zu1:=by
  intro pins s σ H x y v u Q I rx ry h
  obtain ⟨l,b,xs,zs,rfl,rfl,hH,hB,hz,q⟩:=h
  cases rx
  cases ry
  obtain ⟨z,its,n,r,hl,e⟩:=I.lstM hH
  obtain ⟨z2,its2,n2,r2,hl2,e2⟩:=I.lstM hB
  refine PySem.P.add_list e e2 ?_ (by rw [List.size_toArray,List.size_toArray];omega)
  have ea:its.toArray++its2.toArray=(its++its2).toArray:=by simp
  rw [ea]
  exact ⟨.ref _,_,I.lnew (t':=s.toks) (r.append r2) (by rw [List.length_append];omega),rfl,q _ I.fresh⟩
noncomputable def ztx:R2:=fun x y H Q=>∃ l k xs,x=.ref l∧y=.int k∧H l=some (.lst xs)∧-(2 ^ 63)≤k∧k<2 ^ 63∧xs.length*k.toNat≤sizeLine ∧
  ∀ p,H p=none→Q (.ref p) (upd H p (.lst (List.replicate k.toNat xs).flatten))
theorem znr {α:Type} (xs:List α) (k:Nat):(List.replicate k xs).flatten.length=k*xs.length:=by
  induction k with
  | zero=>simp
  | succ k ih=>rw [List.replicate_succ,List.flatten_cons,List.length_append,ih,Nat.succ_mul,Nat.add_comm]
theorem zqg:OpR X (binaryOp .Mult) ztx:=by
  intro pins s σ H x y v u Q I rx ry h
  obtain ⟨l,k,xs,rfl,rfl,hH,h1,h2,hz,q⟩:=h
  cases rx
  obtain ⟨t,rfl⟩:=ry
  obtain ⟨z,its,n,r,hl,e⟩:=I.lstM hH
  have hlen:its.toArray.size*k.toNat≤sizeLine:=by rw [List.size_toArray,← hl];exact hz
  have hcap:¬ its.toArray.size*k.toNat > (2 ^ 63 - 1) / 8:=by
    have:(sizeLine:Nat)≤(2 ^ 63 - 1) / 8:=by decide
    omega
  have hfit:¬ (!Builtin.List.listFitsIndex k)=true:=by
    rw [fitsIndex_both h1 h2]
    exact Bool.false_ne_true
  have hlong:¬ Builtin.List.listTooLong (its.toArray.size*k.toNat)=true:=by
    rw [zke hlen]
    exact Bool.false_ne_true
  have hnew:List.foldl (fun x1 x2=>x1++x2) #[] (List.replicate (if its.toArray.isEmpty=true then 0 else k.toNat) its.toArray)=(List.replicate k.toNat its).flatten.toArray:=by
    have f0:∀ m:Nat,List.foldl (fun x1 x2=>x1++x2) #[] (List.replicate m its.toArray)=(List.replicate m its).flatten.toArray:=fun m=>by
      have:=zbq its m []
      rw [List.nil_append] at this
      exact this
    rw [f0]
    cases its with
    | nil=>simp
    | cons a r'=>rw [if_neg (by simp)]
  refine wpAny_binaryOp_repeat_ref (T := "list") (U := "int") (by decide) ⟨_,e,rfl⟩ (fun s'=>typeIs_int s' k t) noFill_list_mul F.fills_int_mul F.slot_int_rmul repeat_list F.slot_int_index.lookup
    (call_meets F.slot_int_rmul (typeIs_int s k t) F.entry_int_rmul (F.args_int_rmul_2 _ _) (int___rmul___int_list k t l its.toArray n)
      ⟨e,rfl,⟨_,e,rfl⟩,call_meets F.slot_list_mul ⟨_,e,rfl⟩ F.entry_list_mul (F.args_list_mul_2 _ _) (AutoListH.list___mul___list_int_3 l its.toArray n k t hfit hcap hlong) ⟨e,?_⟩⟩)
  rw [hnew]
  exact ⟨.ref _,_,I.lnew (t':=s.toks) (r.rep k.toNat) (by rw [znr,Nat.mul_comm];exact hz),rfl,q _ I.fresh⟩
end
section
variable {prog:Program} {w:World} {A:Around} {E:Value→Shared→Prop} {s:Shared}
end
section
variable {X:Cx}
end
section
variable {κ:Type} [DecidableEq κ]
end
section
variable {P:Program} {w:World} {H:Hp} {h:Heap} {a:Addr}
end
section
variable {X:Cx} {pins:List (Addr×Obj)} {σ:St} {H:Hp} {s:Shared} {a:Addr} {y v:V} {u r:Value} {o:Option V} {A:Around} {E:Value→Shared→Prop}
end
section
variable {X:Cx} {pins:List (Addr×Obj)} {σ:St} {H:Hp} {s:Shared} {a:Addr} {kvs:List (Key×V)} {k:Key} {u:Value} {A:Around} {E:Value→Shared→Prop}
end
section
variable {X:Cx} {o i e value:Expr} {pos pos' tpos:Pos} {td ty tv:TE}
end
section
variable {X:Cx} {pos:Pos}
end
section
variable {X:Cx} {pins:List (Addr×Obj)} {σ:St} {H:Hp} {s:Shared} {a:Addr} {y d:V} {u r:Value} {o:Option V} {A:Around} {E:Value→Shared→Prop}
end
section
variable {X:Cx} {o e f:Expr} {apos cpos:Pos} {td ty tx:TE}
end
section
variable {X:Cx} {pins:List (Addr×Obj)} {σ:St} {H:Hp} {s:Shared} {a:Addr} {kvs:List (Key×V)} {A:Around} {E:Value→Shared→Prop}
end
section
variable {X:Cx} {pins:List (Addr×Obj)} {σ:St} {H:Hp} {s:Shared} {a:Addr} {y:V} {u:Value} {A:Around} {E:Value→Shared→Prop}
end
end L2
namespace Att
open PySem PySem.W PySem.Calls PyProof.Rows
theorem z89 {P:Params} {h:Heap}:∀ (ns:List Int) (vs:List Value),WellAll P h vs (ns.map WData.int)→IntsAre vs ns:=by
  intro ns
  induction ns with
  | nil =>
    intro vs w
    rw [List.map_nil] at w
    cases w
    exact .nil
  | cons n ns ih =>
    intro vs w
    rw [List.map_cons] at w
    cases w with
    | cons a b =>
      cases a
      exact .cons _ _ (ih _ b)
theorem zgg {l:OpenLaw} {n:Nat} (hn:l.most=some n) {P:Params} {h:Heap} {args:List WData} {vals:List Value}
    (hpre:l.row.toRowW.claim.pre args=true) (hwl:WellAll P h vals args) :
    ∃ a vs ns,vals=[Value.ref a]∧args=[WData.list (ns.map WData.int)]∧h.get? a=some { cls:=.type "list",data:=.seq vs.toArray }∧IntsAre vs ns∧ns.length≤n:=by
  have hsh:WShape.hasAll [] args [.list .int]=true:=(pre_splitW hpre).1
  have hc:l.pre.holds [] { args:=args }=true:=(pre_splitW hpre).2
  obtain ⟨d,r,rfl,h1,h2⟩:=hasAllW_cons hsh
  obtain rfl:=hasAllW_nil h2
  obtain ⟨xs,rfl,h3⟩:=hasW_list h1
  obtain ⟨ns,rfl⟩:=items_int h3
  have hlen:ns.length≤n:=by
    unfold OpenLaw.pre at hc
    have h4:(WTm.not (.lt (.lit (.int (n:Int))) (.len (.arg 0)))).holds [] { args:=[.list (ns.map .int)] }=true:=by
      have h4:=(holds_andW hc).1
      rw [hn] at h4
      exact h4
    have h5:=condW_of h4 (w_not (w_lt w_lit (w_len_list (w_arg rfl))))
    rw [List.length_map] at h5
    refine Nat.le_of_not_lt fun q=>?_
    have q':(n:Int)<((ns.length:Nat):Int):=by omega
    first
      | (rw [decide_eq_true q'] at h5;exact absurd h5 (by decide))
      | (simp at h5;omega)
  cases hwl with
  | cons w1 w2 =>
    cases w2
    cases w1 with
    | list ho hall=>exact ⟨_,_,ns,rfl,rfl,ho,z89 ns _ hall,hlen⟩
theorem zh2 (l:OpenLaw) (args:List WData):l.row.toRowW.claim.post args (.bool true) args=true :=
  postW_of (r:=l.row.toRowW) (X:=(true==true))
    (show WShape.has [] (.bool true) .bool=true by first | rfl | decide | simp [WShape.has,WShape.arms,WShape.armsAll])
    (show (WTm.eq .res (.lit (.bool true))).value [] { args:=args,res:=some (.bool true),after:=args }=some (.bool (true==true)) from w_eq_bool (w_res rfl) w_lit) rfl
theorem attach_call {l:OpenLaw} {n:Nat} {q:Program} {loose:List Str} {XP:(Str→Option Value)→Heap→Prop} {YP:World→Heap→Prop} {d:DefRec}
    (hn:l.most=some n) (hdf:d.params.defaults=[])
    (call:∀ (w:World) (s₀ s₁:Shared) (mg mb:Str→Option Value) (fa:Addr) (o:Obj) (pm cd doc:Value) (a:Addr) (vs:List Value) (ns:List Int),
      Ground q loose [] XP w s₀ mg mb s₁.heap→YP w s₁.heap →
      s₁.heap.get? fa=some o→o.data=.func (docDef d.name d.params d.body d.scope pm cd doc)→s₁.heap.CodeRec cd d.name→mg d.name=some (.ref fa) →
      s₁.heap.get? a=some { cls:=.type "list",data:=.seq vs.toArray }→IntsAre vs ns→ns.length≤n→s₁.gens=#[] →
      codeAny (model l.prog w) callerA (.call (.ref fa) ⟨[.ref a],[]⟩) (fun r s'=>r=.ok (.ret (.bool true))∧OldK s₁.heap s'.heap∧s'.os=s₁.os∧AllBare s'.gens) s₁) :
    WalkO q loose XP YP l.row.toRowW d [] (fun f vs=>PySem.call f vs):=by
  intro w s₀ s₁ mg mb G Y fa o pm cd doc dV kV ho hd hcd hD hmg hg args vals as hpre hlay hrd hwl hlo
  obtain rfl:dV=.none:=Dflts.none hD hdf
  obtain rfl:kV=.none:=Dflts.noKw hD
  refine bq fun bG=>?_
  obtain ⟨a,vs,ns,rfl,rfl,hobj,hints,hlen⟩:=zgg hn hpre hwl
  refine bG (enter_call (codeAny_mono (call w s₀ s₁ mg mb fa o pm cd doc a vs ns G Y ho (fd_plain hd) hcd hmg hobj hints hlen hg) fun r s' hq=>?_))
  refine bq fun bG=>?_
  obtain ⟨rfl,h2,h3,h4⟩:=hq
  exact bG (⟨.inl ⟨.bool true,.bool true,[],rfl,fun _=>rfl,.bool true,zh2 l _,fun _=>⟨List.Pairwise.nil,fun _ hm=>(nomatch hm)⟩⟩,h2,h3,h4⟩)
section
variable {prog:Program} {w:World} {A:Around} {E:Value→Shared→Prop} {s:Shared} {K:Frag}
end
end Att
namespace L2
open PySem PySem.Spec PyProof.Rows
theorem zb7:∀ {vs:List Value} {ns:List Int},IntsAre vs ns→Vals (ns.map V.int) vs
  | _,_,.nil=>.nil
  | _,_,.cons n t h=>.cons ⟨t,rfl⟩ (zb7 h)
def zs4 (H:Hp):Prop:=∀ b,H b=none∨∃ o xs,H b=some (.frz o (.lst xs))
theorem zki {P:Program} {w:World} {K:PySem.W.Frag} {mg mb:Str→Option Value} {CX:CXT} {k:Nat} {fa a:Addr} {fd:FuncData} {x:Str} {sp:Sp} {s₁:Shared} {vs:List Value} {ns:List Int}
    (KX:K.In s₁.heap) (hns:s₁.heap.Ns mainGlobals mg) (hb:s₁.heap.Ns builtinsNs mb) (hbb:∀ x:Str,x ≠ "__name__" → mb x=bootBuiltins x) (hlim:s₁.heap.NoLimit) (hg:s₁.gens=#[])
    (ha:s₁.heap.get? a=some { cls:=.type "list",data:=.seq vs.toArray }) (hi:IntsAre vs ns) (hl:ns.length≤sizeLine) (hr:Room k callerA)
    (F:∀ base:Heap,K.In base→base.Ns mainGlobals mg→FnOk P w K mg base CX k fa fd [x] sp) (hbind:∀ (s:Shared) (u:Value),BindsTo s fd ⟨[u],[]⟩ [(x,u)])
    (hsp:∀ H:Hp,zs4 H→SqL K H a (ns.map V.int)→sp [.ref a] H (fun v _=>v=.bl true) fun _ _ _=>False)
    (hCX:∀ H e s',CX [] H s₁ (fun _ _ _=>False) e s'→False) :
    codeAny (model P w) callerA (.call (.ref fa) ⟨[.ref a],[]⟩) (fun r s'=>r=.ok (.ret (.bool true))∧OldK s₁.heap s'.heap∧s'.os=s₁.os∧AllBare s'.gens) s₁:=by
  have rv:=zb7 hi
  have lenV:=hi.length
  have core:∀ H:Hp,zs4 H→SqL K H a (ns.map V.int)→HOk P w H s₁.heap→(∀ b,H b≠none→b=a)→(H a≠none→K.lookup a=none) →
      codeAny (model P w) callerA (.call (.ref fa) ⟨[.ref a],[]⟩) (fun r s'=>r=.ok (.ret (.bool true))∧OldK s₁.heap s'.heap∧s'.os=s₁.os∧AllBare s'.gens) s₁:=by
    intro H hO hS hok hA hK
    have base_of:∀ {b:Addr} {o:Obj},s₁.heap.get? b=some o→H b=none→(zkn s₁.heap H).get? b=some o:=fun e n=>zkm e n
    have noA:∀ {b:Addr} {o:Obj} {es:Array DictEntry} {ep:Nat},s₁.heap.get? b=some o→o.data=.dict es ep→H b=none:=fun {b o es ep} e d=>by
      cases q:H b with
      | none=>rfl
      | some u =>
        have e':b=a:=hA b (by rw [q];simp)
        subst e'
        rw [ha] at e;cases e
        have d':Data.seq vs.toArray _=Data.dict es ep:=d
        cases d'
    have nsK:∀ {b:Addr} {m:Str→Option Value},s₁.heap.Ns b m→(zkn s₁.heap H).Ns b m:=fun {b m} ⟨o,es,ep,e,d,r⟩=>⟨o,es,ep,base_of e (noA e d),d,r⟩
    have hKb:K.In (zkn s₁.heap H):=fun b o e=>base_of (KX b o e) (by
      cases q:H b with
      | none=>rfl
      | some u =>
        have e':b=a:=hA b (by rw [q];simp)
        subst e'
        rw [hK (by rw [q];simp)] at e;cases e)
    have hM:Mod K mg (zkn s₁.heap H):=⟨hKb,nsK hns,⟨mb,nsK hb,hbb⟩,let ⟨mc,h1,h2⟩:=hlim;⟨mc,nsK h1,h2⟩⟩
    have e0:Env0 P w K mg (zkn s₁.heap H) callerA [] s₁ H:=⟨rfl,hM,fun b o e=>zno e,Nat.le_of_eq (zht _ _),trivial,fun b hb=>absurd (show b∈([]:List Addr) from hb) (by simp),hok,.of_eq hg⟩
    refine codeAny_mono ((F _ hKb (nsK hns)).run callerA [] s₁ H ⟨[.ref a],[]⟩ [.ref a] [.ref a] _ _ hr e0 (hbind s₁ (.ref a)) (.cons rfl .nil) (hsp H hO hS)) fun r s' h=>?_
    cases r with
    | error e=>exact (hCX H e s' h).elim
    | ok fl =>
      cases fl with
      | next=>exact False.elim h
      | brk=>exact False.elim h
      | cont=>exact False.elim h
      | ret u =>
        obtain ⟨v,H',os,bare,un,hok',r',q⟩:=h
        have q':v=.bl true:=q
        subst q'
        obtain rfl:u=Value.bool true:=r'
        refine ⟨rfl,OldK.of_keep fun b o e=>?_,os,bare⟩
        cases q:H b with
        | none=>exact un.keep b o e q (by intro z;exact absurd (show b∈([]:List Addr) from z) (by simp)) (by simp)
        | some u =>
          rcases hO b with z | ⟨ob,xs,z⟩
          · rw [q] at z;cases z
          · have z2:=un.frzs b ob _ z
            obtain ⟨e1,_⟩:=hok b _ z
            obtain ⟨e2,_⟩:=hok' b _ z2
            rw [e] at e1;cases e1
            exact e2
  cases hk:K.lookup a with
  | some o =>
    have e:=KX a o hk
    rw [ha] at e
    cases e
    refine core (fun _=>none) (fun _=>.inl rfl) (.inr ⟨_,vs.toArray,_,hk,rfl,rfl,rfl,by rw [List.size_toArray,lenV];exact hl,by simpa using rv⟩) (fun b u z=>by have z':(none:Option HO)=some u:=z;cases z') (fun b z=>absurd rfl z) fun z=>absurd rfl z
  | none =>
    refine core (fun b=>if b=a then some (.frz { cls:=.type "list",data:=.seq vs.toArray } (.lst (ns.map V.int))) else none) (fun b=>?_) (.inl (.inr ⟨{ cls:=.type "list",data:=.seq vs.toArray },if_pos rfl⟩)) (fun b u z=>?_) (fun b z=>?_) fun _=>hk
    · by_cases hb:b=a
      · exact .inr ⟨_,_,if_pos hb⟩
      · exact .inl (if_neg hb)
    · by_cases hb:b=a
      · have z':=(if_pos hb).symm.trans z
        cases z'
        subst hb
        exact ⟨ha,by rw [List.length_map];exact hl,vs,_,rv,ha⟩
      · have z':=(if_neg hb).symm.trans z
        cases z'
    · by_cases hb:b=a
      · exact hb
      · exact absurd (if_neg hb) z
theorem walk_of {l:PySem.W.OpenLaw} {n k:Nat} {q:Program} {loose:List Str} {XP:(Str→Option Value)→Heap→Prop} {YP:World→Heap→Prop} {d:DefRec} {K:Params→PySem.W.Frag} {CX:World→CXT} {sp:World→Sp} {x:Str}
    (hn:l.most=some n) (hn2:n≤sizeLine) (hdf:d.params.defaults=[]) (hr:Room k callerA)
    (hY:∀ (w:World) (h:Heap),YP w h→(K w.params).In h)
    (F:∀ (w:World) (mg:Str→Option Value) (fa:Addr) (h:Heap),(K w.params).In h→h.Ns mainGlobals mg→mg d.name=some (.ref fa) →
      ∃ fd:FuncData,(∀ (s:Shared) (u:Value),BindsTo s fd ⟨[u],[]⟩ [(x,u)]) ∧
        ∀ base:Heap,(K w.params).In base→base.Ns mainGlobals mg→FnOk l.prog w (K w.params) mg base (CX w) k fa fd [x] (sp w))
    (hsp:∀ (w:World) (H:Hp) (a:Addr) (ns:List Int),ns.length≤n→zs4 H→SqL (K w.params) H a (ns.map V.int)→sp w [.ref a] H (fun v _=>v=.bl true) fun _ _ _=>False)
    (hCX:∀ (w:World) (H:Hp) (s:Shared) (e:Value) (s':Shared),CX w [] H s (fun _ _ _=>False) e s'→False) :
    PySem.W.WalkO q loose XP YP l.row.toRowW d [] (fun f vs=>PySem.call f vs):=by
  refine Att.attach_call hn hdf fun w s₀ s₁ mg mb fa o pm cd doc a vs ns G Y ho hd hcd hmg hobj hints hlen hg=>?_
  have KX:=hY w _ Y
  refine bq fun bG=>?_
  obtain ⟨fd,hb,hF⟩:=F w mg fa _ KX G.T.g hmg
  exact bG (zki KX G.T.g G.T.b G.T.builtins G.T.nolimit hg hobj hints (Nat.le_trans hlen hn2) hr hF hb (fun H hO hS=>hsp w H a ns hlen hO hS) fun H e s'=>hCX w H s₁ e s')
noncomputable def z0u (s:Stmt):Arguments:=match s with
  | .FunctionDef _ a _ _ _ _ _ _ _ _=>a
  | _=>{ posonlyargs:=[],args:=[],vararg:=none,kwonlyargs:=[],kw_defaults:=[],kwarg:=none,defaults:=[] }
noncomputable def z0o (s:Stmt):List Stmt:=match s with
  | .FunctionDef _ _ b _ _ _ _ _ _ _=>b
  | _=>[]
noncomputable def z05 (s:Stmt):Scope:=match s with
  | .FunctionDef _ _ _ _ _ _ sc _ _ _=>sc
  | _=>{ kind:=.function,names:=[],isGenerator:=false,isCoroutine:=false }
noncomputable abbrev CX0:CXT:=fun _ _ _ _ _ _=>False
noncomputable abbrev E0:XK:=fun _ _ _=>False
theorem zsy {X:Cx}:zeo CX0 X E0:=fun _ _ _ _ _ _ _ h=>h.elim
structure Fun (K:PySem.W.Frag) (x qual:Str) (st:Stmt) (f:Addr) (fd:FuncData):Prop where
  ex:∃ (oc:Value) (od:Option Addr) (kV doc pm:Value) (an:Option Addr) (cdv ct:Value) (osl:Array (Option Value)),
    fd=PySem.W.fnOf x qual (z0u st) (z0o st) (z05 st) .none kV doc pm an cdv ct∧K.lookup f=some ⟨oc,od,.func fd,osl⟩∧PySem.W.codeIn K cdv qual=true
  kp:PySem.W.keepIn K (.ref f)=true
section
variable {P:Program} {w:World} {K:PySem.W.Frag} {mg:Str→Option Value} {base:Heap}
theorem Fun.ok {x qual:Str} {st:Stmt} {f:Addr} {fd:FuncData} {N ps:List Str} {k:Nat} {sp:Sp} (F:Fun K x qual st f fd) (S:FnScope N ps (z05 st)) (len:∀ vs H Q E,sp vs H Q E→vs.length=ps.length)
    (hbody:∀ (cdv:Value) (A:Around) (outer:List Env) (s:Shared) (H:Hp) (vs:List V) (Q:VK) (E:XK),Room k (A.deeper (envOfC qual (z05 st) s.heap.objs.size f cdv))→sp vs H Q E →
      ∃ t,PSs (z5a CX0 P w K mg base N qual (z05 st) f cdv A outer s H E).nox (z0o st) t∧t { nx:=fun _ H'=>Q .non H',rt:=Q } (zae N vs) H):FnOk P w K mg base CX0 (k+1) f fd ps sp:=by
  refine bq fun bG=>?_
  obtain ⟨oc,od,kV,doc,pm,an,cdv,ct,osl,rfl,lk,hcd⟩:=F.ex
  refine bG (zr9 lk hcd S len fun A outer s H vs Q E hr hsp=>?_)
  refine bq fun bG=>?_
  obtain ⟨t,h,q⟩:=hbody cdv A outer s H vs Q E hr hsp
  exact bG (⟨t,h.nox,q⟩)
theorem Fun.binds {x qual:Str} {st:Stmt} {f:Addr} {fd:FuncData} {ps:List Str} (F:Fun K x qual st f fd)
    (h:∀ (kV doc pm:Value) (an:Option Addr) (cdv ct:Value) (us:List Value),us.length=ps.length→bindArgs (PySem.W.fnOf x qual (z0u st) (z0o st) (z05 st) .none kV doc pm an cdv ct) ⟨us,[]⟩=pure (ps.zip us)):Binds K fd ps []:=by
  refine bq fun bG=>?_
  obtain ⟨oc,od,kV,doc,pm,an,cdv,ct,osl,rfl,lk,hcd⟩:=F.ex
  exact bG (.all (h kV doc pm an cdv ct))
theorem z37 {x qual:Str} {st:Stmt} {f:Addr} {oc:Value} {od an:Option Addr} {osl:Array (Option Value)} {kV doc pm cdv ct:Value} (l:K.lookup f=some ⟨oc,od,.func (PySem.W.fnOf x qual (z0u st) (z0o st) (z05 st) .none kV doc pm an cdv ct),osl⟩)
    (c:PySem.W.codeIn K cdv qual=true) (k:PySem.W.keepIn K (.ref f)=true):Fun K x qual st f (PySem.W.fnOf x qual (z0u st) (z0o st) (z05 st) .none kV doc pm an cdv ct):=⟨⟨oc,od,kV,doc,pm,an,cdv,ct,osl,rfl,l,c⟩,k⟩
end
section
variable {X:Cx}
theorem pv (i:Nat) {x:Str} {pos:Pos} (hN:X.N[i]?=some x:=by rfl) (hv:Vis X.env.scope x:=by first | exact Or.inl rfl | exact Or.inr (Or.inl rfl) | exact Or.inr (Or.inr rfl)) (hd:(x==("__debug__" : Str))=false:=by decide)
    (hcd:(x==("__classdict__" : Str))=false:=by decide):PE X (.Name x pos) (ztu i):=zlk hN hv hd hcd
end
theorem ztd {A B:Prop} (h:B):if false=true then A else B:=by
  rw [if_neg Bool.false_ne_true]
  exact h
theorem ztc {A B:Prop} (h:A):if true=true then A else B:=by
  rw [if_pos rfl]
  exact h
theorem zu5 {c A B:Prop} [Decidable c] (h1:c→A) (h2:¬ c→B):if c then A else B:=by
  by_cases h:c
  · rw [if_pos h]
    exact h1 h
  · rw [if_neg h]
    exact h2 h
def Same (H H':Hp):Prop:=∀ b o,H b=some o→H' b=some o
theorem Same.refl (H:Hp):Same H H:=fun _ _ h=>h
theorem Same.trans {H H1 H2:Hp} (a:Same H H1) (b:Same H1 H2):Same H H2:=fun c o h=>b c o (a c o h)
section
variable {X:Cx}
end
section
variable {κ:Type} [DecidableEq κ]
end
end L2
namespace Tim
open PySem PyProof.Rows
section
variable {prog:Program} {w:World} {A:Around} {E:Value→Shared→Prop} {s:Shared} {n:Nat} {pe:Array (Nat×Nat×Nat)} {st:SortSt}
noncomputable def descPart (lo n0 nrem:Nat):StateT SortSt Sem (Option Nat):=do
  rule "list.sort.descending-run"
  let mut n:=n0
  n:=n+1
  let mut neq:=0
  for _ in [n:nrem] do
    let some smaller ← ltAt' (lo+n) (lo+n - 1) | return none
    if smaller then
      if neq > 0 then reverseSlice' (lo+n - (neq+1)) (lo+n)
      neq:=0
    else
      let some larger ← ltAt' (lo+n - 1) (lo+n) | return none
      if larger then break
      neq:=neq+1
    n:=n+1
  if neq > 0 then reverseSlice' (lo+n - (neq+1)) (lo+n)
  reverseSlice' lo (lo+n)
  for _ in [n:nrem] do
    let some smaller ← ltAt' (lo+n) (lo+n - 1) | return none
    if smaller then break
    n:=n+1
  return some n
end
noncomputable def z34:Bool→Keyed→Array Keyed→Nat→Nat→Nat→StateT SortSt Sem (Option Nat):=sortPriv% PySem.Builtin.gallop
noncomputable def z8f (z31:Bool) (key:Keyed) (arr:Array Keyed) (base i:Nat):StateT SortSt Sem (Option Bool):=do
  let x ← elem' arr (base+i)
  if z31 then lt' x key else return (← lt' key x).map (!·)
theorem zfh (z31:Bool) (key:Keyed) (arr:Array Keyed) (base n hint:Nat):z34 z31 key arr base n hint=(do
  let mut lastofs:=0
  let mut ofs:=1
  let mut lo:=0
  let mut hi:=0
  let some right ← z8f z31 key arr base hint | return none
  if right then
    let maxofs:=n - hint
    for _ in [0:n] do
      if ofs≥maxofs then break
      let some za4 ← z8f z31 key arr base (hint+ofs) | return none
      if !za4 then break
      lastofs:=ofs
      ofs:=2*ofs+1
    lo:=hint+lastofs+1
    hi:=hint+min ofs maxofs
  else
    let maxofs:=hint+1
    for _ in [0:n] do
      if ofs≥maxofs then break
      let some found ← z8f z31 key arr base (hint - ofs) | return none
      if found then break
      lastofs:=ofs
      ofs:=2*ofs+1
    lo:=hint+1 - min ofs maxofs
    hi:=hint - lastofs
  for _ in [0:n] do
    if lo≥hi then break
    let m:=lo+(hi - lo) / 2
    let some za4 ← z8f z31 key arr base m | return none
    if za4 then lo:=m+1 else hi:=m
  return some hi):=rfl
section
variable {prog:Program} {w:World} {A:Around} {E:Value→Shared→Prop} {s:Shared} {st:SortSt}
end
noncomputable def z7j:Array Keyed→Array Keyed→StateT SortSt Sem (Array Keyed):=sortPriv% PySem.Builtin.mergeLo
noncomputable def z0j:Nat→StateT SortSt Sem Unit:=sortPriv% PySem.Builtin.setMinGallop
theorem z7a (g:Nat):z0j g=modify (fun s=>SortSt.mk' (kindOf s) (arrOf s) (pendingOf s) g (failedOf s)):=rfl
theorem zd5 (a b:Array Keyed):z7j a b=(do
  rule "list.sort.merge-lo"
  let total:=a.size+b.size
  let done (out:Array Keyed) (ia ib:Nat):=out++a.extract ia a.size++b.extract ib b.size
  let lastOfA (out:Array Keyed) (ia ib:Nat):=out++b.extract ib b.size++a.extract ia a.size
  let mut out:Array Keyed:=#[← elem' b 0]
  let mut ia:=0
  let mut ib:=1
  if ib==b.size then return done out ia ib
  if ia+1==a.size then return lastOfA out ia ib
  let mut minGallop:=gallopOf (← get)
  for _ in [0:total] do
    let mut acount:=0
    let mut bcount:=0
    for _ in [0:total] do
      let some bWins ← lt' (← elem' b ib) (← elem' a ia) | return done out ia ib
      if bWins then
        out:=out.push (← elem' b ib);ib:=ib+1;bcount:=bcount+1;acount:=0
        if ib==b.size then return done out ia ib
        if bcount≥minGallop then break
      else
        out:=out.push (← elem' a ia);ia:=ia+1;acount:=acount+1;bcount:=0
        if ia+1==a.size then return lastOfA out ia ib
        if acount≥minGallop then break
    rule "list.sort.gallop"
    minGallop:=minGallop+1
    for _ in [0:total] do
      if minGallop > 1 then minGallop:=minGallop - 1
      z0j minGallop
      let some k ← z34 false (← elem' b ib) a ia (a.size - ia) 0 | return done out ia ib
      acount:=k
      if k > 0 then
        out:=out++a.extract ia (ia+k);ia:=ia+k
        if ia+1==a.size then return lastOfA out ia ib
        if ia==a.size then return done out ia ib
      out:=out.push (← elem' b ib);ib:=ib+1
      if ib==b.size then return done out ia ib
      let some k ← z34 true (← elem' a ia) b ib (b.size - ib) 0 | return done out ia ib
      bcount:=k
      if k > 0 then
        out:=out++b.extract ib (ib+k);ib:=ib+k
        if ib==b.size then return done out ia ib
      out:=out.push (← elem' a ia);ia:=ia+1
      if ia+1==a.size then return lastOfA out ia ib
      if acount<7&&bcount<7 then break
    minGallop:=minGallop+1
    z0j minGallop
  unsupported "internal:list.sort.merge-bound"):=rfl
section
variable {prog:Program} {w:World} {A:Around} {E:Value→Shared→Prop} {s:Shared} {n:Nat} {pe:Array (Nat×Nat×Nat)} {st:SortSt}
theorem z0d {α:Type} {c:Prop} [Decidable c] {x y:StateT SortSt Sem α} {Q:α→SortSt→Prop} (h1:c→wpS (model prog w) A E s x Q st) (h2:¬ c→wpS (model prog w) A E s y Q st):wpS (model prog w) A E s (if c then x else y) Q st:=by
  by_cases hc:c
  · rw [if_pos hc];exact h1 hc
  · rw [if_neg hc];exact h2 hc
end
noncomputable def z7k:Array Keyed→Array Keyed→StateT SortSt Sem (Array Keyed):=sortPriv% PySem.Builtin.mergeHi
theorem zd6 (a b:Array Keyed):z7k a b=(do
  rule "list.sort.merge-hi"
  let total:=a.size+b.size
  let done (out:Array Keyed) (na nb:Nat):=a.extract 0 na++b.extract 0 nb++out.reverse
  let firstOfB (out:Array Keyed) (na nb:Nat):=b.extract 0 nb++a.extract 0 na++out.reverse
  let mut na:=a.size - 1
  let mut nb:=b.size
  let mut out:Array Keyed:=#[← elem' a na]
  if na==0 then return done out na nb
  if nb==1 then return firstOfB out na nb
  let mut minGallop:=gallopOf (← get)
  for _ in [0:total] do
    let mut acount:=0
    let mut bcount:=0
    for _ in [0:total] do
      let some aWins ← lt' (← elem' b (nb - 1)) (← elem' a (na - 1)) | return done out na nb
      if aWins then
        na:=na - 1;out:=out.push (← elem' a na);acount:=acount+1;bcount:=0
        if na==0 then return done out na nb
        if acount≥minGallop then break
      else
        nb:=nb - 1;out:=out.push (← elem' b nb);bcount:=bcount+1;acount:=0
        if nb==1 then return firstOfB out na nb
        if bcount≥minGallop then break
    rule "list.sort.gallop"
    minGallop:=minGallop+1
    for _ in [0:total] do
      if minGallop > 1 then minGallop:=minGallop - 1
      z0j minGallop
      let some at_ ← z34 false (← elem' b (nb - 1)) a 0 na (na - 1) | return done out na nb
      let k:=na - at_
      acount:=k
      if k > 0 then
        out:=out++(a.extract at_ na).reverse;na:=at_
        if na==0 then return done out na nb
      nb:=nb - 1;out:=out.push (← elem' b nb)
      if nb==1 then return firstOfB out na nb
      let some at_ ← z34 true (← elem' a (na - 1)) b 0 nb (nb - 1) | return done out na nb
      let k:=nb - at_
      bcount:=k
      if k > 0 then
        out:=out++(b.extract at_ nb).reverse;nb:=at_
        if nb==1 then return firstOfB out na nb
        if nb==0 then return done out na nb
      na:=na - 1;out:=out.push (← elem' a na)
      if na==0 then return done out na nb
      if acount<7&&bcount<7 then break
    minGallop:=minGallop+1
    z0j minGallop
  unsupported "internal:list.sort.merge-bound"):=rfl
section
variable {prog:Program} {w:World} {A:Around} {E:Value→Shared→Prop} {s:Shared} {n:Nat} {pe:Array (Nat×Nat×Nat)} {st:SortSt}
end
theorem zd7 (i:Nat):mergeAt' i=(do
  let s ← get
  let (some (sa,na,power),some (sb,nb,_)):=((pendingOf s)[i]?,(pendingOf s)[i+1]?) | unsupported "internal:list.sort.pending"
  set (setPending s (((pendingOf s).setIfInBounds i (sa,na+nb,power)).eraseIdxIfInBounds (i+1)))
  let some k ← z34 false (← elem' (arrOf s) sb) (arrOf s) sa na 0 | return false
  let (sa,na):=(sa+k,na - k)
  if na==0 then return true
  let some nb ← z34 true (← elem' (arrOf s) (sa+na - 1)) (arrOf s) sb nb (nb - 1) | return false
  if nb==0 then return true
  let x:=(arrOf s).extract sa sb
  let y:=(arrOf s).extract sb (sb+nb)
  let merged ← if na≤nb then z7j x y else z7k x y
  modify fun s=>setArr s (merged.toList.zipIdx.foldl (fun a (p,j)=>a.setIfInBounds (sa+j) p) (arrOf s))
  return (failedOf (← get)).isNone):=rfl
noncomputable def z95 (p:Array (Nat×Nat×Nat)) (hi:Nat):Prop :=
  ∀ (i sa na pw:Nat),p[i]?=some (sa,na,pw)→1≤na∧sa+na≤hi∧(∀ (sb nb q:Nat),p[i+1]?=some (sb,nb,q)→sb=sa+na)∧(p[i+1]?=none→sa+na=hi)
section
variable {prog:Program} {w:World} {A:Around} {E:Value→Shared→Prop} {s:Shared} {n:Nat} {pe:Array (Nat×Nat×Nat)} {st:SortSt}
theorem zmh {f:SortSt} {Q:PUnit→SortSt→Prop} (h:Q ⟨⟩ f):wpS (model prog w) A E s (set f:StateT SortSt Sem PUnit) Q st:=by
  unfold wpS
  rw [StateT.run_set]
  exact wpAny_pure ⟨rfl,h⟩
theorem zf0 {p:Array (Nat×Nat×Nat)} {hi i sa na pw sb nb q:Nat} (h:z95 p hi) (e1:p[i]?=some (sa,na,pw)) (e2:p[i+1]?=some (sb,nb,q)) :
    z95 ((p.setIfInBounds i (sa,na+nb,pw)).eraseIdxIfInBounds (i+1)) hi∧((p.setIfInBounds i (sa,na+nb,pw)).eraseIdxIfInBounds (i+1)).size+1=p.size:=by
  have hi1:i+1<p.size:=(Array.getElem?_eq_some_iff.mp e2).1
  have hsz:((p.setIfInBounds i (sa,na+nb,pw)).eraseIdxIfInBounds (i+1)).size+1=p.size:=by
    rw [Array.eraseIdxIfInBounds,dif_pos (by rw [Array.size_setIfInBounds];exact hi1),Array.size_eraseIdx,Array.size_setIfInBounds];omega
  have at_:∀ j,((p.setIfInBounds i (sa,na+nb,pw)).eraseIdxIfInBounds (i+1))[j]?=if j=i then some (sa,na+nb,pw) else if j<i then p[j]? else p[j+1]?:=by
    intro j
    rw [Array.eraseIdxIfInBounds,dif_pos (by rw [Array.size_setIfInBounds];exact hi1),Array.getElem?_eraseIdx,Array.getElem?_setIfInBounds,Array.getElem?_setIfInBounds]
    by_cases a:j=i
    · subst a;simp;omega
    · by_cases b:j<i
      · have c:¬ i=j:=fun z=>a z.symm
        rw [if_neg a,if_pos b,if_pos (by omega),if_neg c]
      · have c:¬ i=j+1:=by omega
        rw [if_neg a,if_neg b,if_neg (by omega),if_neg c]
  refine ⟨fun j s1 n1 p1 e=>?_,hsz⟩
  rw [at_] at e
  rw [at_]
  obtain ⟨a1,a2,a3,a4⟩:=h i sa na pw e1
  obtain ⟨b1,b2,b3,b4⟩:=h (i+1) sb nb q e2
  have c3:=a3 sb nb q e2
  by_cases hj:j=i
  · subst hj
    rw [if_pos rfl] at e
    cases e
    rw [if_neg (by omega),if_neg (by omega)]
    exact ⟨by omega,by omega,fun sc nc r e=>by have:=b3 sc nc r e;omega,fun e=>by have:=b4 e;omega⟩
  · rw [if_neg hj] at e
    by_cases hl:j<i
    · rw [if_pos hl] at e
      obtain ⟨d1,d2,d3,d4⟩:=h j s1 n1 p1 e
      refine ⟨d1,d2,fun sc nc r e5=>?_,fun e5=>?_⟩
      · by_cases hj1:j+1=i
        · rw [if_pos hj1] at e5
          cases e5
          exact d3 sa na pw (by rw [hj1];exact e1)
        · rw [if_neg hj1,if_pos (by omega)] at e5
          exact d3 sc nc r e5
      · by_cases hj1:j+1=i
        · rw [if_pos hj1] at e5;cases e5
        · rw [if_neg hj1,if_pos (by omega)] at e5
          exact d4 e5
    · rw [if_neg hl] at e
      obtain ⟨d1,d2,d3,d4⟩:=h (j+1) s1 n1 p1 e
      refine ⟨d1,d2,fun sc nc r e5=>?_,fun e5=>?_⟩
      · rw [if_neg (by omega),if_neg (by omega)] at e5
        exact d3 sc nc r e5
      · rw [if_neg (by omega),if_neg (by omega)] at e5
        exact d4 e5
end
theorem z6e {p:Array (Nat×Nat×Nat)} {lo m q:Nat} (h:z95 p lo) (hm:1≤m):z95 (p.push (lo,m,q)) (lo+m):=by
  intro i sa na pw e
  rw [Array.getElem?_push] at e
  rw [Array.getElem?_push]
  by_cases hi:i=p.size
  · subst hi
    rw [if_pos rfl] at e
    cases e
    rw [if_neg (by omega),Array.getElem?_eq_none (by omega)]
    exact ⟨hm,Nat.le_refl _,(fun _ _ _ z=>nomatch z),fun _=>rfl⟩
  · rw [if_neg hi] at e
    obtain ⟨a1,a2,a3,a4⟩:=h i sa na pw e
    have hlt:i<p.size:=(Array.getElem?_eq_some_iff.mp e).1
    refine ⟨a1,by omega,fun sb nb r z=>?_,fun z=>?_⟩
    · by_cases hj:i+1=p.size
      · rw [if_pos hj] at z
        cases z
        exact (a4 (by rw [Array.getElem?_eq_none_iff];omega)).symm
      · rw [if_neg hj] at z
        exact a3 sb nb r z
    · by_cases hj:i+1=p.size
      · rw [if_pos hj] at z;cases z
      · rw [if_neg hj] at z
        rw [Array.getElem?_eq_none_iff] at z
        omega
theorem z9k {p:Array (Nat×Nat×Nat)} {hi k pw:Nat} (h:z95 p hi):z95 (p.modify k fun (a,b,_)=>(a,b,pw)) hi:=by
  have e0:∀ j,(p.modify k fun (a,b,_)=>(a,b,pw))[j]?=if k=j then (p[j]?).map (fun (a,b,_)=>(a,b,pw)) else p[j]?:=fun j=>Array.getElem?_modify
  have ziy:∀ (j sa na q:Nat),(p.modify k fun (a,b,_)=>(a,b,pw))[j]?=some (sa,na,q)→∃ q':Nat,p[j]?=some (sa,na,q'):=by
    intro j sa na q e
    rw [e0] at e
    split at e
    · cases z:p[j]? with
      | none=>rw [z] at e;cases e
      | some r =>
        obtain ⟨x,y,u⟩:=r
        rw [z] at e
        cases e
        exact ⟨u,rfl⟩
    · exact ⟨q,e⟩
  intro i sa na q e
  obtain ⟨q',e'⟩:=ziy i sa na q e
  obtain ⟨a1,a2,a3,a4⟩:=h i sa na q' e'
  refine ⟨a1,a2,fun sb nb r z=>?_,fun z=>?_⟩
  · obtain ⟨r',z'⟩:=ziy _ _ _ _ z
    exact a3 sb nb r' z'
  · refine a4 ?_
    rw [e0] at z
    split at z
    · exact Option.map_eq_none_iff.mp z
    · exact z
section
variable {prog:Program} {w:World} {A:Around} {E:Value→Shared→Prop} {s:Shared} {n:Nat} {pe:Array (Nat×Nat×Nat)} {st:SortSt}
end
section
variable {prog:Program} {w:World} {A:Around} {E:Value→Shared→Prop} {s:Shared}
end
end Tim
namespace L2
open PySem PySem.Spec PyProof.Rows
noncomputable def z1i (X:Cx) (N':List Str) (scope:Scope) (cl:List (Str×Addr)) (C:Addr) (s₀:Shared) (H₀:Hp) (ex:List Addr):Cx :=
  { X with N:=N',s₀:=s₀,H₀:=H₀,env:=compEnvC scope cl C X.env,outer:=X.stack,ex:=ex,fn:=fun x=>scope.names.lookup x==some NameKind.cell,pn:=[] }
theorem z70 {env:Env}:∀ (names:List (Str×NameKind)) (acc:List (Str×Addr)),(∀ y∈names,y.2=.free→∃ c,env.cells.lookup y.1=some c) →
    (∀ y c,acc.lookup y=some c→env.cells.lookup y=some c) →
    ∃ cl,(forIn names acc fun x r=>if (x.2==NameKind.free)=true then do let c ← cellOf env x.1;pure (ForInStep.yield ((x.1,c)::r)) else pure (ForInStep.yield r):Sem (List (Str×Addr)))=pure cl ∧
      (∀ y c,cl.lookup y=some c→env.cells.lookup y=some c)∧(∀ y,(y,NameKind.free)∈names→∃ c,cl.lookup y=some c)∧∀ y c,acc.lookup y=some c→∃ c',cl.lookup y=some c'
  | [],acc,_,ha=>⟨acc,by simp,ha,fun _ h=>by simp at h,fun y c h=>⟨c,h⟩⟩
  | (n,k)::r,acc,h,ha=>by
    by_cases hk:k=.free
    · subst hk
      obtain ⟨c,hc⟩:=h (n,.free) List.mem_cons_self rfl
      have e:cellOf env n=pure c:=by unfold cellOf;rw [hc]
      obtain ⟨cl,e1,h1,h2,h3⟩:=z70 r ((n,c)::acc) (fun y hy=>h y (List.mem_cons_of_mem _ hy)) (fun y d hd=>by
        rw [List.lookup_cons] at hd
        split at hd
        · rename_i hb
          have:y=n:=by simpa using hb
          subst this
          cases hd
          exact hc
        · exact ha y d hd)
      refine ⟨cl,?_,h1,fun y hy=>?_,fun y d hd=>?_⟩
      · rw [List.forIn_cons,e]
        simpa using e1
      · rcases List.mem_cons.mp hy with z | z
        · cases z
          exact h3 n c (by simp [List.lookup_cons])
        · exact h2 y z
      · by_cases hy:y=n
        · subst hy
          exact h3 y c (by simp [List.lookup_cons])
        · have hb:(y==n)=false:=by simpa using hy
          exact h3 y d (by simp only [List.lookup_cons,hb];exact hd)
    · have hb:(k==NameKind.free)=false:=by simpa using hk
      refine bq fun bG=>?_
      obtain ⟨cl,e1,h1,h2,h3⟩:=z70 r acc (fun y hy=>h y (List.mem_cons_of_mem _ hy)) ha
      refine bG (⟨cl,?_,h1,fun y hy=>?_,h3⟩)
      · rw [List.forIn_cons]
        simpa [hb] using e1
      · rcases List.mem_cons.mp hy with z | z
        · cases z
          exact absurd rfl hk
        · exact h2 y z
theorem z77 {scope:Scope} {env:Env} (h:∀ y∈scope.names,y.2=.free→∃ c,env.cells.lookup y.1=some c) :
    ∃ cl,closureFor scope env=pure cl∧(∀ y c,cl.lookup y=some c→env.cells.lookup y=some c)∧∀ y,(y,NameKind.free)∈scope.names→∃ c,cl.lookup y=some c:=by
  refine bq fun bG=>?_
  obtain ⟨cl,e,h1,h2,_⟩:=z70 (env:=env) scope.names [] h (fun _ _ z=>by simp at z)
  refine bG (⟨cl,?_,h1,h2⟩)
  unfold closureFor
  show ((forIn scope.names [] fun x r=>if (x.2==NameKind.free)=true then do let c ← cellOf env x.1;pure (ForInStep.yield ((x.1,c)::r)) else pure (ForInStep.yield r):Sem (List (Str×Addr))) >>= fun cs=>pure cs)=pure cl
  rw [e]
  rfl
section
variable {prog:Program} {w:World} {A:Around} {R:Result→Shared→Prop} {s:Shared}
theorem zc0 {elt target iter:Expr} {ifs:List Expr} {scope:Scope} {pos:Pos} {it acc:Value} {env:Env} (I:Nat→Shared→Prop)
    (turn:∀ n s,I n s→wpAny (model prog w) A (pyNext it) (fun r s₁=>match r with
      | none=>R (.ok .next) s₁
      | some v=>wpAny (model prog w) A (letOwnedTupleGo target it v) (fun _ s₁'=>wpAny (model prog w) A (assign target env v) (fun _ s₂ =>
          wpAny (model prog w) A (forIn ifs true fun c r=>if r=true then do let ok ← isTrue c env (eval c env);pure (ForInStep.yield ok) else pure (ForInStep.yield r)) (fun ok s₃ =>
            if ok=true then wpAny (model prog w) A (eval elt env) (fun x s₄ =>
              wpAny (model prog w) A (call (.builtin "list.append") [acc,x]) (fun _ s₅=>∃ m,m<n∧I m s₅) (fun _ _=>False) s₄) (fun _ _=>False) s₃
            else ∃ m,m<n∧I m s₃) (fun _ _=>False) s₂) (fun _ _=>False) s₁') (fun _ _=>False) s₁) (fun _ _=>False) s)
    (n:Nat) (h:I n s):codeAny (model prog w) A (.compLoop (.ListComp elt [⟨target,iter,ifs,0⟩] scope pos) 0 it acc env) R s:=by
  refine codeAny_loop rfl I (fun n s hI=>?_) n h
  show wpAny _ A ((compTurn (.ListComp elt [⟨target,iter,ifs,0⟩] scope pos) 0 it acc env).onRaise (fun x=>do noteFrame x env;theTreesLotGoes x)) _ _ s
  refine wpAny_noted ?_
  rw [compTurn_list]
  refine wpAny_mono (E:=fun _ _=>False) ?_ (fun _ _ x=>x) fun _ _ x=>x.elim
  refine wpAny_bind (wpAny_standAt (wpAny_bind (wpAny_mono (turn n s hI) (fun r s₁ h₁=>?_) fun _ _ h'=>h')))
  cases r with
  | none=>exact wpAny_pure h₁
  | some v =>
    refine wpAny_bind (wpAny_mono h₁ (fun _ s₁' h₁'=>?_) fun _ _ h'=>h')
    refine wpAny_bind (wpAny_mono h₁' (fun _ s₂ h₂=>wpAny_bind (wpAny_mono h₂ (fun ok s₃ h₃=>?_) fun _ _ h'=>h')) fun _ _ h'=>h')
    cases ok with
    | false=>exact wpAny_pure ⟨rfl,h₃⟩
    | true =>
      exact wpAny_bind (wpAny_bind (wpAny_mono h₃ (fun x s₄ h₄=>wpAny_bind (wpAny_mono h₄ (fun _ s₅ h₅=>wpAny_pure (wpAny_pure ⟨rfl,h₅⟩)) fun _ _ h'=>h')) fun _ _ h'=>h'))
end
theorem z60 {env:Env} {x:Str}:∀ {names:List (Str×NameKind)},names.lookup x=some .free →
    (names.map fun (n,k)=>if (k==NameKind.free&&env.scope.kind==.function&&env.kindOf n==some .cell) then (n,NameKind.cell) else (n,k)).lookup x=some .free ∨
    (names.map fun (n,k)=>if (k==NameKind.free&&env.scope.kind==.function&&env.kindOf n==some .cell) then (n,NameKind.cell) else (n,k)).lookup x=some .cell
  | [],h=>by simp at h
  | (n,k)::r,h=>by
    have ih:=@z60 env x r
    show List.lookup x ((if (k==NameKind.free&&env.scope.kind==.function&&env.kindOf n==some .cell)=true then (n,NameKind.cell) else (n,k))::_)=_∨List.lookup x ((if (k==NameKind.free&&env.scope.kind==.function&&env.kindOf n==some .cell)=true then (n,NameKind.cell) else (n,k))::_)=_
    cases hx:x==n with
    | true =>
      simp only [List.lookup_cons,hx] at h
      cases h
      by_cases hc:(NameKind.free==NameKind.free&&env.scope.kind==.function&&env.kindOf n==some .cell)=true
      · rw [if_pos hc];exact .inr (by simp [List.lookup_cons,hx])
      · rw [if_neg hc];exact .inl (by simp [List.lookup_cons,hx])
    | false =>
      simp only [List.lookup_cons,hx] at h
      by_cases hc:(k==NameKind.free&&env.scope.kind==.function&&env.kindOf n==some .cell)=true
      · rw [if_pos hc];simp only [List.lookup_cons,hx];exact ih h
      · rw [if_neg hc];simp only [List.lookup_cons,hx];exact ih h
theorem z74 {env:Env} {x:Str}:∀ {names:List (Str×NameKind)},
    ((names.map fun (n,k)=>if (k==NameKind.free&&env.scope.kind==.function&&env.kindOf n==some .cell) then (n,NameKind.cell) else (n,k)).lookup x=some .cell ∨
     (names.map fun (n,k)=>if (k==NameKind.free&&env.scope.kind==.function&&env.kindOf n==some .cell) then (n,NameKind.cell) else (n,k)).lookup x=some .free)→names.lookup x=some .free∨names.lookup x=some .cell
  | [],h=>by simp at h
  | (n,k)::r,h=>by
    have ih:=@z74 env x r
    have h:List.lookup x ((if (k==NameKind.free&&env.scope.kind==.function&&env.kindOf n==some .cell)=true then (n,NameKind.cell) else (n,k))::(r.map fun (n,k)=>if (k==NameKind.free&&env.scope.kind==.function&&env.kindOf n==some .cell) then (n,NameKind.cell) else (n,k)))=some .cell ∨
      List.lookup x ((if (k==NameKind.free&&env.scope.kind==.function&&env.kindOf n==some .cell)=true then (n,NameKind.cell) else (n,k))::(r.map fun (n,k)=>if (k==NameKind.free&&env.scope.kind==.function&&env.kindOf n==some .cell) then (n,NameKind.cell) else (n,k)))=some .free:=h
    cases hx:x==n with
    | true =>
      by_cases hc:(k==NameKind.free&&env.scope.kind==.function&&env.kindOf n==some .cell)=true
      · have:k=.free:=by
          have z:=(Bool.and_eq_true_iff.mp (Bool.and_eq_true_iff.mp hc).1).1
          simpa using z
        subst this
        exact .inl (by simp [List.lookup_cons,hx])
      · rw [if_neg hc] at h
        simp only [List.lookup_cons,hx] at h ⊢
        exact h.symm
    | false =>
      have:∀ p:NameKind,List.lookup x ((if (k==NameKind.free&&env.scope.kind==.function&&env.kindOf n==some .cell)=true then (n,NameKind.cell) else (n,k))::(r.map fun (n,k)=>if (k==NameKind.free&&env.scope.kind==.function&&env.kindOf n==some .cell) then (n,NameKind.cell) else (n,k)))=some p↔(r.map fun (n,k)=>if (k==NameKind.free&&env.scope.kind==.function&&env.kindOf n==some .cell) then (n,NameKind.cell) else (n,k)).lookup x=some p:=fun p=>by
        by_cases hc:(k==NameKind.free&&env.scope.kind==.function&&env.kindOf n==some .cell)=true
        · rw [if_pos hc];simp only [List.lookup_cons,hx]
        · rw [if_neg hc];simp only [List.lookup_cons,hx]
      rw [this .cell,this .free] at h
      have:=ih h
      simp only [List.lookup_cons,hx]
      exact this
theorem z1j:∀ (names:List (Str×NameKind)) (n:Nat) (acc:List (Str×Addr)),cellsFrom n names acc=cellsFrom n names []++acc
  | [],_,_=>rfl
  | (name,kind)::r,n,acc=>by
    unfold cellsFrom
    split
    · rw [z1j r (n+1) ((name,n)::acc),z1j r (n+1) [(name,n)],List.append_assoc]
      rfl
    · exact z1j r n acc
theorem z8e {x:Str} {c:Addr}:∀ (names:List (Str×NameKind)) (n:Nat) (acc:List (Str×Addr)),(x,c)∈cellsFrom n names acc→(x,NameKind.cell)∈names∨(x,c)∈acc
  | [],_,_,h=>.inr h
  | (name,kind)::r,n,acc,h=>by
    unfold cellsFrom at h
    split at h
    · rename_i hk
      have hk':kind=.cell:=by simpa using hk
      rcases z8e r (n+1) _ h with z | z
      · exact .inl (List.mem_cons_of_mem _ z)
      · rcases List.mem_cons.mp z with z | z
        · cases z;rw [hk'];exact .inl List.mem_cons_self
        · exact .inr z
    · rcases z8e r n acc h with z | z
      · exact .inl (List.mem_cons_of_mem _ z)
      · exact .inr z
structure CompScope (X:Cx) (N' own:List Str) (cap:List (Str×Nat)) (scope:Scope):Prop where
  kind:scope.kind=.function
  own1:∀ y∈scope.names,y.2=.cell→scope.names.lookup y.1=some .cell
  free1:∀ y∈scope.names,y.2=.free→scope.names.lookup y.1=some .free
  names:∀ y∈scope.names,y.2=.local→scope.names.lookup y.1=some .local
  free:∀ y∈scope.names,y.2=.free→X.env.kindOf y.1=some .cell∨X.env.kindOf y.1=some .free
  eq:N'=own++cap.map (·.1)
  cap:∀ p∈cap,X.N[p.2]?=some p.1∧scope.names.lookup p.1=some .free∧(X.env.kindOf p.1=some .cell∨X.env.kindOf p.1=some .free)
noncomputable def z71 (own:List Str) (cap:List (Str×Nat)) (σ:St):St:=own.map (fun _=>none)++cap.map fun p=>(σ[p.2]?).join
section
variable {X:Cx} {pins:List (Addr×Obj)} {σ:St} {H:Hp} {s:Shared} {N' own:List Str} {cap:List (Str×Nat)} {scope:Scope} {cl:List (Str×Addr)} {fp:List Addr}
structure CellsAre (X:Cx) (scope:Scope) (C:Addr) (cl cs:List (Str×Addr)):Prop where
  old:∀ y c,cs.lookup y=some c→(cl.lookup y=some c∧scope.names.lookup y≠some .cell)∨(C<c∧scope.names.lookup y=some .cell)
  free:∀ y c,cl.lookup y=some c→scope.names.lookup y≠some .cell→cs.lookup y=some c
  has:∀ y,scope.names.lookup y=some .cell→∃ c,cs.lookup y=some c
  inj:∀ x y c,C<c→cs.lookup x=some c→cs.lookup y=some c→x=y
theorem z3b {α:Type} {x:Str}:∀ {l r:List (Str×α)},(l++r).lookup x=(l.lookup x).or (r.lookup x)
  | [],r=>by simp
  | (k,v)::l,r=>by
    have ih:=@z3b α x l r
    rw [List.cons_append,List.lookup_cons,List.lookup_cons]
    cases x==k with
    | true=>rfl
    | false=>exact ih
theorem zie {h:Heap} {C:Addr} (hC:h.objs.size=C+1) (S:CompScope X N' own cap scope) (hcl:∀ y c,cl.lookup y=some c→¬ C<c):CellsAre X scope C cl (cellsFrom (C+1) scope.names cl):=by
  have ok:=cellsFrom_ok scope.names h (C+1) [] ⟨fun _ _ hm=>(nomatch hm),List.Pairwise.nil⟩ (by rw [hC];exact Nat.le_refl _)
  rw [hC] at ok
  have own:∀ y c,(cellsFrom (C+1) scope.names []).lookup y=some c→C<c∧scope.names.lookup y=some .cell:=fun y c e=>by
    have m:=PySem.mem_of_lookup e
    refine ⟨(ok.empty y c m).2,?_⟩
    rcases z8e _ _ _ m with z | z
    · exact S.own1 _ z rfl
    · simp at z
  have no:∀ y,scope.names.lookup y≠some .cell→(cellsFrom (C+1) scope.names []).lookup y=none:=fun y hy=>by
    cases e:(cellsFrom (C+1) scope.names []).lookup y with
    | none=>rfl
    | some c=>exact absurd (own y c e).2 hy
  have has:∀ y,scope.names.lookup y=some .cell→∃ c,(cellsFrom (C+1) scope.names []).lookup y=some c:=fun y hy=>Option.isSome_iff_exists.mp (PySem.W.cellsFrom_some scope.names (C+1) [] (.inl hy))
  refine ⟨fun y c e=>?_,fun y c e hy=>?_,fun y hy=>?_,fun x y c hc e1 e2=>?_⟩
  · rw [z1j,z3b] at e
    cases q:(cellsFrom (C+1) scope.names []).lookup y with
    | none =>
      rw [q] at e
      refine .inl ⟨e,fun z=>?_⟩
      obtain ⟨c',e'⟩:=has y z
      rw [q] at e';cases e'
    | some c' =>
      rw [q] at e
      have:c'=c:=Option.some.inj e
      subst this
      exact .inr (own y c' q)
  · rw [z1j,z3b,no y hy]
    exact e
  · obtain ⟨c,e⟩:=has y hy
    exact ⟨c,by rw [z1j,z3b,e];rfl⟩
  · have zss:∀ z,(cellsFrom (C+1) scope.names cl).lookup z=some c→(z,c)∈cellsFrom (C+1) scope.names []:=fun z e=>by
      rw [z1j,z3b] at e
      cases q:(cellsFrom (C+1) scope.names []).lookup z with
      | none=>rw [q] at e;exact absurd hc (hcl z c e)
      | some c' =>
        rw [q] at e
        have:c'=c:=Option.some.inj e
        subst this
        exact PySem.mem_of_lookup q
    exact PySem.name_of_addr ok.apart (zss x e1) (zss y e2)
theorem zo6 (I:Inv X pins σ H s) (S:CompScope X N' own cap scope) {cs:List (Str×Addr)} (A:CellsAre X scope s.heap.objs.size cl cs) (c1:∀ y c,cl.lookup y=some c→X.env.cells.lookup y=some c) (c2:∀ y,(y,NameKind.free)∈scope.names→∃ c,cl.lookup y=some c)
    (hf:∀ b∈fp,zce X pins H b) (hlt:∀ b∈fp,b<s.heap.objs.size):(z1i X N' scope cs s.heap.objs.size s H fp).Ok where
  mod:=I.ok.mod
  kind:=S.kind
  glob:=I.ok.glob
  blt:=I.ok.blt
  above:=Nat.le_refl _
  inj:=fun x y c h1 h2=>by
    rcases A.old x c h1 with ⟨a1,_⟩ | ⟨a1,_⟩
    · rcases A.old y c h2 with ⟨b1,_⟩ | ⟨b1,_⟩
      · exact I.ok.inj x y c (c1 x c a1) (c1 y c b1)
      · obtain ⟨v,o,ho,_⟩:=I.cell x c (c1 x c a1)
        exact absurd (Nat.lt_trans b1 (Heap.lt_size ho)) (Nat.lt_irrefl _)
    · exact A.inj x y c a1 h1 h2
  has:=fun x h=>by
    rcases z74 h with z | z
    · obtain ⟨c,e⟩:=c2 x (PySem.mem_of_lookup z)
      exact ⟨c,A.free x c e (by rw [z];simp)⟩
    · exact A.has x z
  cab:=fun x c h e=>by
    have h':scope.names.lookup x=some .cell:=by
      have:(scope.names.lookup x==some NameKind.cell)=true:=h
      simpa using this
    rcases A.old x c e with ⟨_,z⟩ | ⟨z,_⟩
    · exact absurd h' z
    · exact Nat.le_of_lt z
  hd:=I.ok.hd
  frames:=I.ok.frames
  stk:=.inl rfl
  exf:=fun b hb=>⟨Nat.ne_of_lt (hlt b hb),fun x c h=>by
    rcases A.old x c h with ⟨z,_⟩ | ⟨z,_⟩
    · exact (hf b hb).2.2.2.2.1 x c (c1 x c z)
    · exact fun e=>absurd (Nat.lt_trans (e ▸ z) (hlt b hb)) (Nat.lt_irrefl _)⟩
  bs:=I.bs
  bsz:=Nat.le_trans I.ok.bsz I.sz
  noex:=fun b o e hb=>by
    rcases (hf b hb).2.2.2.1 with z | z
    · exact I.ok.noex b o e z
    · exact absurd (Nat.lt_of_lt_of_le (Heap.lt_size e) (Nat.le_trans I.ok.bsz z)) (Nat.lt_irrefl _)
  exfs:=fun b hb z=>by
    rcases List.mem_cons.mp (I.stkSub b z) with q | q
    · exact (hf b hb).2.1 q
    · exact (hf b hb).2.2.1 q
  funs:=I.stack
  frf:=I.stkFree
theorem comp_inv {h':Heap} {t':Nat} {cs:List (Str×Addr)} (I:Inv X pins σ H s) (S:CompScope X N' own cap scope) (A:CellsAre X scope s.heap.objs.size cl cs) (hA:∀ y c,cs.lookup y=some c→s.heap.objs.size<c→h'.IsCell c none)
    (c1:∀ y c,cl.lookup y=some c→X.env.cells.lookup y=some c) (c2:∀ y,(y,NameKind.free)∈scope.names→∃ c,cl.lookup y=some c)
    (hf:∀ b∈fp,zce X pins H b) (hlt:∀ b∈fp,b<s.heap.objs.size) (hk:∀ b o,s.heap.get? b=some o→h'.get? b=some o) {m:Str→Option Value} (hn:h'.Ns s.heap.objs.size m) :
    Inv (z1i X N' scope cs s.heap.objs.size s H fp) [] (z71 own cap σ) H { s with heap:=h',toks:=t' }:=by
  refine ⟨zo6 I S A c1 c2 hf hlt,rfl,I.bare,Un.kept hk,⟨m,hn,fun i x v h1 h2 h3=>?_⟩,fun x c e=>?_,I.hok.fresh (Nat.le_refl _),fun x c e=>?_,fun p hp=>absurd hp (by show p∉([]++[]:List (Addr×Obj));simp),?_,?_⟩
  · have hi:own.length≤i:=by
      by_cases hi:own.length≤i
      · exact hi
      · unfold z71 at h2
        rw [List.getElem?_append_left (by rw [List.length_map];omega),List.getElem?_map] at h2
        cases e:own[i]? with
        | none=>rw [e] at h2;cases h2
        | some a=>rw [e] at h2;cases h2
    have h1':(own++cap.map (·.1))[i]?=some x:=by rw [← S.eq];exact h1
    rw [List.getElem?_append_right hi,List.getElem?_map] at h1'
    unfold z71 at h2
    rw [List.getElem?_append_right (by rw [List.length_map];exact hi),List.length_map,List.getElem?_map] at h2
    cases e:cap[i - own.length]? with
    | none=>rw [e] at h2;cases h2
    | some p =>
      rw [e] at h1' h2
      have ex:p.1=x:=Option.some.inj h1'
      have ev:(σ[p.2]?).join=some v:=Option.some.inj h2
      have ev':σ[p.2]?=some (some v):=by
        cases q:σ[p.2]? with
        | none=>rw [q] at ev;cases ev
        | some z=>rw [q] at ev;exact congrArg some ev
      refine bq fun bG=>?_
      obtain ⟨k1,k2,k3⟩:=S.cap p (List.mem_of_getElem? e)
      subst ex
      obtain ⟨m0,hn0,hl⟩:=I.loc
      obtain ⟨u,ru,lk⟩:=hl p.2 p.1 v k1 ev' (by rcases k3 with z | z;exact .inr (.inl z);exact .inr (.inr z))
      refine bG (⟨u,ru,?_⟩)
      rcases lk with ⟨z,_⟩ | ⟨_,c,hc,hcell⟩
      · rcases k3 with q | q <;> (rw [z] at q;cases q)
      · refine .inr ⟨?_,c,?_,?_⟩
        · rcases z60 (env:=X.env) k2 with q | q
          · exact .inr q
          · exact .inl q
        · obtain ⟨c',e'⟩:=c2 p.1 (PySem.mem_of_lookup k2)
          have:=c1 _ _ e'
          rw [hc] at this
          cases this
          exact A.free _ _ e' (by rw [k2];simp)
        · obtain ⟨o,ho,hd⟩:=hcell
          exact ⟨o,hk _ _ ho,hd⟩
  · rcases A.old x c e with ⟨z,_⟩ | ⟨z,_⟩
    · obtain ⟨v,o,ho,hd⟩:=I.cell x c (c1 x c z)
      exact ⟨v,o,hk _ _ ho,hd⟩
    · exact ⟨none,hA x c e z⟩
  · rcases A.old x c e with ⟨z,_⟩ | ⟨z,_⟩
    · exact I.freeC x c (c1 x c z)
    · exact I.hok.fresh (Nat.le_of_lt z)
  · exact I.hok.kept hk
  · show (z71 own cap σ).length=N'.length
    rw [S.eq]
    unfold z71
    simp
end
noncomputable def PIf (X:Cx) (ifs:List Expr) (t:TT):Prop :=
  ∀ (pins:List (Addr×Obj)) (s:Shared) (σ:St) (H:Hp) (Q:Bool→Hp→Prop),Inv X pins σ H s→t σ H Q →
    wpAny (model X.prog X.w) X.A (forIn ifs true fun c r=>if r=true then do let ok ← isTrue c X.env (eval c X.env);pure (ForInStep.yield ok) else pure (ForInStep.yield r)) (TP X pins σ Q) X.xe s
def zuh:TT:=fun _ H Q=>Q true H
theorem zn8 {X:Cx}:PIf X [] zuh:=fun _ _ _ H _ I h=>wpAny_tests_nil ⟨H,I,h⟩
theorem zn7 {X:Cx} {c:Expr} {t:TT} (h:PT X c t):PIf X [c] t:=fun pins s σ H Q I hw=>wpAny_tests_one (h pins s σ H Q I hw)
theorem zan {M:Model} {A:Around} {E:Value→Shared→Prop} {s:Shared} {scope:Scope} {globals:Addr} {cl:List (Str×Addr)} {qual:Str} {env:Env} {Q:Env→Shared→Prop}
    (hQ:∀ h',h'.Ns s.heap.objs.size (fun _=>none)→(∀ b o,s.heap.get? b=some o→h'.get? b=some o)→(∀ n c,(n,c)∈cellsFrom (s.heap.objs.size+1) scope.names []→h'.IsCell c none) →
      Q (newEnv scope s.heap.objs.size globals (cellsFrom (s.heap.objs.size+1) scope.names cl) qual none .none (some env) builtinsNs) { s with heap:=h' }) :
    wpAny M A (newFunctionEnv scope globals cl [] qual none .none (some env)) Q E s:=by
  simp only [newFunctionEnv,Option.isSome_some,if_true]
  refine wpAny_bind (wpAny_alloc ?_)
  refine wpAny_bind (wpAny_layCells _ (fun name kind cells=>by cases hkc:kind==NameKind.cell <;> simp [hkc]) _ _ _ _ ?_)
  have ok:=cellsFrom_ok scope.names (s.heap.push { cls:=.type "dict",data:=.dict #[] }) (s.heap.objs.size+1) [] ⟨fun _ _ hm=>(nomatch hm),List.Pairwise.nil⟩ (by rw [Heap.size_push];exact Nat.le_refl _)
  rw [Heap.size_push] at ok
  rw [show ({ s with heap:=s.heap.push { cls:=.type "dict",data:=.dict #[] } }:Shared).heap.objs.size=s.heap.objs.size+1 from Heap.size_push ..]
  rw [List.forIn_nil]
  refine wpAny_bind (wpAny_pure (wpAny_pure ?_))
  exact hQ _ ((Heap.Ns.new s.heap (.type "dict")).keeps (pushCells_keeps _ _)) (fun b o e=>pushCells_keeps _ _ b o (Heap.get?_push_of_some _ e)) fun n c hm=>(ok.empty n c hm).1
noncomputable def z4z (J:It) (g:TG) (tc:TT) (te:TE) (D:Addr) (σ0:St) (H0:Hp) (Z:Hp→Prop):Prop :=
  ∃ W:Nat→Nat→St→Hp→Prop,(∃ m,W 0 m σ0 (upd H0 D (.lst [])))∧∀ i m σ H,W i m σ H →
    (J.stop i H∧Z H)∨(J.go i H∧∃ N:St→Hp→Prop,(∀ σ' H',N σ' H'→∃ m',m'<m∧W (i+1) m' σ' H')∧∀ x H',J.yld i H x H'→g x σ H' fun σ2 H2=>tc σ2 H2 fun b H3 =>
      if b=true then te σ2 H3 fun v H4=>∃ ys,H4 D=some (.lst ys)∧ys.length<sizeLine∧N σ2 (upd H4 D (.lst (ys++[v]))) else N σ2 H3)
section
variable {X:Cx} {pins:List (Addr×Obj)} {σ:St} {N' own:List Str} {cap:List (Str×Nat)} {scope:Scope} {tg iter elt:Expr} {ifs:List Expr} {pos:Pos} {g:TG} {tc:TT} {te:TE}
theorem zia {Y:Cx} {s:Shared} {σ0:St} {H2:Hp} {it D:Addr} {fp:List Addr} {tn:Nat→Heap→Prop} {J:It} {Z:Hp→Prop} {R:Result→Shared→Prop}
    (hx:∀ e s,Y.xe e s→False) (hc:Y.calm=true) (hg:PG Y tg g) (ht:PIf Y ifs tc) (he:PE Y elt te)
    (T:Turn Y.prog Y.w Y.K tg J fp it tn) (J0:Inv Y [] σ0 (upd H2 D (.lst [])) s) (st3:tn 0 s.heap) (f3:∀ b∈fp,upd H2 D (.lst []) b=none)
    (stat:∀ {H':Hp},(∀ b∈fp,H' b=none)→∀ b∈fp,zce Y [] H' b) (h:z4z J g tc te D σ0 H2 Z)
    (hR:∀ σ4 H4 s5,Inv Y [] σ4 H4 s5→Z H4→R (.ok .next) s5) :
    codeAny (model Y.prog Y.w) Y.A (.compLoop (.ListComp elt [⟨tg,iter,ifs,0⟩] scope pos) 0 (.ref it) (.ref D) Y.env) R s:=by
  obtain ⟨W,⟨m0,w0⟩,turn⟩:=h
  have noX:∀ {α:Type} {t:Sem α} {Q:α→Shared→Prop} {s:Shared},wpAny (model Y.prog Y.w) Y.A t Q Y.xe s→wpAny (model Y.prog Y.w) Y.A t Q (fun _ _=>False) s:=fun q=>wpAny_mono q (fun _ _ z=>z) fun e s z=>hx e s z
  obtain ⟨P,hP⟩:∃ P:Nat→Shared→Prop,∀ n s',P n s'↔∃ i σ' H',Inv Y [] σ' H' s'∧tn i s'.heap∧(∀ b∈fp,H' b=none)∧W i n σ' H':=⟨_,fun _ _=>Iff.rfl⟩
  refine zc0 P ?_ m0 ((hP _ _).2 ⟨0,_,_,J0,st3,f3,w0⟩)
  rintro n s4 h4
  obtain ⟨i,σ4,H4,I4,st4,fr4,w4⟩:=(hP _ _).1 h4
  rcases turn i n σ4 H4 w4 with ⟨stop,qz⟩ | ⟨go,N,hN,step⟩
  · refine wpAny_mono (T.done Y rfl rfl rfl hc i [] s4 σ4 H4 (fun _ _=>False) I4 (stat fr4) st4 stop) (fun r s5 ⟨hr,I5⟩=>?_) fun _ _ z=>z
    subst hr
    exact hR σ4 H4 s5 I5 qz
  · refine wpAny_mono (T.item Y rfl rfl rfl hc i [] s4 σ4 H4 (fun _ _=>False) I4 (stat fr4) st4 go) (fun r s5 ⟨u,hr,h5⟩=>?_) fun _ _ z=>z
    subst hr
    refine wpAny_mono h5 (fun _ s6 hm=>?_) fun _ _ z=>z
    obtain ⟨x,H6,I6,r6,y6,st6,fr6⟩:=hm
    have I6':=I6.pinned (stat fr6) (T.obj _ _ st6)
    have again:∀ {σ7:St} {H7:Hp} {s7:Shared},Inv Y ([]++zbj fp s6.heap) σ7 H7 s7→N σ7 H7→∃ m,m<n∧P m s7:=fun {σ7 H7 s7} I7 n7=>by
      refine bq fun bG=>?_
      obtain ⟨m',hm,w7⟩:=hN σ7 H7 n7
      refine bG (⟨m',hm,(hP _ _).2 ⟨i+1,σ7,H7,I7.unpinned,T.keep _ _ _ st6 fun b hb o e=>(I7.pin (b,o) (List.mem_append_right _ (List.mem_append_right _ (z5q hb e)))).1,fun b hb=>?_,w7⟩⟩)
      refine bq fun bG=>?_
      obtain ⟨o,e,d⟩:=T.obj _ _ st6 b hb
      exact bG ((I7.pin (b,o) (List.mem_append_right _ (List.mem_append_right _ (z5q hb e)))).2.1)
    refine noX (thn (hg _ s6 σ4 H6 x u _ I6' r6 (step x H6 y6)) fun _ s7 hm=>?_)
    refine bq fun bG=>?_
    obtain ⟨σ7,H7,I7,q7⟩:=hm
    refine bG (noX (thn (ht _ s7 σ7 H7 _ I7 q7) fun b s8 hm=>?_))
    obtain ⟨H8,I8,q8⟩:=hm
    cases b with
    | false =>
      show ∃ m,_
      exact again I8 q8
    | true =>
      show wpAny _ _ _ _ _ _
      refine noX (thn (he _ s8 σ7 H8 _ I8 q8) fun y s9 hm=>?_)
      refine bq fun bG=>?_
      obtain ⟨v,H9,I9,r9,ys,hy,hz,q9⟩:=hm
      refine bG (noX (thn (zbo (X:=Y) _ s9 σ7 H9 (.ref D) [v] (.ref D) [y] (fun _ H'=>N σ7 H') I9 rfl (.cons r9 .nil) ⟨_,ys,v,rfl,rfl,hy,hz,q9⟩) fun _ s10 hm=>?_))
      refine bq fun bG=>?_
      obtain ⟨_,H10,I10,_,q10⟩:=hm
      exact bG (again I10 q10)
theorem zbz {s2:Shared} {H2:Hp} {it:Addr} {fp:List Addr} {tn:Nat→Heap→Prop} {J:It} {cl:List (Str×Addr)} {Z:Addr→Hp→Prop} {RR:Value→Addr→Result→Shared→Prop} {E:Value→Shared→Prop}
    (hx:∀ e s,X.xe e s→False) (hc:X.calm=true) (S:CompScope X N' own cap scope)
    (hg:∀ cl C s₀ H₀ ex,PG (z1i X N' scope cl C s₀ H₀ ex) tg g) (ht:∀ cl C s₀ H₀ ex,PIf (z1i X N' scope cl C s₀ H₀ ex) ifs tc) (he:∀ cl C s₀ H₀ ex,PE (z1i X N' scope cl C s₀ H₀ ex) elt te)
    (I2:Inv X pins σ H2 s2) (T:Turn X.prog X.w X.K tg J fp it tn) (st2:tn 0 s2.heap) (f2:∀ b∈fp,zce X pins H2 b)
    (c1:∀ y c,cl.lookup y=some c→X.env.cells.lookup y=some c) (c2:∀ y,(y,NameKind.free)∈scope.names→∃ c,cl.lookup y=some c)
    (h:∀ D,H2 D=none→z4z J g tc te D (z71 own cap σ) H2 (Z D))
    (hRR:∀ D C s' m' H',Inv X pins σ H' s'→s'.heap.Ns C m'→zce X pins H' C→Z D H'→RR (.ref D) C (.ok .next) s') :
    wpAny (model X.prog X.w) X.A (newList []) (fun acc s₃=>wpAny (model X.prog X.w) X.A (newFunctionEnv scope X.env.globals cl [] X.env.qual none .none (some X.env)) (fun cenv s₄ =>
      codeAny (model X.prog X.w) X.A (.compStart (.ListComp elt [⟨tg,iter,ifs,0⟩] scope pos) 0 (.ref it) acc { cenv with scope:=relabel scope X.env }) (RR acc cenv.locals) s₄) E s₃) E s2:=by
  have hlt:∀ b∈fp,b<s2.heap.objs.size:=fun b hb=>by
    refine bq fun bG=>?_
    obtain ⟨o,e,_⟩:=T.obj _ _ st2 b hb
    exact bG (Heap.lt_size e)
  have hD:H2 s2.heap.objs.size=none:=I2.hok.fresh (Nat.le_refl _)
  refine wpAny_newObj_type (zan (fun h₁ hns₁ hk₁ hce₁=>?_))
  dsimp only at hns₁ hk₁ hce₁ ⊢
  have I3:Inv X pins σ (upd H2 s2.heap.objs.size (.lst [])) { s2 with heap:=s2.heap.push { cls:=.type "list",dict:=none,data:=.seq ([]:List Value).toArray },toks:=s2.toks } :=
    I2.laid (fun b o e=>Heap.get?_push_of_some _ e) (Nat.le_refl _) ⟨Nat.zero_le _,[],0,.nil,Heap.get?_push_size _ rfl⟩
  generalize hs3:({ s2 with heap:=s2.heap.push { cls:=.type "list",dict:=none,data:=.seq ([]:List Value).toArray },toks:=s2.toks }:Shared)=s3 at I3
  have e3:s2.heap.push { cls:=.type "list",dict:=none,data:=.seq ([]:List Value).toArray }=s3.heap:=by rw [← hs3]
  have hsz:s3.heap.objs.size=s2.heap.objs.size+1:=by rw [← e3,Heap.size_push]
  rw [e3] at hns₁ hk₁ hce₁ ⊢
  have hk:=hk₁
  have hcl:∀ y c,cl.lookup y=some c→¬ s3.heap.objs.size<c:=fun y c e z=>by
    refine bq fun bG=>?_
    obtain ⟨v,o,ho,_⟩:=I3.cell y c (c1 y c e)
    exact bG (Nat.lt_irrefl _ (Nat.lt_trans z (Heap.lt_size ho)))
  have CA:CellsAre X scope s3.heap.objs.size cl (cellsFrom (s3.heap.objs.size+1) scope.names cl):=zie (h:=s3.heap.push { cls:=.type "dict",data:=.dict #[] }) (by rw [Heap.size_push]) S hcl
  have hcell:∀ y c,(cellsFrom (s3.heap.objs.size+1) scope.names cl).lookup y=some c→s3.heap.objs.size<c→h₁.IsCell c none:=fun y c e z=>by
    rw [z1j,z3b] at e
    cases q:(cellsFrom (s3.heap.objs.size+1) scope.names []).lookup y with
    | none=>rw [q] at e;exact absurd z (hcl y c e)
    | some c' =>
      rw [q] at e
      have:c'=c:=Option.some.inj e
      subst this
      exact hce₁ y c' (PySem.mem_of_lookup q)
  generalize hcs:cellsFrom (s3.heap.objs.size+1) scope.names cl=cs at CA hcell ⊢
  have f3:∀ b∈fp,zce X pins (upd H2 s2.heap.objs.size (.lst [])) b:=fun b hb=>⟨by rw [z09 (Nat.ne_of_lt (hlt b hb))];exact (f2 b hb).1,(f2 b hb).2⟩
  have hlt3:∀ b∈fp,b<s3.heap.objs.size:=fun b hb=>by rw [hsz];exact Nat.lt_succ_of_lt (hlt b hb)
  have st3:tn 0 h₁:=T.keep _ _ _ st2 fun b hb o e=>hk b o (by rw [← e3];exact Heap.get?_push_of_some _ e)
  have J0:Inv (z1i X N' scope cs s3.heap.objs.size s3 (upd H2 s2.heap.objs.size (.lst [])) fp) [] (z71 own cap σ) (upd H2 s2.heap.objs.size (.lst [])) { s3 with heap:=h₁,toks:=s2.toks } :=
    comp_inv I3 S CA hcell c1 c2 f3 hlt3 hk hns₁
  have stat:∀ {pl:List (Addr×Obj)} {H':Hp},pl=[]→(∀ b∈fp,H' b=none)→∀ b∈fp,zce (z1i X N' scope cs s3.heap.objs.size s3 (upd H2 s2.heap.objs.size (.lst [])) fp) pl H' b:=fun {pl H'} hp hn b hb=>by
    subst hp
    refine ⟨hn b hb,Nat.ne_of_lt (hlt3 b hb),J0.ok.exfs b hb,.inl hb,fun x c e=>J0.ok.exf b hb |>.2 x c e,fun p hp=>absurd hp (by show p∉([]++[]:List (Addr×Obj));simp)⟩
  have loop:codeAny (model X.prog X.w) X.A (.compLoop (.ListComp elt [⟨tg,iter,ifs,0⟩] scope pos) 0 (.ref it) (.ref s2.heap.objs.size) (compEnvC scope cs s3.heap.objs.size X.env)) (RR (.ref s2.heap.objs.size) s3.heap.objs.size)
      { s3 with heap:=h₁,toks:=s2.toks }:=zia (Y:=z1i X N' scope cs s3.heap.objs.size s3 (upd H2 s2.heap.objs.size (.lst [])) fp) hx hc (hg _ _ _ _ _) (ht _ _ _ _ _) (he _ _ _ _ _) T J0 st3 (fun b hb=>(f3 b hb).1) (stat rfl) (h _ hD) fun σ4 H4 s5 I5 qz=>by
    have I6:Inv X pins σ H4 s5:=I3.call' (ch:=fp) I5.os I5.base I5.hok I5.bare fun b hb=>⟨(f3 b hb).2.2.2.1,(f3 b hb).2.1,(f3 b hb).2.2.2.2.1,(f3 b hb).2.2.2.2.2⟩
    refine bq fun bG=>?_
    obtain ⟨m',hn',_⟩:=I5.loc
    exact bG (hRR _ _ s5 m' H4 I6 hn' (I3.fpOk (Nat.le_refl _) I5.free) qz)
  have lp:codeAny (model X.prog X.w) X.A (.compStart (.ListComp elt [⟨tg,iter,ifs,0⟩] scope pos) 0 (.ref it) (.ref s2.heap.objs.size) (compEnvC scope cs s3.heap.objs.size X.env)) (RR (.ref s2.heap.objs.size) s3.heap.objs.size)
      { s3 with heap:=h₁,toks:=s2.toks }:=codeAny_compStart_list loop (T.self _ 0 _ _ _ st3 loop)
  subst hs3
  exact lp
end
def zsh (own:List Str) (cap:List (Str×Nat)) (wi:TI) (g:TG) (tc:TT) (te:TE):TE:=fun σ H Q=>wi σ H fun J H1=>∀ D,H1 D=none→z4z J g tc te D (z71 own cap σ) H1 (Q (.ref D))
def zjh (i:Nat) (own:List Str) (cap:List (Str×Nat)) (wi:TI) (g:TG) (tc:TT) (te:TE):TS:=fun D σ H=>wi σ H fun J H1=>∀ p,H1 p=none→z4z J g tc te p (z71 own cap σ) H1 (fun H2=>D.nx (σ.set i (some (.ref p))) H2)
section
variable {X:Cx} {N' own:List Str} {cap:List (Str×Nat)} {scope:Scope} {tg iter elt:Expr} {ifs:List Expr} {pos:Pos} {wi:TI} {g:TG} {tc:TT} {te:TE}
theorem Inv.letgo {pins:List (Addr×Obj)} {σ:St} {H:Hp} {s:Shared} {h':Heap} {C:Addr} (I:Inv X pins σ H s) (f:zce X pins H C) (hs:Heap.SameBut C s.heap h'):Inv X pins σ H { s with heap:=h' } :=
  I.turned (t':=s.toks) (it:=C) (fun b o hb e=>(hs.2 b hb).trans e) f.1 f.2.1 f.2.2.2.1 f.2.2.2.2.1 f.2.2.2.2.2
theorem zh5 (S:CompScope X N' own cap scope) (hi:PI X tg iter wi)
    (hg:∀ cl C s₀ H₀ ex,PG (z1i X N' scope cl C s₀ H₀ ex) tg g) (ht:∀ cl C s₀ H₀ ex,PIf (z1i X N' scope cl C s₀ H₀ ex) ifs tc) (he:∀ cl C s₀ H₀ ex,PE (z1i X N' scope cl C s₀ H₀ ex) elt te)
    (hx:∀ e s,X.xe e s→False:=by exact fun _ _ z=>z) (hc:X.calm=true:=by rfl) (hs:∀ x,foldedSetIterable iter X.env x=pure x:=by intro _;rfl) :
    PE X (.ListComp elt [⟨tg,iter,ifs,0⟩] scope pos) (zsh own cap wi g tc te):=by
  intro pins s σ H Q I h
  rw [eval_ListComp]
  refine bq fun bG=>?_
  obtain ⟨cl,hcl,c1,c2⟩:=z77 (scope:=scope) (env:=X.env) fun y hy hk=>I.ok.has y.1 (S.free y hy hk)
  refine bG (wpAny_comprehension_free (use:=none) rfl hs hcl S.kind S.names (thn (hi pins s σ H _ I h) fun v s1 h1=>thn h1 fun itv s2 h2=>?_))
  refine bq fun bG=>?_
  obtain ⟨it,fp,tn,J,H2,e,I2,T,st2,f2,q⟩:=h2
  subst e
  refine bG (zbz (RR:=fun acc C=>compPost (model X.prog X.w) X.A X.xe none (EP X pins σ Q) acc C) (Z:=fun D=>Q (.ref D)) hx hc S hg ht he I2 T st2 f2 c1 c2 q ?_)
  intro D C s' m' H' I' hn' f' z
  exact ⟨m',hn',fun h'' hs''=>⟨.ref D,H',I'.letgo f' hs'',rfl,z⟩⟩
theorem zf4 {i:Nat} {y:Str} {py spos:Pos} (hN:X.N.Nodup) (hi':X.N[i]?=some y) (hy:X.env.scope.names.lookup y=some .local) (S:CompScope X N' own cap scope) (hi:PI X tg iter wi)
    (hg:∀ cl C s₀ H₀ ex,PG (z1i X N' scope cl C s₀ H₀ ex) tg g) (ht:∀ cl C s₀ H₀ ex,PIf (z1i X N' scope cl C s₀ H₀ ex) ifs tc) (he:∀ cl C s₀ H₀ ex,PE (z1i X N' scope cl C s₀ H₀ ex) elt te)
    (hsw:swapsWith (.ListComp elt [⟨tg,iter,ifs,0⟩] scope pos) (some (.Name y py)) spos.line X.env=pure true:=by rfl)
    (hx:∀ e s,X.xe e s→False:=by exact fun _ _ z=>z) (hc:X.calm=true:=by rfl) (hs:∀ x,foldedSetIterable iter X.env x=pure x:=by intro _;rfl) :
    PS X (.Assign [.Name y py] (.ListComp elt [⟨tg,iter,ifs,0⟩] scope pos) spos) (zjh i own cap wi g tc te):=by
  intro pins s σ H D I h
  obtain ⟨cl,hcl,c1,c2⟩:=z77 (scope:=scope) (env:=X.env) fun y hy hk=>I.ok.has y.1 (S.free y hy hk)
  rw [exec_Assign_Name_used _ _ _ _ hsw]
  refine wpAny_bind (wpAny_standAt (wpAny_bind ?_))
  show wpAny _ _ (do let _ ← comprehension (.ListComp elt [⟨tg,iter,ifs,0⟩] scope pos) scope X.env _ (newList []) false (eval iter X.env) (some (assign (.Name y py) X.env))) _ _ s
  refine wpAny_bind (wpAny_mono (wpAny_comprehension_free (use:=some (assign (.Name y py) X.env)) (Q:=fun _ s'=>SP X pins D .next s') rfl hs hcl S.kind S.names
    (thn (hi pins s σ H _ I h) fun v s1 h1=>thn h1 fun itv s2 h2=>?_)) (fun _ s' hq=>wpAny_pure (wpAny_pure hq)) fun _ _ e=>e)
  refine bq fun bG=>?_
  obtain ⟨it,fp,tn,J,H2,e,I2,T,st2,f2,q⟩:=h2
  subst e
  refine bG (zbz (RR:=fun acc C=>compPost (model X.prog X.w) X.A X.xe (some (assign (.Name y py) X.env)) (fun _ s'=>SP X pins D .next s') acc C) (Z:=fun p H2=>D.nx (σ.set i (some (.ref p))) H2) hx hc S hg ht he I2 T st2 f2 c1 c2 q ?_)
  intro p C s' m' H' I' hn' f' z
  show wpAny _ _ (assign (.Name y py) X.env (.ref p)) _ _ _
  refine wpAny_assign_Name (zbb I' hN hi' (.inl hy) (v:=.ref p) rfl (fun s'' I'' hm=>?_) (.inr hy))
  obtain ⟨a,hsb,ha⟩:=hm
  have hCa:C≠a:=by
    rcases ha with z | z
    · rw [z];exact f'.2.1
    · exact fun e=>f'.2.2.2.2.1 y a z e.symm
  refine ⟨m',hn'.sameBut hsb hCa,fun h3 hs3=>?_⟩
  exact ⟨_,H',I''.letgo f' hs3,z⟩
end
section
variable {K:PySem.W.Frag} {g:TG} {tc:TT} {te:TE} {D:Addr} {σ0:St} {H0:Hp} {Z:Hp→Prop}
end
section
variable {X:Cx} {pins:List (Addr×Obj)} {σ:St} {H:Hp} {s:Shared} {h':Heap} {ch:List Addr}
theorem Inv.turns {t':Nat} (I:Inv X pins σ H s) (hf:∀ b∈ch,zce X pins H b) (k:∀ b o,b∉ch→s.heap.get? b=some o→h'.get? b=some o):Inv X pins σ H { s with heap:=h',toks:=t' }:=by
  have nit:∀ b u,H b=some u→b∉ch:=fun b u e z=>by rw [(hf b z).1] at e;cases e
  refine I.step (g':=s.gens) (d':=s.drawn) (ch:=ch) (fun b hb=>?_) (fun b o _ _ hc e _=>k b o hc e) (fun b o _ _ hc e _=>⟨o.slots,k b o hc e⟩) (fun _ _ _ _ n=>n)
    (fun b o hc e=>⟨o,k b o hc e⟩) (fun _ _ e=>e) (fun _ _ _ e=>e) (fun b ps e=>⟨#[],by rw [e];simp⟩) (fun m hm=>?_) (fun b u e=>?_) I.bare
  · obtain ⟨f0,f1,f2,f3,f4,f5⟩:=hf b hb
    exact ⟨f3,f1,f4,f5⟩
  · obtain ⟨o,es,ep,ho,r⟩:=hm
    exact ⟨o,es,ep,k _ o (fun z=>(hf _ z).2.1 rfl) ho,r⟩
  · refine (I.hok b u e).stay (fun c v hc q=>k c v ?_ q) (fun _ q=>q) fun _ _ q=>q
    rcases hc with z | z
    · rw [z];exact nit b u e
    · exact nit c _ z
theorem Inv.turnLay {t':Nat} {T:Addr} {o:HO} (I:Inv X pins σ H s) (hf:∀ b∈ch,zce X pins H b) (k:∀ b o,b∉ch→s.heap.get? b=some o→h'.get? b=some o) (hT:s.heap.objs.size≤T)
    (new:ObjOk X.prog X.w (upd H T o) h' T o):Inv X pins σ (upd H T o) { s with heap:=h',toks:=t' }:=by
  have nit:∀ b u,H b=some u→b∉ch:=fun b u e z=>by rw [(hf b z).1] at e;cases e
  have hn:H T=none:=I.hok.fresh hT
  have ne:∀ b o,s.heap.get? b=some o→b≠T:=fun b o e=>Nat.ne_of_lt (Nat.lt_of_lt_of_le (Heap.lt_size e) hT)
  refine I.step (g':=s.gens) (d':=s.drawn) (ch:=ch) (fun b hb=>?_) (fun b o _ _ hc e _=>k b o hc e) (fun b o _ _ hc e _=>⟨o.slots,k b o hc e⟩) (fun b o _ e n=>by rw [z09 (ne b o e)];exact n)
    (fun b o hc e=>⟨o,k b o hc e⟩) (fun b xs e=>by rw [z09 (z0b e hn)];exact e) (fun b o u e=>by rw [z09 (z0b e hn)];exact e) (fun b ps e=>⟨#[],by rw [z09 (z0b e hn),e];simp⟩) (fun m hm=>?_) (fun b u e=>?_) I.bare
  · obtain ⟨f0,f1,f2,f3,f4,f5⟩:=hf b hb
    exact ⟨f3,f1,f4,f5⟩
  · obtain ⟨o,es,ep,ho,r⟩:=hm
    exact ⟨o,es,ep,k _ o (fun z=>(hf _ z).2.1 rfl) ho,r⟩
  · by_cases hb:b=T
    · subst hb;rw [z0i] at e;cases e;exact new
    · rw [z09 hb] at e
      refine (I.hok b u e).stay (fun c v hc q=>k c v ?_ q) (fun c q=>by rw [z09 (z0b q hn)];exact q) fun c xs q=>by rw [z09 (z0b q hn)];exact q
      rcases hc with z | z
      · rw [z];exact nit b u e
      · exact nit c _ z
end
noncomputable def Ite (K:PySem.W.Frag) (a:Addr):It :=
  ⟨fun i H=>∃ xs x,SqL K H a xs∧xs[i]?=some x,fun i H x H'=>∃ p v,x=.ref p∧H p=none∧H'=upd H p (.tup [.int (i:Nat),v])∧∀ xs,SqL K H a xs→xs[i]?=some v,fun i H=>∃ xs,SqL K H a xs∧xs.length≤i⟩
theorem zov:2≤sizeLine:=by rw [sizeLine_eq];decide
theorem zg7 {P:Program} {w:World} {K:PySem.W.Frag} {elts:List Expr} {k:Nat} {pos:Pos} (a e it:Addr) (hne:e≠it) :
    Turn P w K (.Tuple elts k pos) (Ite K a) [e,it] e (fun i h=>(∃ old,IsEnum h e it i old)∧h.IsListIter it a i) where
  mem:=by simp
  obj:=fun i h st b hb=>by
    obtain ⟨⟨old,he⟩,o,e2,c,d⟩:=st
    rcases List.mem_cons.mp hb with rfl | hb
    · exact ⟨_,he,fun v z=>by cases z⟩
    · rw [List.mem_singleton.mp hb]
      exact ⟨o,e2,fun v z=>by rw [d] at z;cases z⟩
  keep:=fun i h h' st kk=>⟨let ⟨old,he⟩:=st.1;⟨old,kk e (by simp) _ he⟩,st.2.at fun o q=>kk it (by simp) o q⟩
  item:=by
    intro X hP hw hK hc i pins s σ H E I hf st hg
    subst hP hw hK
    refine bq fun bG=>?_
    obtain ⟨xs,x,hq,hx⟩:=hg
    obtain ⟨its,rv,p,hz⟩:=I.list hq
    obtain ⟨u,hu,ru⟩:=rv.get hx
    obtain ⟨⟨old,he⟩,hit⟩:=st
    refine bG (wpAny_pyNext_enum_item he hit p.isList (x:=u) (by simpa using hu) hne fun h1 ho hit1 hT hsz hk=>?_)
    refine ⟨_,rfl,wpAny_letOwnedTupleGo_enum ho fun h2 he2 hs2=>?_⟩
    have hlt:e<s.heap.objs.size:=Heap.lt_size he
    replace hs2:Heap.SameBut e h1 h2:=hs2
    have hT2:h2.get? s.heap.objs.size=some { cls:=.type "tuple",data:=.seq #[.int i s.toks,u] }:=(hs2.2 _ (Nat.ne_of_gt hlt)).trans hT
    have hn:H s.heap.objs.size=none:=I.hok.fresh (Nat.le_refl _)
    have I2:Inv X pins σ (upd H s.heap.objs.size (.tup [.int (i:Nat),x])) { s with heap:=h2,toks:=s.toks+1 } :=
      I.turnLay (ch:=[e,it]) hf (fun b o hb q=>(hs2.2 b (fun z=>hb (by simp [z]))).trans (hk b o (fun z=>hb (by simp [z])) (fun z=>hb (by simp [z])) q)) (Nat.le_refl _)
        ⟨zov,[.int i s.toks,u],.cons ⟨_,rfl⟩ (.cons ru .nil),⟨_,hT2,rfl,_,rfl⟩⟩
    have hit2:h2.IsListIter it a (i+1):=hit1.at fun o q=>(hs2.2 it (Ne.symm hne)).trans q
    have f1:∀ b∈[e,it],(upd H s.heap.objs.size (.tup [.int (i:Nat),x])) b=none:=fun b hb=>by
      have hlb:b<s.heap.objs.size:=by
        rcases List.mem_cons.mp hb with rfl | hb
        · exact hlt
        · rw [List.mem_singleton.mp hb]
          refine bq fun bG=>?_
          obtain ⟨o,q,_⟩:=hit
          exact bG (Heap.lt_size q)
      rw [z09 (Nat.ne_of_lt hlb)]
      exact (hf b hb).1
    exact ⟨.ref s.heap.objs.size,_,I2,rfl,⟨_,x,rfl,hn,rfl,fun ys hy=>by rw [I.list_inj hy hq];exact hx⟩,⟨⟨u,by simpa using he2⟩,hit2⟩,f1⟩
  done:=by
    intro X hP hw hK hc i pins s σ H E I hf st hg
    subst hP hw hK
    obtain ⟨xs,hq,hx⟩:=hg
    obtain ⟨its,rv,p,hz⟩:=I.list hq
    obtain ⟨⟨old,he⟩,hit⟩:=st
    have hl:=rv.length
    exact wpAny_pyNext_enum_end (I.ok.hd hc) he hit p.isList (by simp;omega) fun h' eb=>⟨rfl,I.turns (t':=s.toks) (ch:=[e,it]) hf fun b o hb q=>eb b o (fun z=>hb (by simp [z])) q⟩
  self:=fun _ _ _ _ _ st h=>by
    refine bq fun bG=>?_
    obtain ⟨⟨old,he⟩,_⟩:=st
    exact bG (wpAny_pyIter_enum he h)
def zr7 (K:PySem.W.Frag) (ta:TA):TI:=fun σ H R=>ta σ H fun vs H1=>∃ a,vs=[.ref a]∧(∃ xs,SqL K H1 a xs)∧R (Ite K a) H1
section
variable {X:Cx}
theorem zna {elts:List Expr} {k:Nat} {tpos:Pos} {a:Expr} {ta:TA} {p pos:Pos} (hg:Gl X "enumerate") (hm:X.mg "enumerate" = none) (ha:PA X [a] ta) (hs:starEach [a] X.env=[(false,eval a X.env)]:=by rfl) :
    PI X (.Tuple elts k tpos) (.Call (.Name "enumerate" p) [a] [] pos) (zr7 X.K ta):=by
  intro pins s σ H R I h
  refine Call_ (zbp I hg hm boot_enumerate (PyProof.Rows.callWith_type1 (thn (ha pos pins s σ H _ I h) fun us s1 hm=>?_) hs rfl))
  refine bq fun bG=>?_
  obtain ⟨vs,H1,I1,r1,q1⟩:=hm
  refine bG (bq fun bG=>?_)
  obtain ⟨l,e,⟨xs,hq⟩,q⟩:=q1
  subst e
  obtain ⟨u,rfl,ru⟩:=zcn r1
  cases ru
  obtain ⟨its,rv,pl,hz⟩:=I1.list hq
  refine bG (call_enumerate_list pl.isList fun h' he hit hsz hk=>wpAny_pyIter_enum he ?_)
  have I2:Inv X pins σ H1 { s1 with heap:=h' }:=I1.kept (t':=s1.toks) hk
  refine ⟨_,[s1.heap.objs.size+1,s1.heap.objs.size],_,_,H1,rfl,I2,zg7 l _ _ (Nat.succ_ne_self _),⟨⟨.none,he⟩,hit⟩,fun b hb=>?_,q⟩
  have hb':s1.heap.objs.size≤b:=by
    rcases List.mem_cons.mp hb with rfl | hb
    · exact Nat.le_succ _
    · rw [List.mem_singleton.mp hb]
      exact Nat.le_refl _
  exact I1.fpOk hb' (I1.hok.fresh hb')
end
section
variable {X:Cx}
end
noncomputable def z7u:List String:=["int", "bool", "str", "NoneType", "list", "tuple", "dict"]
noncomputable def clNames:List String:=["int", "bool", "str", "list", "tuple", "dict"]
noncomputable def zge (t c:String):Bool:=t==c||(t == "bool" && c == "int")
theorem zhn {K:PySem.W.Frag} {t c:String} (ht:t∈z7u) (hc:c∈clNames):PySem.W.kitOne K (.type t) (.type c)=some (zge t c):=by
  simp only [z7u,clNames,List.mem_cons,List.not_mem_nil,or_false] at ht hc
  rcases ht with rfl | rfl | rfl | rfl | rfl | rfl | rfl <;> rcases hc with rfl | rfl | rfl | rfl | rfl | rfl <;> first | rfl | decide | (with_unfolding_all rfl)
theorem zho {K:PySem.W.Frag} {t:String} (ht:t∈z7u):∀ {cs:List String},(∀ c∈cs,c∈clNames)→PySem.W.kitAny K (.type t) (cs.map Value.type)=some (cs.any (zge t))
  | [],_=>rfl
  | c::r,h=>by
    show (match PySem.W.kitOne K (.type t) (.type c) with | some true=>some true | some false=>PySem.W.kitAny K (.type t) (r.map Value.type) | none=>none)=_
    rw [zhn ht (h c List.mem_cons_self),List.any_cons]
    cases e:zge t c with
    | true=>rfl
    | false =>
      rw [Bool.false_or]
      exact zho ht fun d hd=>h d (List.mem_cons_of_mem _ hd)
inductive TyN (K:PySem.W.Frag) (H:Hp):V→String→Prop where
  | non:TyN K H .non "NoneType"
  | bl (x:Bool):TyN K H (.bl x) "bool"
  | int (i:Int):TyN K H (.int i) "int"
  | str (x:Str):TyN K H (.str x) "str"
  | lst {a:Addr} {xs:List V} (e:SqL K H a xs):TyN K H (.ref a) "list"
  | tup {a:Addr} {xs:List V} (e:SqT K H a xs):TyN K H (.ref a) "tuple"
  | dK {a:Addr} {kvs:List (Key×V)} (e:H a=some (.dK kvs)):TyN K H (.ref a) "dict"
theorem TyN.mem {K:PySem.W.Frag} {H:Hp} {x:V} {t:String} (h:TyN K H x t):t∈z7u:=by cases h <;> simp [z7u]
section
variable {X:Cx}
theorem zg2:∀ {cs:List String} {us:List Value},Vals (cs.map V.ty) us→us=cs.map Value.type
  | [],_,h=>by cases h;rfl
  | c::r,_,h=>by
    cases h with
    | cons a t =>
      cases (show _=Value.type c from a)
      rw [zg2 t];rfl
theorem zkx:z72 X (.builtin "isinstance") (fun xs H Q=>∃ (x:V) (t:String) (c:String),xs=[x,.ty c]∧TyN X.K H x t∧clNames.contains c=true∧Q (.bl (zge t c)) H):=by
  intro pins s σ H xs us Q I r h
  obtain ⟨x,t,c,rfl,ty,hc,q⟩:=h
  obtain ⟨u,w',rfl,rx,rc⟩:=zg4 r
  cases (show w'=Value.type c from rc)
  have e:=zhn (K:=X.K) ty.mem (by simpa using hc:c∈clNames)
  have fin:∀ tk,EP X pins σ Q (.bool (zge t c)) { s with toks:=tk }:=fun tk=>⟨.bl _,H,I.tok _,rfl,q⟩
  cases ty with
  | non=>cases (show u=Value.none from rx);exact PySem.W.kia_one PySem.W.kitx_none I.kIn True.intro e (fun z=>nomatch z) fin
  | bl y=>cases (show u=Value.bool y from rx);exact PySem.W.kia_one PySem.W.kitx_bool I.kIn True.intro e (fun z=>nomatch z) fin
  | int i=>obtain ⟨t,q⟩:=(show ∃ t,u=Value.int i t from rx);cases q;exact PySem.W.kia_one PySem.W.kitx_int I.kIn True.intro e (fun z=>nomatch z) fin
  | str y=>obtain ⟨t,q⟩:=(show ∃ t,u=Value.str y t from rx);cases q;exact PySem.W.kia_one PySem.W.kitx_str I.kIn True.intro e (fun z=>nomatch z) fin
  | @lst a xs ea =>
    cases (show u=Value.ref a from rx)
    obtain ⟨its,_,⟨o,n,h1,h2,_⟩,_⟩:=I.list ea
    exact PySem.W.kia_one PySem.W.kitx_list I.kIn ⟨o,h1,h2⟩ e (fun z=>nomatch z) fin
  | @tup a xs ea =>
    cases (show u=Value.ref a from rx)
    obtain ⟨its,_,⟨o,h1,h2,_⟩,_⟩:=I.tuple ea
    exact PySem.W.kia_one PySem.W.kitx_tuple I.kIn ⟨o,h1,h2⟩ e (fun z=>nomatch z) fin
  | @dK a kvs ea =>
    cases (show u=Value.ref a from rx)
    refine bq fun bG=>?_
    obtain ⟨_,_,vs,_,p⟩:=(show ObjOk X.prog X.w H s.heap a (.dK kvs) from I.hok a _ ea)
    obtain ⟨o,es,ep,h1,h2,_⟩:=p
    exact bG (PySem.W.kia_one PySem.W.kitx_dict I.kIn ⟨o,h1,h2.1⟩ e (fun z=>nomatch z) fin)
theorem zig:z72 X (.builtin "isinstance") (fun xs H Q=>∃ (x:V) (t:String) (p:Addr) (cs:List String),xs=[x,.ref p]∧SqT X.K H p (cs.map V.ty)∧TyN X.K H x t∧cs.all clNames.contains=true∧Q (.bl (cs.any (zge t))) H):=by
  intro pins s σ H xs us Q I r h
  obtain ⟨x,t,p,cs,rfl,hp,ty,hc,q⟩:=h
  obtain ⟨u,w',rfl,rx,rc⟩:=zg4 r
  cases (show w'=Value.ref p from rc)
  obtain ⟨its,rv,⟨⟨oc,od,odt,osl⟩,e1,e2,n,e3⟩,_⟩:=I.tuple hp
  cases zg2 rv
  have e2':oc=.type "tuple" := e2
  have e3':odt=.seq (cs.map Value.type).toArray n:=e3
  subst e2' e3'
  have e:=zho (K:=X.K) ty.mem (cs:=cs) fun c hcm=>by simpa using (List.all_eq_true.mp hc c hcm)
  have fin:∀ tk,EP X pins σ Q (.bool (cs.any (zge t))) { s with toks:=tk }:=fun tk=>⟨.bl _,H,I.tok _,rfl,q⟩
  cases ty with
  | non=>cases (show u=Value.none from rx);exact PySem.W.kia_tup PySem.W.kitx_none I.kIn True.intro e1 e (fun z=>nomatch z) fin
  | bl y=>cases (show u=Value.bool y from rx);exact PySem.W.kia_tup PySem.W.kitx_bool I.kIn True.intro e1 e (fun z=>nomatch z) fin
  | int i=>obtain ⟨t,q⟩:=(show ∃ t,u=Value.int i t from rx);cases q;exact PySem.W.kia_tup PySem.W.kitx_int I.kIn True.intro e1 e (fun z=>nomatch z) fin
  | str y=>obtain ⟨t,q⟩:=(show ∃ t,u=Value.str y t from rx);cases q;exact PySem.W.kia_tup PySem.W.kitx_str I.kIn True.intro e1 e (fun z=>nomatch z) fin
  | @lst a xs ea =>
    cases (show u=Value.ref a from rx)
    obtain ⟨its,_,⟨o,n,h1,h2,_⟩,_⟩:=I.list ea
    exact PySem.W.kia_tup PySem.W.kitx_list I.kIn ⟨o,h1,h2⟩ e1 e (fun z=>nomatch z) fin
  | @tup a xs ea =>
    cases (show u=Value.ref a from rx)
    obtain ⟨its,_,⟨o,h1,h2,_⟩,_⟩:=I.tuple ea
    exact PySem.W.kia_tup PySem.W.kitx_tuple I.kIn ⟨o,h1,h2⟩ e1 e (fun z=>nomatch z) fin
  | @dK a kvs ea =>
    cases (show u=Value.ref a from rx)
    refine bq fun bG=>?_
    obtain ⟨_,_,vs,_,p⟩:=(show ObjOk X.prog X.w H s.heap a (.dK kvs) from I.hok a _ ea)
    obtain ⟨o,es,ep,h1,h2,_⟩:=p
    exact bG (PySem.W.kia_tup PySem.W.kitx_dict I.kIn ⟨o,h1,h2.1⟩ e1 e (fun z=>nomatch z) fin)
end
section
variable {X:Cx}
end
mutual
inductive Dp (K:PySem.W.Frag) (H:Hp):V→PyData→Prop where
  | non:Dp K H .non .none
  | bl (b:Bool):Dp K H (.bl b) (.bool b)
  | int (i:Int):Dp K H (.int i) (.int i)
  | str (x:Str):Dp K H (.str x) (.str x)
  | lst {a:Addr} {xs:List V} {ds:List PyData}:SqL K H a xs→Dps K H xs ds→Dp K H (.ref a) (.list ds)
  | tup {a:Addr} {xs:List V} {ds:List PyData}:SqT K H a xs→Dps K H xs ds→Dp K H (.ref a) (.tuple ds)
inductive Dps (K:PySem.W.Frag) (H:Hp):List V→List PyData→Prop where
  | nil:Dps K H [] []
  | cons {x:V} {d:PyData} {xs:List V} {ds:List PyData}:Dp K H x d→Dps K H xs ds→Dps K H (x::xs) (d::ds)
end
section
variable {X:Cx} {pins:List (Addr×Obj)} {σ:St} {H:Hp} {s:Shared}
mutual
theorem Dp.reads (I:Inv X pins σ H s):∀ {v:V} {d:PyData} {u:Value},Dp X.K H v d→RelV v u→∃ as,Reads s.heap u d as
  | _,_,_,.non,r=>by cases (show _=Value.none from r);exact ⟨_,.none⟩
  | _,_,_,.bl b,r=>by cases (show _=Value.bool b from r);exact ⟨_,.bool b⟩
  | _,_,_,.int i,r=>by obtain ⟨t,rfl⟩:=r;exact ⟨_,.int i t⟩
  | _,_,_,.str x,r=>by obtain ⟨t,rfl⟩:=r;exact ⟨_,.str x t⟩
  | _,_,_,.lst (a:=a) h hs,r=>by
    cases (show _=Value.ref a from r)
    obtain ⟨its,rv,⟨o,n,h1,h2,_,h4⟩,_⟩:=I.list h
    obtain ⟨as,hr⟩:=Dps.reads I hs rv
    exact ⟨_,.list h1 h2 h4 (by simpa using hr)⟩
  | _,_,_,.tup (a:=a) h hs,r=>by
    cases (show _=Value.ref a from r)
    refine bq fun bG=>?_
    obtain ⟨its,rv,⟨o,h1,h2,n,h4⟩,_⟩:=I.tuple h
    obtain ⟨as,hr⟩:=Dps.reads I hs rv
    exact bG (⟨_,.tuple h1 h2 h4 (by simpa using hr)⟩)
theorem Dps.reads (I:Inv X pins σ H s):∀ {vs:List V} {ds:List PyData} {us:List Value},Dps X.K H vs ds→Vals vs us→∃ as,ReadsAll s.heap us ds as
  | _,_,_,.nil,r=>by cases r;exact ⟨_,.nil⟩
  | _,_,_,.cons h hs,r=>by
    cases r with
    | cons r1 r2 =>
      refine bq fun bG=>?_
      obtain ⟨as,h1⟩:=Dp.reads I h r1
      obtain ⟨bs,h2⟩:=Dps.reads I hs r2
      exact bG (⟨_,.cons h1 h2⟩)
end
theorem zln (hu:X.A.units+64<cLine):OpR X (compareOp .Eq) (fun x y H Q=>∃ d e,Dp X.K H x d∧Dp X.K H y e∧(d.canLay0&&e.canLay0&&decide (d.depth≤64))=true∧Q (.bl (PyData.eqv d e)) H):=by
  intro pins s σ H x y v u Q I rx ry h
  refine bq fun bG=>?_
  obtain ⟨d,e,hd,he,hc,q⟩:=h
  simp only [Bool.and_eq_true,decide_eq_true_eq] at hc
  obtain ⟨as,r1⟩:=hd.reads I rx
  obtain ⟨bs,r2⟩:=he.reads I ry
  exact bG (SeqAt.compareEq_reads r1 r2 hc.1.1 hc.1.2 (by omega) ⟨.bl _,H,I,rfl,q⟩)
theorem zqi (hu:X.A.units+64<cLine):OpR X (compareOp .NotEq) (fun x y H Q=>∃ d e,Dp X.K H x d∧Dp X.K H y e∧(d.canLay0&&e.canLay0&&decide (d.depth≤64))=true∧Q (.bl (!PyData.eqv d e)) H):=by
  intro pins s σ H x y v u Q I rx ry h
  refine bq fun bG=>?_
  obtain ⟨d,e,hd,he,hc,q⟩:=h
  simp only [Bool.and_eq_true,decide_eq_true_eq] at hc
  obtain ⟨as,r1⟩:=hd.reads I rx
  obtain ⟨bs,r2⟩:=he.reads I ry
  exact bG (SeqAt.compareNe_reads r1 r2 hc.1.1 hc.1.2 (by omega) ⟨.bl _,H,I,rfl,q⟩)
end
section
variable {X:Cx}
end
noncomputable def Df (P:Program) (w:World) (K:PySem.W.Frag) (mg:Str→Option Value) (base:Heap) (k:Nat) (x:Str) (ps:List Str) (sp:Sp):Prop :=
  ∃ f fd,FnOk P w K mg base CX0 k f fd ps sp∧Binds K fd ps []∧PySem.W.keepIn K (.ref f)=true∧mg x=some (.ref f)
section
variable {P:Program} {w:World} {K:PySem.W.Frag} {mg:Str→Option Value} {base:Heap} {j k:Nat} {x:Str} {ps:List Str} {sp sp':Sp}
end
section
variable {X:Cx} {k:Nat} {x:Str} {ps:List Str} {sp:Sp} {e:Expr} {es:List Expr} {t:TA} {p pos:Pos}
theorem zsw (D:Df X.prog X.w X.K X.mg X.base k x ps sp) (hr:Room k X.A) (ha:PA X (e::es) t) (hg:Gl X x:=by rfl) (hdb:(x==("__debug__" : Str))=false:=by decide)
    (he:starEach (e::es) X.env=(false,eval e X.env)::starEach es X.env:=by rfl) (hpl:(backTo pos (starEach es X.env)).any (·.1)=false:=by rfl) :
    PE X (.Call (.Name x p) (e::es) [] pos) (fun σ H Q=>t σ H fun vs H1=>sp vs H1 Q E0):=by
  obtain ⟨f,fd,F,hb,hk,hm⟩:=D
  intro pins s σ H Q I h
  exact zne F hr hg hm hk hb .nil zsy ha hdb he hpl pins s σ H Q I (by unfold zpa;simpa using h)
end
section
variable {X:Cx}
end
def But (p:Addr) (H H':Hp):Prop:=∀ b o,b≠p→H b=some o→H' b=some o
section
variable {p:Addr} {H H' H'':Hp}
end
theorem z55 {n:Nat} (h:n≤1000000):n≤sizeLine:=by rw [sizeLine_eq];omega
theorem zhh {n:Nat} (h:n≤1000000):n<sizeLine:=by rw [sizeLine_eq];omega
noncomputable def zm2 (N:List Str) (names:List (Str×NameKind)) (own:List Str) (cap:List (Str×Nat)) (scope:Scope):Bool :=
  (scope.kind==.function)&&scope.names.all (fun y=>(y.2 != .cell||scope.names.lookup y.1==some .cell)&&(y.2 != .local||scope.names.lookup y.1==some .local)&&(y.2 != .free||scope.names.lookup y.1==some .free)&&(y.2 != .free||(names.lookup y.1==some .cell||names.lookup y.1==some .free)))
  && cap.all fun p=>N[p.2]?==some p.1&&scope.names.lookup p.1==some .free&&(names.lookup p.1==some .cell||names.lookup p.1==some .free)
theorem z5k {X:Cx} {own:List Str} {cap:List (Str×Nat)} {scope:Scope} (h:zm2 X.N X.env.scope.names own cap scope=true):CompScope X (own++cap.map (·.1)) own cap scope:=by
  unfold zm2 at h
  simp only [Bool.and_eq_true,List.all_eq_true,Bool.or_eq_true,bne_iff_ne,beq_iff_eq] at h
  refine bq fun bG=>?_
  obtain ⟨⟨h1,h2⟩,h3⟩:=h
  exact bG (⟨h1,fun y hy hl=>(h2 y hy).1.1.1.resolve_left fun z=>z hl,fun y hy hl=>(h2 y hy).1.2.resolve_left fun z=>z hl,fun y hy hl=>(h2 y hy).1.1.2.resolve_left fun z=>z hl,fun y hy hl=>(h2 y hy).2.resolve_left fun z=>z hl,rfl,fun p hp=>⟨(h3 p hp).1.1,(h3 p hp).1.2,(h3 p hp).2⟩⟩)
section
variable {X:Cx} {a b e o:Expr} {es:List Expr} {ta tb te to:TE} {t:TA} {p pos:Pos}
theorem zv6 (K:PySem.W.Frag) (ml:X.mg "len" = none) (ha:PE X a ta) (hg:Gl X "len" := by rfl) (hs:starEach [a] X.env=[(false,eval a X.env)]:=by rfl) (hK:X.K=K:=by rfl) :
    PE X (.Call (.Name "len" p) [a] [] pos) (fun σ H Q=>ta σ H fun x H1=>∃ p ys,[x]=[V.ref p]∧(SqL K H1 p ys∨SqT K H1 p ys)∧Q (.int ys.length) H1):=by
  subst hK
  exact z3l zc3 hg ml PySem.boot_len (z0r ha z2v hs) (he:=hs)
theorem zrh (K:PySem.W.Frag) (ml:X.mg "list" = none) (ha:PE X a ta) (hg:Gl X "list" := by rfl) (hs:starEach [a] X.env=[(false,eval a X.env)]:=by rfl) (hK:X.K=K:=by rfl) :
    PE X (.Call (.Name "list" p) [a] [] pos) (fun σ H Q=>ta σ H fun x H1=>∃ p ys,[x]=[V.ref p]∧(SqL K H1 p ys∨SqT K H1 p ys)∧∀ l,H1 l=none→Q (.ref l) (upd H1 l (.lst ys))):=by
  subst hK
  exact zbk zc2 hg ml rfl (z0r ha z2v hs) (he:=hs)
theorem zv5 (ml:X.mg "max" = none) (ha:PE X a ta) (hb:PE X b tb) (hc:X.calm=true:=by rfl) (hg:Gl X "max" := by rfl) (hs:starEach [a,b] X.env=[(false,eval a X.env),(false,eval b X.env)]:=by rfl) (hs2:starEach [b] X.env=[(false,eval b X.env)]:=by rfl) :
    PE X (.Call (.Name "max" p) [a,b] [] pos) (fun σ H Q=>ta σ H fun x H1=>tb σ H1 fun y H2=>∃ i j,[x,y]=[.int i,.int j]∧Q (.int (if j > i then j else i)) H2):=by
  exact z3l (zif hc) hg ml rfl (z0r ha (z0r hb z2v hs2) (by rw [hs,hs2])) (he:=by rw [hs,hs2]) (hpl:=by rw [hs2];rfl)
theorem iL (K:PySem.W.Frag) {tg:Expr} (ha:PE X a ta) (hK:X.K=K:=by rfl):PI X tg a (zr6 K ta):=by subst hK;exact zn9 ha
theorem iR (mr:X.mg "range" = none) {tg:Expr} (ha:PE X a ta) (hg:Gl X "range" := by rfl) (hs:starEach [a] X.env=[(false,eval a X.env)]:=by rfl):PI X tg (.Call (.Name "range" p) [a] [] pos) (zr5 (z8q ta zji)):=zh3 hg mr (z0r ha z2v hs) hs
theorem zv9 (K:PySem.W.Frag) {apos:Pos} (ho:PE X o to) (ha:PE X a ta) (hs:starEach [a] X.env=[(false,eval a X.env)]:=by rfl)
    (hbase:attributeBase o "append" X.env (eval o X.env)=eval o X.env:=by rfl) (hline:(apos.endLine==pos.line)=true:=by rfl) (hK:X.K=K:=by rfl)
    (hfew:((backTo pos (starEach [a] X.env)).all (fun x=>!x.1)&&(backToKw pos (keywordEach [] X.env)).all (fun x=>x.1.isSome)
      && decide ([a].length+([]:List Keyword).length+(if ([]:List Keyword).isEmpty then 0 else 1)<30))=true:=by rfl) :
    PE X (.Call (.Attribute o "append" apos) [a] [] pos) (tBM K "list" zgu to (z8q ta zji)):=by
  subst hK
  exact znf PySem.F.plainAttrs_list PySem.F.slot_list_append PySem.F.type_list_append zbo ho (z0r ha z2v hs) hbase hfew hline hs
end
def Pot (H:Hp) (p:Addr):Prop:=∃ a b c:Int,H p=some (.lst [.int a,.int b,.int c])
structure Drawn (p:Addr) (H H':Hp):Prop where
  but:But p H H'
  pot:Pot H' p
section
variable {p q:Addr} {H H' H'':Hp}
end
theorem zrk {xs:List V} {r:Int} (h0:0≤r) (h1:r<(xs.length:Int)):atI xs r=some (xs[r.toNat]'(by omega)):=by
  have hk:r.toNat<xs.length:=by omega
  have:=zoa (xs:=xs) (j:=r.toNat) (v:=xs[r.toNat]) (by simp [hk])
  have er:((r.toNat:Nat):Int)=r:=by omega
  rw [er] at this
  exact this
section
variable {X:Cx} {a:Expr} {ta:TE} {p pos:Pos}
theorem zv7 (K:PySem.W.Frag) (ml:X.mg "isinstance" = none) {b:Expr} {tb:TE} (ha:PE X a ta) (hb:PE X b tb) (hg:Gl X "isinstance" := by rfl) (hs:starEach [a,b] X.env=[(false,eval a X.env),(false,eval b X.env)]:=by rfl) (hs2:starEach [b] X.env=[(false,eval b X.env)]:=by rfl) (hK:X.K=K:=by rfl) :
    PE X (.Call (.Name "isinstance" p) [a,b] [] pos) (fun σ H Q=>ta σ H fun x H1=>tb σ H1 fun y H2=>∃ (x':V) (t:String) (c:String),[x,y]=[x',.ty c]∧TyN K H2 x' t∧clNames.contains c=true∧Q (.bl (zge t c)) H2):=by
  subst hK
  exact z3l zkx hg ml rfl (z0r ha (z0r hb z2v hs2) (by rw [hs,hs2])) (he:=by rw [hs,hs2]) (hpl:=by rw [hs2];rfl)
theorem ztm (K:PySem.W.Frag) (ml:X.mg "isinstance" = none) {b:Expr} {tb:TE} (ha:PE X a ta) (hb:PE X b tb) (hg:Gl X "isinstance" := by rfl) (hs:starEach [a,b] X.env=[(false,eval a X.env),(false,eval b X.env)]:=by rfl) (hs2:starEach [b] X.env=[(false,eval b X.env)]:=by rfl) (hK:X.K=K:=by rfl) :
    PE X (.Call (.Name "isinstance" p) [a,b] [] pos) (fun σ H Q=>ta σ H fun x H1=>tb σ H1 fun y H2=>∃ (x':V) (t:String) (p:Addr) (cs:List String),[x,y]=[x',.ref p]∧SqT K H2 p (cs.map V.ty)∧TyN K H2 x' t∧cs.all clNames.contains=true∧Q (.bl (cs.any (zge t))) H2):=by
  subst hK
  exact z3l zig hg ml rfl (z0r ha (z0r hb z2v hs2) (by rw [hs,hs2])) (he:=by rw [hs,hs2]) (hpl:=by rw [hs2];rfl)
theorem gT (K:PySem.W.Frag) {es:List Expr} {k:Nat} {t:TGs} {n:Nat} (h:PGs X es t) (hc:X.calm=true:=by rfl) (hn:(assignEach es X.env).length=n:=by rfl) (hst:(assignEach es X.env).findIdx? (·.1)=none:=by rfl) (hK:X.K=K:=by rfl) :
    PG X (.Tuple es k pos) (zu6 K n t):=by subst hK;exact zq7 hc h hn hst
theorem iEn (K:PySem.W.Frag) (ml:X.mg "enumerate" = none) {elts:List Expr} {k:Nat} {tpos:Pos} (ha:PE X a ta) (hg:Gl X "enumerate" := by rfl) (hs:starEach [a] X.env=[(false,eval a X.env)]:=by rfl) (hK:X.K=K:=by rfl) :
    PI X (.Tuple elts k tpos) (.Call (.Name "enumerate" p) [a] [] pos) (zr7 K (z8q ta zji)):=by
  subst hK;exact zna hg ml (z0r ha z2v hs) hs
end
section
variable {K:PySem.W.Frag} {g:TG} {te:TE} {D:Addr} {σ0:St} {H0:Hp} {Z:Hp→Prop}
end
theorem zss {xs:List V} {Pd:V→Prop} {r:Int} (h:∀ x∈xs,Pd x) (h0:0≤r) (h1:r<(xs.length:Int)):∃ v,atI xs r=some v∧Pd v :=
  ⟨_,zrk h0 h1,h _ (List.getElem_mem _)⟩
section
variable {X:Cx} {a b o:Expr} {ta tb to:TE} {p pos:Pos}
end
noncomputable abbrev Cel:=Int×List Int×Addr
noncomputable def gs (cs:List Cel):List (Int×List Int):=cs.map fun c=>(c.1,c.2.1)
noncomputable def ztw (cs:List Cel):List V:=cs.map fun c=>V.ref c.2.2
theorem refs_at {cs:List Cel} {i:Nat} {x:V} (h:(ztw cs)[i]?=some x):∃ c,cs[i]?=some c∧x=.ref c.2.2:=by
  unfold ztw at h
  rw [List.getElem?_map] at h
  cases e:cs[i]? with
  | none=>rw [e] at h;cases h
  | some c=>rw [e] at h;exact ⟨c,rfl,(Option.some.inj h).symm⟩
section
variable {K:PySem.W.Frag} {H H':Hp}
end
section
variable {X:Cx} {a b:Expr} {ta tb:TE} {p pos:Pos}
end
section
variable {prog:Program} {w:World} {A:Around} {R:Result→Shared→Prop} {I l:Addr} {items:Array Value} {ns:List Int} {d:Value}
end
section
variable {X:Cx} {a b:Expr} {ta tb:TE} {p pos kp:Pos}
end
section
variable {X:Cx} {a b e o:Expr} {ta tb te to:TE} {p pos:Pos}
theorem zih:z72 X (.type "int") (fun xs H Q=>∃ k,xs=[V.bl k]∧Q (.int (if k then 1 else 0)) H):=fun pins s σ H xs us Q I r h=>zii pins s σ H xs us Q I r (.inr h)
theorem zv8 (ml:X.mg "int" = none) (ha:PE X a ta) (hg:Gl X "int" := by rfl) (hs:starEach [a] X.env=[(false,eval a X.env)]:=by rfl) :
    PE X (.Call (.Name "int" p) [a] [] pos) (fun σ H Q=>ta σ H fun x H1=>∃ k,[x]=[V.bl k]∧Q (.int (if k then 1 else 0)) H1) :=
  zbk zih hg ml rfl (z0r ha z2v hs) (he:=hs)
theorem eIn (K:PySem.W.Frag) (ha:PE X a ta) (hb:PE X b tb) (hm:behindInMarks .In b=false:=by rfl) (hK:X.K=K:=by rfl):PE X (.Compare a [.In] [b] pos) (tOp (rIn K false) ta tb):=by
  subst hK;exact zcx zbl ha hb hm
theorem zrg (K:PySem.W.Frag) (ha:PE X a ta) (hb:PE X b tb) (hm:behindInMarks .NotIn b=false:=by rfl) (hK:X.K=K:=by rfl):PE X (.Compare a [.NotIn] [b] pos) (tOp (rIn K true) ta tb):=by
  subst hK;exact zcx z75 ha hb hm
theorem tIn (K:PySem.W.Frag) (ha:PE X a ta) (hb:PE X b tb) (hm:behindInMarks .In b=false:=by rfl) (hK:X.K=K:=by rfl):PT X (.Compare a [.In] [b] pos) (zgb (tOp (rIn K false) ta tb)):=by
  subst hK;exact zcw zbl ha hb hm
theorem zp9 (K:PySem.W.Frag) (ha:PE X a ta) (hb:PE X b tb) (hm:behindInMarks .NotIn b=false:=by rfl) (hK:X.K=K:=by rfl):PT X (.Compare a [.NotIn] [b] pos) (zgb (tOp (rIn K true) ta tb)):=by
  subst hK;exact zcw z75 ha hb hm
end
noncomputable abbrev Ask:=Nat×Nat×Bool
noncomputable def zbg (ks:List Int) (i j:Nat):Bool:=decide (ks.getD i 0=ks.getD j 0)
section
variable {X:Cx} {pos:Pos}
end
noncomputable def ziy (ks:List Int) (t:Nat):List Nat→Nat→List Ask→List Ask×Option Nat
  | [],z31,a=>(a,if 0<z31 then some t else none)
  | [x],z31,a=>if zbg ks x t then ((if x=t then a else a++[(t,x,zbg ks x t)]),some t)
    else if z31=0 then ((if x=t then a else a++[(t,x,zbg ks x t)]),none)
    else ((if x=t then a else a++[(t,x,zbg ks x t)]),if 0<z31 - 1 then some t else none)
  | x::y::r,z31,a=>if zbg ks x t then ziy ks t r z31 (if x=t then a else a++[(t,x,zbg ks x t)])
    else if z31=0 then ((if x=t then a else a++[(t,x,zbg ks x t)]),none)
    else ziy ks t (y::r) (z31 - 1) (if x=t then a else a++[(t,x,zbg ks x t)])
section
variable {n:Nat} {p q:Addr} {H H' H'':Hp}
end
section
variable {X:Cx}
theorem zkc:OpR X (binaryOp .FloorDiv) (rI (fun _ j=>0<j∧j<2 ^ 200) fun i j=>.int (i / j)):=opI fun i j _ _ _ _ _ hc q=>by
  obtain ⟨h1,h2⟩:=hc
  refine floordiv_int (by omega) (by rw [Int.fdiv_eq_ediv_of_nonneg i (by omega)];exact q) (.inl (PyProof.noPylong_of_log2 ?_))
  have h3:j.natAbs≠0:=by omega
  have h4:j.natAbs<2 ^ 200:=by
    have:((j.natAbs:Nat):Int)=j:=by omega
    have h5:((j.natAbs:Nat):Int)<((2 ^ 200:Nat):Int):=by rw [this];exact_mod_cast h2
    omega
  have:=(Nat.log2_lt h3).mpr h4
  omega
end
section
variable {X:Cx}
end
theorem zg3:∀ {bs:List Bool} {us:List Value},Vals (bs.map V.bl) us→us=bs.map Value.bool
  | [],_,h=>by cases h;rfl
  | b::r,_,h=>by
    cases h with
    | cons h1 h2 =>
      cases (show _=Value.bool b from h1)
      rw [zg3 h2];rfl
section
variable {X:Cx} {a b o:Expr} {ta tb to:TE} {p pos:Pos}
theorem zva (K:PySem.W.Frag) (mm:X.mg "all" = none) (ha:PE X a ta) (hc:X.calm=true:=by rfl) (hg:Gl X "all" := by rfl) (hs:starEach [a] X.env=[(false,eval a X.env)]:=by rfl) (hK:X.K=K:=by rfl) :
    PE X (.Call (.Name "all" p) [a] [] pos) (fun σ H Q=>ta σ H fun x H1=>∃ (q:Addr) (bs:List Bool),[x]=[.ref q]∧SqL K H1 q (bs.map V.bl)∧Q (.bl (bs.all id)) H1):=by
  subst hK
  have rule:z72 X (.builtin "all") (fun xs H Q=>∃ (q:Addr) (bs:List Bool),xs=[.ref q]∧SqL X.K H q (bs.map V.bl)∧Q (.bl (bs.all id)) H):=by
    intro pins s σ H xs us Q I r h
    refine bq fun bG=>?_
    obtain ⟨q,bs,rfl,hq,k⟩:=h
    obtain ⟨u,rfl,ru⟩:=zcn r
    cases ru
    obtain ⟨its,rv,pl,hz⟩:=I.list hq
    have ei:its=bs.map Value.bool:=zg3 rv
    subst ei
    obtain ⟨ol,el,_⟩:=id pl.isList
    have qlt:q<s.heap.objs.size:=Heap.lt_size el
    refine bG (call_all_walk (wpAny_pyIter_list pl.isList ⟨_,_,_,_,_,_,fun i=>bs.getD i false,rfl,Walks.list (A:=X.A.in1) (I.ok.hd hc) _ q (Nat.ne_of_lt qlt) (bs.map Value.bool).toArray,⟨⟨_,Heap.get?_push_size _ rfl,rfl,rfl⟩,pl.isList.push _⟩,?_,fun h' tk keep=>?_⟩))
    · intro i v s' Q' E' hv hQ
      have hv':(bs.map Value.bool)[i]?=some v:=by simpa using hv
      rw [List.getElem?_map] at hv'
      cases eb:bs[i]? with
      | none=>rw [eb] at hv';cases hv'
      | some b =>
        rw [eb] at hv'
        have:v=.bool b:=(Option.some.inj hv').symm
        subst this
        have e2:bs.getD i false=b:=by rw [List.getD_eq_getElem?_getD,eb];rfl
        simp only [e2] at hQ
        exact wpAny_truthy_bool hQ
    · have ea:(List.range (bs.map Value.bool).toArray.size).all (fun i=>bs.getD i false)=bs.all id:=by
        rw [Bool.eq_iff_iff,List.all_eq_true,List.all_eq_true]
        constructor
        · intro hh b hb
          obtain ⟨i,hi⟩:=List.getElem?_of_mem hb
          have:=hh i (by simp;exact (List.getElem?_eq_some_iff.mp hi).1)
          rw [List.getD_eq_getElem?_getD,hi] at this
          exact this
        · intro hh i hi
          have hi':i<bs.length:=by simpa using hi
          rw [List.getD_eq_getElem?_getD,List.getElem?_eq_getElem hi']
          exact hh _ (List.getElem_mem hi')
      rw [ea]
      have kp:∀ b o,s.heap.get? b=some o→h'.get? b=some o:=fun b o e=>keep b o (fun hm=>absurd (List.mem_singleton.mp hm) (Nat.ne_of_lt (Heap.lt_size e))) (Heap.get?_push_of_some _ e)
      exact ⟨.bl _,H,I.kept kp,rfl,k⟩
  exact z3l rule hg mm rfl (z0r ha z2v hs) (he:=hs)
noncomputable def isInt (k:Int):Value→Bool
  | .int a _=>a==k
  | _=>false
end
theorem in_ints {k:Int} {ns:List Int}:inV (.int k) (ns.map V.int)=decide (k∈ns):=by
  unfold inV
  rw [Bool.eq_iff_iff,List.any_eq_true]
  simp only [decide_eq_true_eq]
  constructor
  · rintro ⟨y,hy,e⟩
    obtain ⟨n,hn,rfl⟩:=List.mem_map.mp hy
    have:n=k:=by
      have e':eqV (.int n) (.int k)=true:=e
      simpa [eqV] using e'
    rw [← this];exact hn
  · intro h
    exact ⟨.int k,List.mem_map.mpr ⟨k,h,rfl⟩,by simp [eqV]⟩
noncomputable def zuu (o:List Int) (k:Int):Nat:=if k∈o then o.idxOf k+1 else o.length
noncomputable def zqp (o:List Int) (fs:List Nat) (n:Nat) (k:Int) (m:Nat):List Ask:=(List.range m).map fun at_=>(fs.getD at_ 0,n,decide (o.getD at_ 0=k))
noncomputable def ob (ks:List Int):Nat→List Int×List Nat×List Ask
  | 0=>([],[],[])
  | n+1=>(if ks.getD n 0∈(ob ks n).1 then (ob ks n).1 else (ob ks n).1++[ks.getD n 0],
      if ks.getD n 0∈(ob ks n).1 then (ob ks n).2.1 else (ob ks n).2.1++[n],
      (ob ks n).2.2++zqp (ob ks n).1 (ob ks n).2.1 n (ks.getD n 0) (zuu (ob ks n).1 (ks.getD n 0)))
section
variable {prog:Program} {w:World} {A:Around} {R:Result→Shared→Prop} {s:Shared}
end
section
variable {X:Cx} {pins:List (Addr×Obj)} {σ:St} {N' own:List Str} {cap:List (Str×Nat)} {scope:Scope} {tg iter kx vx:Expr} {ifs:List Expr} {pos:Pos} {g:TG} {tc:TT} {tk tv:TE} {wi:TI}
end
section
variable {X:Cx} {o:Expr} {to:TE} {pos:Pos}
end
noncomputable abbrev An:=Nat×Nat×Bool
noncomputable def nb (as:List An) (x:Nat):List Nat:=as.flatMap fun a=>if a.2.2=true then (if x=a.1 then [a.2.1] else [])++(if x=a.2.1 then [a.1] else []) else []
inductive Conn (as:List An):Nat→Nat→Prop where
  | refl (x:Nat):Conn as x x
  | step {x y z:Nat}:Conn as x y→z∈nb as y→Conn as x z
structure Out (as:List An) (n t:Nat) (F:Nat→Option Nat):Prop where
  con:∀ x r,F x=some r→Conn as x r∧r<t
  fin:∀ x r y,F x=some r→y∈nb as x→F y=some r
  all:∀ x,x<t→(F x).isSome=true
noncomputable def z31 (as:List An) (F:Nat→Option Nat):Nat→Nat
  | 0=>0
  | n+1=>z31 as F n+(if (F n).isSome=true then 0 else (nb as n).length)
section
variable {X:Cx} {a b o:Expr} {ta tb to:TE} {p pos:Pos}
end
theorem zkf {ps:List Addr} (h:ps.Nodup) {i j:Nat} {p:Addr} (a:ps[i]?=some p) (b:ps[j]?=some p):i=j:=by
  obtain ⟨l1,g1⟩:=List.getElem?_eq_some_iff.mp a
  obtain ⟨l2,g2⟩:=List.getElem?_eq_some_iff.mp b
  rcases Nat.lt_trichotomy i j with z | z | z
  · exact absurd (g1.trans g2.symm) ((List.pairwise_iff_getElem.mp h) i j l1 l2 z)
  · exact z
  · exact absurd (g2.trans g1.symm) ((List.pairwise_iff_getElem.mp h) j i l2 l1 z)
theorem nodup_ne {os:List Nat} (h:os.Nodup) {i j:Nat} (hi:i<os.length) (hj:j<os.length) (n:i≠j):os[i]≠os[j]:=fun e=>by
  rcases Nat.lt_trichotomy i j with z | z | z
  · exact (List.pairwise_iff_getElem.mp h) i j hi hj z e
  · exact n z
  · exact (List.pairwise_iff_getElem.mp h) j i hj hi z e.symm
section
variable {prog:Program} {w:World} {A:Around} {R:Result→Shared→Prop} {s:Shared} {elt tg iter tg2 iter2:Expr} {ifs ifs2:List Expr} {scope:Scope} {pos:Pos} {it acc:Value} {env:Env}
end
section
variable {X:Cx} {pins:List (Addr×Obj)} {σ:St} {N' own:List Str} {cap:List (Str×Nat)} {scope:Scope} {tg iter elt tg2 iter2:Expr} {ifs ifs2:List Expr} {pos:Pos} {g g2:TG} {tc tc2:TT} {te:TE} {wi wi2:TI}
end
section
variable {prog:Program} {w:World} {A:Around} {R:Result→Shared→Prop} {I:Addr} {fp wr:List Addr} {n:Nat} {P:Nat→Value→Prop} {St:Nat→Heap→Prop}
end
section
variable {X:Cx} {a:Expr} {ta:TE} {p pos:Pos}
end
end L2
namespace L2
open PySem PySem.W PySem.Spec PySem.Calls PyProof.Rows PySem.Builtin PySem.Builtin.ObjectAttr PySem.Builtin.Getset_descriptor
section
variable {prog:Program} {w:World} {A:Around} {E:Value→Shared→Prop} {s:Shared} {K:Frag} {x D:Addr} {ox:Obj}
theorem zo0 {R:Result→Shared→Prop} {tp:Value} (X:K.In s.heap) (L0:Looks (model prog w) s.heap (typeOf (.ref x)) (.ref D)) (hm:mroIn K D (.type "object")=some true)
    (h:R (.ok (.ret (.ref D))) s):codeAny (model prog w) A (.call (.builtin "getset_descriptor.__get__") ⟨[.builtin "object.__class__",.ref x,tp],[]⟩) R s:=by
  refine bq fun bG=>?_
  obtain ⟨hh,g,dr,t,os⟩:=s
  have L1:=looks_mroIn (M:=model prog w) X hm
  refine bG (codeAny_call_builtin KF.slot_gs.plain KF.entry_gs (KF.slot_gs.check _ _ _ _ _ _ _ _ KF.type_class (KF.args_gs _ _ _) ?_))
  unfold Builtin.«getset_descriptor.__get__» descrGet
  rw [dga_obj]
  refine wpAny_bind (wpAny_pure ?_)
  unfold descrGetter descrCheckInstance descrNameAndClass isInstance
  simp only [KF.owner_class]
  repeat lk
  refine ⟨Code.quiet_builtin _ (by decide +kernel),codeAny_builtin KF.entry_class ?_⟩
  unfold Builtin.«object.__class__» shownTypeOf
  repeat lk
  exact h
theorem zi4 {Q:Option Value→Shared→Prop} (X:K.In s.heap) (hx:s.heap.get? x=some ox) (hc:ox.cls=.ref D) (hga:findIn K (.ref D) "__getattribute__" = some (some (.builtin "BaseException.__getattribute__")))
    (hgn:findIn K (.ref D) "__getattr__" = some none) (hmB:mroIn K D (.type "BaseException")=some true)
    (ha:findIn K (.ref D) "__class__" = some (some (.builtin "object.__class__")))
    (hn:specialIn K (.builtin "object.__class__") "__get__" = some (some (.builtin "getset_descriptor.__get__"))) (htk:takesIn K (.builtin "object.__class__")=some true) (hm:mroIn K D (.type "object")=some true)
    (h:Q (some (.ref D)) { s with toks:=s.toks+1 }):wpAny (model prog w) A (getAttr? (.ref x) "__class__") Q E s:=by
  obtain ⟨hh,g,d,t,os⟩:=s
  have L0:Looks (model prog w) hh (typeOf (.ref x)) (.ref D):=hc ▸ (Looks.ld hx).andThen .now
  have L1:=looks_findIn (M:=model prog w) X hga
  have L2:=looks_findIn (M:=model prog w) X hgn
  have L3:=looks_findIn (M:=model prog w) X ha
  unfold getAttr? getAttrBy? getAttrBy
  refine wpAny_bind (wpAny_mkText (wpAny_bind (wpAny_attempt (wpAny_holding (wpAny_bind (L0.at (wpAny_bind (L1.at ?_))))))))
  show wpAny _ _ (getAttrByItsOwn _ _ _ _ _ _) _ _ _
  unfold getAttrByItsOwn
  refine wpAny_bind (L2.at (wpAny_bind (wpAny_attempt (wpAny_holding ?_))))
  show wpAny _ _ (boundAndCalled (.builtin "BaseException.__getattribute__") (.ref x) _) _ _ _
  unfold boundAndCalled
  refine wpAny_bind (wpAny_of_eq (PySem.F.attr_ValueError.ga.bind (.ref x)) ?_)
  refine wpAny_call (codeAny_call_builtin PySem.F.attr_ValueError.ga.plain PySem.F.entry_bexc_ga ?_)
  have hk:builtinKind "BaseException.__getattribute__" = some .slot:=by decide +kernel
  have hsplit:splitId "BaseException.__getattribute__" = some ("BaseException", "__getattribute__"):=by decide +kernel
  have LB:Looks (model prog w) hh (isInstance (.ref x) (.type "BaseException")) true:=L0.andThen (looks_mroIn X hmB)
  have hargs:=PySem.F.args_bexc_ga (.ref x) (.str "__class__" t)
  show wpAny _ _ (checkBuiltinCall "BaseException.__getattribute__" ⟨[.ref x,.str "__class__" t],[]⟩) _ _ _
  simp only [checkBuiltinCall,hk,hsplit]
  refine wpAny_bind (LB.at ?_)
  rw [if_neg (by decide)]
  have LF:Looks (model prog w) hh (find (.ref x) (.ref D) "__class__") (.bind (.builtin "getset_descriptor.__get__") (.builtin "object.__class__")):=by
    have L4:Looks (model prog w) hh (getOf (some (.builtin "object.__class__"))) (some (.builtin "getset_descriptor.__get__")):=looks_specialIn X hn
    have L5:Looks (model prog w) hh (takesStores (.builtin "object.__class__")) true:=looks_takesIn X htk
    unfold find
    refine L3.andThen (L4.andThen ?_)
    unfold dataDescriptor?
    exact fun A' Q' E' s' k q=>wpAny_bind (wpAny_bind (L5 A' _ E' s' k (wpAny_pure (wpAny_bind (wpAny_rule (wpAny_pure q))))))
  have body:wpAny (model prog w) A.in1 (Builtin.«object.__getattribute__» ⟨[.ref x,.str "__class__" t],[]⟩) (fun fin s'=>fin=.done (.ret (.ref D))∧s'=⟨hh,g,d,t+1,os⟩) (fun _ _=>False) ⟨hh,g,d,t+1,os⟩:=by
    unfold Builtin.«object.__getattribute__»
    refine wpAny_bind (wpAny_pure ?_)
    refine wpAny_bind (wpAny_pure ?_)
    refine wpAny_bind (L0.at ?_)
    refine wpAny_bind (LF.at ?_)
    show wpAny _ _ (holding [_] (call (.builtin "getset_descriptor.__get__") [.builtin "object.__class__",.ref x,.ref D]) >>= ret) _ _ _
    refine wpAny_bind (wpAny_holding (wpAny_call (zo0 X L0 hm ?_)))
    exact wpAny_pure ⟨rfl,rfl⟩
  cases hsig:Manifest.signature? "BaseException.__getattribute__" with
  | none=>exact wpAny_pure (wpAny_mono body (fun fin s' z=>by obtain ⟨rfl,rfl⟩:=z;exact handed_on rfl (wpAny_pure h)) fun _ _ z=>z.elim)
  | some sig =>
    simp only [argsOk,hsig] at hargs
    show wpAny _ A.in1 (Bind.checkArgs "BaseException.__getattribute__" sig ⟨[.ref x,.str "__class__" t],[]⟩) _ _ _
    have h2:Bind.checkArgs "BaseException.__getattribute__" sig ⟨[.ref x,.str "__class__" t],[]⟩=pure ():=hargs
    rw [h2]
    exact wpAny_pure (wpAny_mono body (fun fin s' z=>by obtain ⟨rfl,rfl⟩:=z;exact handed_on rfl (wpAny_pure h)) fun _ _ z=>z.elim)
structure ExcIn (K:Frag) (D:Addr):Prop where
  hga:findIn K (.ref D) "__getattribute__" = some (some (.builtin "BaseException.__getattribute__"))
  hgn:findIn K (.ref D) "__getattr__" = some none
  hmB:mroIn K D (.type "BaseException")=some true
  ha:findIn K (.ref D) "__class__" = some (some (.builtin "object.__class__"))
  hn:specialIn K (.builtin "object.__class__") "__get__" = some (some (.builtin "getset_descriptor.__get__"))
  htk:takesIn K (.builtin "object.__class__")=some true
  hm:mroIn K D (.type "object")=some true
  cls:(clsIn K D).isSome=true
theorem ze7 (F:ExcIn K D):KitX K (.ref x) (.ref D) (fun h=>∃ o,h.get? x=some o∧o.cls=.ref D) where
  ty:=fun _ _ _ ⟨o,h1,h2⟩=>h2 ▸ (Looks.ld h1).andThen .now
  it:=fun _ _ X _=>by
    have hcD:=F.cls
    unfold clsIn at hcD
    split at hcD
    · rename_i c' d' cd' sl' ho
      intro A' Q' E' s' k q
      unfold isType loadHead
      exact wpAny_bind (wpAny_loadPart (k _ _ (X _ _ ho)) (wpAny_pure q))
    · cases hcD
  ne:=fun h tp dd its n sl X htp=>by
    have hcD:=F.cls
    refine Bool.eq_false_iff.mpr fun q=>?_
    have e:D=tp:=Value.ref.inj (beq_iff_eq.mp q)
    subst e
    unfold clsIn at hcD
    split at hcD
    · rename_i c' d' cd' sl' ho
      have z:=(X _ _ ho).symm.trans htp
      cases z
    · cases hcD
  ca:=fun X ⟨o,h1,h2⟩ k=>zi4 X h1 h2 F.hga F.hgn F.hmB F.ha F.hn F.htk F.hm k
end
noncomputable def zdd (e D:Addr):HO:=.ext fun h=>∃ o,h.get? e=some o∧o.cls=.ref D
section
variable {X:Cx} {a b:Expr} {ta tb:TE} {p pos:Pos}
theorem ztl (K:Frag) (ml:X.mg "isinstance" = none) (ha:PE X a ta) (hb:PE X b tb) (hg:Gl X "isinstance" := by rfl) (hs:starEach [a,b] X.env=[(false,eval a X.env),(false,eval b X.env)]:=by rfl) (hs2:starEach [b] X.env=[(false,eval b X.env)]:=by rfl) (hK:X.K=K:=by rfl) :
    PE X (.Call (.Name "isinstance" p) [a,b] [] pos) (fun σ H Q=>ta σ H fun x H1=>tb σ H1 fun y H2=>∃ (e D:Addr) (c:V) (cv:Value) (k:Bool),[x,y]=[.ref e,c]∧H2 e=some (zdd e D)∧ExcIn K D∧RelV c cv∧kitOne K (.ref D) cv=some k∧Q (.bl k) H2):=by
  subst hK
  have rule:z72 X (.builtin "isinstance") (fun xs H Q=>∃ (e D:Addr) (c:V) (cv:Value) (k:Bool),xs=[.ref e,c]∧H e=some (zdd e D)∧ExcIn X.K D∧RelV c cv∧kitOne X.K (.ref D) cv=some k∧Q (.bl k) H):=by
    intro pins s σ H xs us Q I r h
    obtain ⟨e,D,c,cv,k,rfl,he,F,rc,hk,q⟩:=h
    obtain ⟨u,u2,rfl,ru,ru2⟩:=zg4 r
    cases (show u=Value.ref e from ru)
    have hcv:Looks (model X.prog X.w) s.heap (pure ():Sem Unit) ():=.now
    obtain ⟨ho,_,_⟩:=(show (∃ o,s.heap.get? e=some o∧o.cls=.ref D)∧_∧_ from I.hok e _ he)
    have:u2=cv∨kitOne X.K (.ref D) u2=some k:=by
      cases c with
      | ref a=>cases (show u2=Value.ref a from ru2);cases (show cv=Value.ref a from rc);exact .inl rfl
      | ty n=>cases (show u2=Value.type n from ru2);cases (show cv=Value.type n from rc);exact .inl rfl
      | non=>cases (show u2=Value.none from ru2);cases (show cv=Value.none from rc);exact .inl rfl
      | bl b=>cases (show u2=Value.bool b from ru2);cases (show cv=Value.bool b from rc);exact .inl rfl
      | int i=>obtain ⟨t,z⟩:=(show ∃ t,cv=Value.int i t from rc);subst z;simp [kitOne,kitCls] at hk
      | str i=>obtain ⟨t,z⟩:=(show ∃ t,cv=Value.str i t from rc);subst z;simp [kitOne,kitCls] at hk
      | byt i=>obtain ⟨t,z⟩:=(show ∃ t,cv=Value.bytes i t from rc);subst z;simp [kitOne,kitCls] at hk
      | flt i=>obtain ⟨t,z⟩:=(show ∃ t,cv=Value.float i t from rc);subst z;simp [kitOne,kitCls] at hk
    have hk2:kitOne X.K (.ref D) u2=some k:=by
      rcases this with z | z
      · rw [z];exact hk
      · exact z
    exact kia_one (ze7 F) I.kIn ho hk2 (fun z=>nomatch z) fun tk=>⟨.bl k,H,I.tok _,rfl,q⟩
  exact z3l rule hg ml rfl (z0r ha (z0r hb z2v hs2) (by rw [hs,hs2])) (he:=by rw [hs,hs2]) (hpl:=by rw [hs2];rfl)
end
noncomputable def PJ (X:Cx) (es:List Expr) (t:St→Hp→(Hp→Prop)→Prop):Prop :=
  ∀ (pins:List (Addr×Obj)) (s:Shared) (σ:St) (H:Hp) (Q:Hp→Prop) (acc:Str) (n:Nat),acc.length≤n→n+2000*es.length≤1000000→Inv X pins σ H s→t σ H Q →
    wpAny (model X.prog X.w) X.A (joinParts acc (evalEach es X.env)) (fun u s'=>∃ z t H',u=.str z t∧Inv X pins σ H' s'∧Q H') X.xe s
section
variable {X:Cx} {e e2:Expr} {es:List Expr} {te:TE} {t:St→Hp→(Hp→Prop)→Prop} {p pos:Pos}
theorem zq5:PJ X [] (fun _ H Q=>Q H):=fun pins s σ H Q acc n h1 h2 I h=>joinParts_nil ⟨acc,_,H,rfl,I.tok _,h⟩ (by rw [sizeLine_eq];simp at h2;omega)
theorem zq4 {x:Str} {j:Nat} (hx:x.length≤2000) (hr:PJ X es t):PJ X (.Constant (.str x) j p::es) t:=by
  intro pins s σ H Q acc n h1 h2 I h
  have hl:(acc++x).length≤n+2000:=by rw [strLen_append];omega
  simp only [List.length_cons] at h2
  show wpAny _ _ (joinParts acc (eval (.Constant (.str x) j p) X.env::evalEach es X.env)) _ _ s
  refine joinParts_cons (thn (zll pins s σ H (fun v H'=>v=.str x∧H'=H) I ⟨rfl,rfl⟩) fun u s1 hm=>?_)
  obtain ⟨v,H1,I1,r1,e1,e2⟩:=hm
  subst e1 e2
  obtain ⟨tk,rfl⟩:=r1
  exact ⟨by rw [sizeLine_eq];omega,hr pins s1 σ _ Q _ (n+2000) hl (by omega) I1 h⟩
theorem zq6 (he:PE X e te) (hr:PJ X es t):PJ X (.FormattedValue e (-1) none p::es) (fun σ H Q=>te σ H fun v H1=>∃ i,v=.int i∧i.natAbs.log2<1920∧t σ H1 Q):=by
  intro pins s σ H Q acc n h1 h2 I h
  simp only [List.length_cons] at h2
  show wpAny _ _ (joinParts acc (eval (.FormattedValue e (-1) none p) X.env::evalEach es X.env)) _ _ s
  refine joinParts_cons (FormattedValue_plain (thn (he pins s σ H _ I h) fun u s1 hm=>?_))
  refine bq fun bG=>?_
  obtain ⟨v,H1,I1,r1,i,ev,hi,q⟩:=hm
  subst ev
  obtain ⟨tk,rfl⟩:=r1
  refine bG (formatField_int_small hi ?_)
  have hz:=int_text_len_1921 hi
  have hl:(acc++Str.ofString (toString i)).length≤n+2000:=by rw [strLen_append];omega
  exact ⟨by rw [sizeLine_eq];omega,hr pins _ σ H1 Q _ (n+2000) hl (by omega) (I1.tok _) q⟩
theorem znd (h:PJ X (e::e2::es) t) (hl:(e::e2::es).length≤400:=by decide):PE X (.JoinedStr (e::e2::es) pos) (fun σ H Q=>t σ H fun H1=>∀ z,Q (.str z) H1):=by
  intro pins s σ H Q I q
  refine JoinedStr_many ?_
  refine thn (h pins s σ H _ Str.empty 0 (Nat.zero_le _) (by omega) I q) fun u s' hm=>?_
  refine bq fun bG=>?_
  obtain ⟨z,tk,H',eu,I',q'⟩:=hm
  exact bG (⟨.str z,H',I',⟨tk,eu⟩,q' z⟩)
end
end L2
namespace L2
open PySem PySem.Spec PyProof.Rows
theorem ObjOk.there {P:Program} {w:World} {H:Hp} {h:Heap} {a:Addr} {o:HO} (x:ObjOk P w H h a o):∃ ob,h.get? a=some ob:=by
  cases o with
  | lst xs=>obtain ⟨_,_,_,_,e⟩:=x;exact ⟨_,e⟩
  | tup xs=>obtain ⟨_,_,_,p⟩:=x;obtain ⟨ob,e,_⟩:=p;exact ⟨_,e⟩
  | dK kvs=>obtain ⟨_,_,_,_,o,_,_,e,_⟩:=x;exact ⟨_,e⟩
  | dT kvs=>obtain ⟨_,_,_,_,o,_,_,e,_⟩:=x;exact ⟨_,e⟩
  | set S n=>obtain ⟨o,_,_,_,e,_⟩:=x;exact ⟨_,e⟩
  | ins C dx fs=>obtain ⟨_,_,_,e,_⟩:=x;exact ⟨_,e⟩
  | own y=>obtain ⟨_,e⟩:=x;exact ⟨_,e⟩
  | xd fs=>obtain ⟨_,⟨_,_,_,e,_⟩,_⟩:=x;exact ⟨_,e⟩
  | rng lo hi=>obtain ⟨_,_,_,e⟩:=x;exact ⟨_,e⟩
  | frz ob u=>obtain ⟨e,_⟩:=x;exact ⟨_,e⟩
  | tbl ps=>exact ⟨_,(show h.get? a=some _ from x)⟩
  | met f y=>exact ⟨_,(show h.get? a=some _ from x)⟩
  | ext φ=>obtain ⟨_,e,_⟩:=x;exact e
structure Flew (P:Program) (w:World) (outer:List Env) (H H':Hp) (s:Shared) (e:Addr) (C:Value) (B:Heap) (s':Shared):Prop where
  os:s'.os=s.os
  bare:AllBare s'.gens
  un:Un (frs outer) [] H H' s.heap s'.heap
  hok:HOk P w H' s'.heap
  trk:∀ b o,s'.heap.get? b=some o→H' b≠none→B.get? b=some o
  old:∀ b o,s.heap.get? b=some o→H b=none→b∉frs outer→B.get? b=some o
  thr:∀ b o,s.heap.get? b=some o→b∉frs outer→∃ o',B.get? b=some o'
  frf:∀ b∈frs outer,H b=none
  unt:H' e=none
  new:s.heap.get? e=none
  fly:∃ a0,Heap.FlyingW B outer e C a0 s'.heap
noncomputable def CXr (P:Program) (w:World):CXT:=fun outer H s E e s'=>∃ (a:Addr) (C:Value) (H':Hp) (B:Heap),e=.ref a∧Flew P w outer H H' s a C B s'∧E C none H'
section
variable {P:Program} {w:World} {outer:List Env} {H H':Hp} {s s':Shared} {e:Addr} {C:Value} {B:Heap}
theorem Flew.to {h2:Heap} (F:Flew P w outer H H' s e C B s') (hB:B.StaysIn h2) (hs:s'.heap.UpToSlots h2):Un (frs outer) [] H H' s.heap h2∧HOk P w H' h2∧∀ b o,h2.get? b=some o→H' b≠none→B.get? b=some o:=by
  obtain ⟨a0,fl⟩:=F.fly
  have kp:∀ b o,s.heap.get? b=some o→H b=none→b∉frs outer→h2.get? b=some o:=fun b o x n hb=>hB b o (F.old b o x n hb)
  have sl:∀ b o,s.heap.get? b=some o→H b=none→b∈frs outer→∃ sl,h2.get? b=some { o with slots:=sl }:=fun b o x n hb=>by
    refine bq fun bG=>?_
    obtain ⟨sl,e1⟩:=F.un.slot b o x n hb (by simp)
    obtain ⟨_,o',e2,d⟩:=fl.2.2.1.mem hb
    rw [e1] at e2
    cases e2
    obtain ⟨sl',e3⟩:=hs b { o with slots:=sl } e1 d
    exact bG (⟨sl',e3⟩)
  refine ⟨⟨fun b o x n hb _=>kp b o x n hb,fun b o x n hb _=>sl b o x n hb,F.un.free,fun b o x _=>?_,F.un.tups,F.un.frzs,F.un.tbls⟩,fun a u eu=>?_,fun b o x n=>?_⟩
  · by_cases hb:b∈frs outer
    · obtain ⟨l,e1⟩:=sl b o x (F.frf b hb) hb
      exact ⟨_,e1⟩
    · obtain ⟨o',e1⟩:=F.thr b o x hb
      exact ⟨o',hB b o' e1⟩
  · refine (F.hok a u eu).stay (fun b v hb q=>hB b v (F.trk b v q ?_)) (fun _ q=>q) fun _ _ q=>q
    rcases hb with z | z
    · rw [z,eu];simp
    · rw [z];simp
  · cases eu:H' b with
    | none=>exact absurd eu n
    | some u =>
      refine bq fun bG=>?_
      obtain ⟨o1,e1⟩:=(F.hok b u eu).there
      have e2:=F.trk b o1 e1 n
      have e3:=hB b o1 e2
      rw [x] at e3
      cases e3
      exact bG (e2)
theorem Flew.next {h2:Heap} (F:Flew P w outer H H' s e C B s') (hs:s'.heap.UpToSlots h2) (fl:∃ a0,Heap.FlyingW B outer e C a0 h2):Flew P w outer H H' s e C B { s' with heap:=h2 }:=by
  refine bq fun bG=>?_
  obtain ⟨a0,fl⟩:=fl
  obtain ⟨u,k,t⟩:=F.to fl.1 hs
  exact bG (⟨F.os,F.bare,u,k,t,F.old,F.thr,F.frf,F.unt,F.new,a0,fl⟩)
theorem Flew.inv {X:Cx} {pins:List (Addr×Obj)} {σ:St} (F:Flew X.prog X.w X.stack H H' s e C B s') (I:Inv X pins σ H s):Inv X pins σ H' s' :=
  I.call' (ch:=[]) F.os F.un F.hok F.bare fun _ z=>nomatch z
end
section
variable {P:Program} {w:World} {K:PySem.W.Frag} {mg:Str→Option Value} {base:Heap} {N:List Str} {qual:Str} {scope:Scope} {f:Addr} {cd:Value} {A:Around} {outer:List Env} {s s1:Shared} {H H1:Hp} {E E':XK}
  {pins:List (Addr×Obj)} {σ:St}
theorem zpi {h':Heap} {e C:Addr} {vs:List Value} (I:Inv (z5a (CXr P w) P w K mg base N qual scope f cd A outer s H E) pins σ H1 s1) (hx:Heap.MadeExcOf s1.heap h' e (.ref C) vs) (hE:E (.ref C) none H1) :
    (z5a (CXr P w) P w K mg base N qual scope f cd A outer s H E).xe (.ref e) { s1 with heap:=h' }:=by
  have fs:∀ b,b∈frs (envOfC qual scope s.heap.objs.size f cd::outer)→H1 b=none:=I.stkFree
  have inn:∀ b o,s1.heap.get? b=some o→b∉frs (envOfC qual scope s.heap.objs.size f cd::outer)→(PySem.W.hideAll s1.heap (frs (envOfC qual scope s.heap.objs.size f cd::outer))).get? b=some o:=fun b o e hb=>PySem.W.hideAll_get _ e hb
  have out:∀ b o,s.heap.get? b=some o→b∉frs outer→b∉frs (envOfC qual scope s.heap.objs.size f cd::outer):=fun b o e hb z=>by
    have z:b∈s.heap.objs.size::frs outer:=z
    rcases List.mem_cons.mp z with q | q
    · rw [q] at e;exact Nat.lt_irrefl _ (Heap.lt_size e)
    · exact hb q
  have frf:∀ b∈frs outer,H b=none:=I.ok.frf
  have hin:∀ env∈(envOfC qual scope s.heap.objs.size f cd::outer),∀ a,env.frame=some a→a∈frs (envOfC qual scope s.heap.objs.size f cd::outer):=fun env he a ha=>List.mem_filterMap.mpr ⟨env,he,ha⟩
  show wpAny (model P w) (A.deeper (envOfC qual scope s.heap.objs.size f cd)) (leaving (envOfC qual scope s.heap.objs.size f cd) (.ref e)) _ _ _
  refine wpAny_leaves_madeW (base:=PySem.W.hideAll s1.heap (frs (envOfC qual scope s.heap.objs.size f cd::outer))) I.ok.frames rfl (fun b o q=>PySem.W.of_hideAll _ q) (PySem.W.funFrames_hide I.stack hin) hx fun h2 t fl _ _ ups=>?_
  have hB:=fl.1
  have sl:∀ b o,s.heap.get? b=some o→H b=none→b∈frs outer→∃ sl,h2.get? b=some { o with slots:=sl }:=fun b o x n hb=>by
    refine bq fun bG=>?_
    obtain ⟨sl,e1⟩:=I.base.slot b o x n hb (by simp [z5a])
    obtain ⟨_,o',e2,d⟩:=I.stack.mem (show b∈s.heap.objs.size::frs outer from List.mem_cons_of_mem _ hb)
    rw [e1] at e2
    cases e2
    obtain ⟨sl',e3⟩:=ups b { o with slots:=sl } (hx.keeps b { o with slots:=sl } e1) d
    exact bG (⟨sl',e3⟩)
  have old:∀ b o,s.heap.get? b=some o→H b=none→b∉frs outer→(PySem.W.hideAll s1.heap (frs (envOfC qual scope s.heap.objs.size f cd::outer))).get? b=some o:=fun b o x n hb =>
    inn b o (I.base.keep b o x n hb (by simp [z5a])) (out b o x hb)
  have thr:∀ b o,s.heap.get? b=some o→b∉frs outer→∃ o',(PySem.W.hideAll s1.heap (frs (envOfC qual scope s.heap.objs.size f cd::outer))).get? b=some o':=fun b o x hb=>by
    refine bq fun bG=>?_
    obtain ⟨o',e1⟩:=I.base.there b o x (by simp [z5a])
    exact bG (⟨o',inn b o' e1 (out b o x hb)⟩)
  have nfr:∀ b,H1 b≠none→b∉frs (envOfC qual scope s.heap.objs.size f cd::outer):=fun b n z=>n (fs b z)
  refine ⟨e,.ref C,H1,_,rfl,⟨I.os,I.bare,⟨fun b o x n hb _=>hB b o (old b o x n hb),fun b o x n hb _=>sl b o x n hb,fun b o x n _=>I.base.free b o x n (by simp [z5a]),fun b o x _=>?_,I.base.tups,I.base.frzs,I.base.tbls⟩,fun a u eu=>?_,fun b o x n=>?_,old,thr,frf,?_,?_,_,fl⟩,hE⟩
  · by_cases hb:b∈frs outer
    · obtain ⟨l,e1⟩:=sl b o x (frf b hb) hb
      exact ⟨_,e1⟩
    · obtain ⟨o',e1⟩:=thr b o x hb
      exact ⟨o',hB b o' e1⟩
  · refine (I.hok a u eu).stay (fun b v hb q=>hB b v (inn b v q (nfr b ?_))) (fun _ q=>q) fun _ _ q=>q
    rcases hb with z | z
    · rw [z,eu];simp
    · rw [z];simp
  · cases eu:H1 b with
    | none=>exact absurd eu n
    | some u =>
      refine bq fun bG=>?_
      obtain ⟨o1,e1⟩:=(I.hok b u eu).there
      have e2:=inn b o1 e1 (nfr b n)
      have e3:=hB b o1 e2
      rw [x] at e3
      cases e3
      exact bG (e2)
  · cases eu:H1 e with
    | none=>rfl
    | some u =>
      obtain ⟨o1,e1⟩:=(I.hok e u eu).there
      rw [hx.new] at e1
      cases e1
  · cases eo:s.heap.get? e with
    | none=>rfl
    | some o =>
      obtain ⟨o1,e1⟩:=I.base.there e o eo (by simp [z5a])
      rw [hx.new] at e1
      cases e1
theorem zng (hE:∀ C d H',E' C d H'→E C d H'):zeo (CXr P w) (z5a (CXr P w) P w K mg base N qual scope f cd A outer s H E) E':=by
  intro pins σ H1 s1 e s' I hc
  obtain ⟨a,C,H',B,rfl,F,q⟩:=hc
  have F:Flew P w (envOfC qual scope s.heap.objs.size f cd::outer) H1 H' s1 a C B s':=F
  obtain ⟨a0,fl⟩:=F.fly
  have I2:Inv (z5a (CXr P w) P w K mg base N qual scope f cd A outer s H E) pins σ H' s':=Flew.inv (X:=z5a (CXr P w) P w K mg base N qual scope f cd A outer s H E) F I
  have out:∀ b o,s.heap.get? b=some o→b∉frs outer→b∉frs (envOfC qual scope s.heap.objs.size f cd::outer):=fun b o e hb z=>by
    have z:b∈s.heap.objs.size::frs outer:=z
    rcases List.mem_cons.mp z with q | q
    · rw [q] at e;exact Nat.lt_irrefl _ (Heap.lt_size e)
    · exact hb q
  obtain ⟨f1,f2,⟨_,_,f3⟩,f4⟩:=id fl
  have G:Flew P w outer H H' s a C B s':=by
    refine ⟨I2.os,F.bare,⟨fun b o x n hb _=>I2.base.keep b o x n hb (by simp [z5a]),fun b o x n hb _=>I2.base.slot b o x n hb (by simp [z5a]),fun b o x n _=>I2.base.free b o x n (by simp [z5a]),fun b o x _=>I2.base.there b o x (by simp [z5a]),I2.base.tups,I2.base.frzs,I2.base.tbls⟩,F.hok,F.trk,
      fun b o x n hb=>F.old b o (I.base.keep b o x n hb (by simp [z5a])) (I.base.free b o x n (by simp [z5a])) (out b o x hb),fun b o x hb=>?_,I.ok.frf,F.unt,?_,a0,f1,f2,f3,f4⟩
    · obtain ⟨o1,e1⟩:=I.base.there b o x (by simp [z5a])
      exact F.thr b o1 e1 (out b o x hb)
    · cases eo:s.heap.get? a with
      | none=>rfl
      | some o =>
        obtain ⟨o1,e1⟩:=I.base.there a o eo (by simp [z5a])
        rw [F.new] at e1
        cases e1
  show wpAny (model P w) (A.deeper (envOfC qual scope s.heap.objs.size f cd)) (leaving (envOfC qual scope s.heap.objs.size f cd) (.ref a)) _ _ _
  exact wpAny_leaves_onW I.ok.frames rfl fl fun h2 fl2 ups=>⟨a,C,H',B,rfl,G.next ups ⟨_,fl2⟩,hE C none H' q⟩
end
section
variable {prog:Program} {w:World} {A:Around} {R:Result→Shared→Prop} {I l:Addr} {items:Array Value} {ls:List Nat} {d:Value}
end
section
variable {X:Cx} {a b:Expr} {ta tb:TE} {p p2 pos kp kp2:Pos}
end
section
variable {prog:Program} {w:World} {A:Around} {R:Result→Shared→Prop} {I:Addr} {fp wr:List Addr} {n:Nat} {P:Nat→Value→Prop} {St:Nat→Heap→Prop}
end
section
variable {prog:Program} {w:World} {A:Around} {E:Value→Shared→Prop} {s:Shared}
end
section
variable {X:Cx}
end
end L2
namespace L3
open PySem PySem.Spec L2
inductive D where
  | non | bl (b:Bool) | int (i:Int) | str (x:Str) | lst (xs:List D) | scr (xs:List D) | tup (xs:List D) | gt (xs:List D) | ref (k:Nat)
inductive O where
  | lst (xs:List D) | dK (kvs:List (Key×D)) | dN (kvs:List (NK×D)) | ins (C:Addr) (fs:List (Str×D)) | exc (C:Addr)
noncomputable abbrev M:=List (Option O)
noncomputable abbrev G:=List (Option D)
structure Wd where
  ρ:List Addr
  μ:M
  H:Hp
  hid:Addr→Prop
def SqF (K:PySem.W.Frag) (H:Hp) (a:Addr) (xs:List V):Prop:=(∃ o,H a=some (.frz o (.lst xs))) ∨
    ∃ (o:Obj) (its:Array Value) (n:Nat),K.lookup a=some o∧o.cls=.type "list" ∧ o.dict=none∧o.data=.seq its n∧its.size≤sizeLine∧Vals xs its.toList
theorem SqF.seq {K:PySem.W.Frag} {H:Hp} {a:Addr} {xs:List V} (h:SqF K H a xs):SqL K H a xs:=by
  rcases h with h | h
  · exact .inl (.inr h)
  · exact .inr h
def RL (W:Wd) (a:Addr):Prop:=∃ (k:Nat) (o:O),W.μ[k]?=some (some o)∧W.ρ[k]?=some a
def zrq (W:Wd) (a:Addr):Prop:=RL W a∨W.hid a
mutual
inductive DR (K:PySem.W.Frag) (W:Wd):D→V→Prop where
  | non:DR K W .non .non
  | bl (b:Bool):DR K W (.bl b) (.bl b)
  | int (i:Int):DR K W (.int i) (.int i)
  | str (x:Str):DR K W (.str x) (.str x)
  | ref {k:Nat} {a:Addr}:W.ρ[k]?=some a→DR K W (.ref k) (.ref a)
  | lst {a:Addr} {vs:List V} {ds:List D}:W.H a=some (.lst vs)→¬ zrq W a→DRs K W ds vs→DR K W (.lst ds) (.ref a)
  | scr {a:Addr} {vs:List V} {ds:List D}:SqF K W.H a vs→DRs K W ds vs→DR K W (.scr ds) (.ref a)
  | tup {a:Addr} {vs:List V} {ds:List D}:W.H a=some (.tup vs)→DRs K W ds vs→DR K W (.tup ds) (.ref a)
  | gt {a:Addr} {vs:List V} {ds:List D}:SqT K W.H a vs→DRs K W ds vs→DR K W (.gt ds) (.ref a)
inductive DRs (K:PySem.W.Frag) (W:Wd):List D→List V→Prop where
  | nil:DRs K W [] []
  | cons {d:D} {v:V} {ds:List D} {vs:List V}:DR K W d v→DRs K W ds vs→DRs K W (d::ds) (v::vs)
end
def KR (K:PySem.W.Frag) (W:Wd):List (Key×D)→List (Key×V)→Prop:=Paired fun p q=>p.1=q.1∧DR K W p.2 q.2
def NR (K:PySem.W.Frag) (W:Wd):List (NK×D)→List (NK×V)→Prop:=Paired fun p q=>p.1=q.1∧DR K W p.2 q.2
def FR (K:PySem.W.Frag) (W:Wd):List (Str×D)→List (Str×V)→Prop:=Paired fun p q=>p.1=q.1∧DR K W p.2 q.2
def OR (K:PySem.W.Frag) (W:Wd) (a:Addr):O→HO→Prop
  | .lst ds,ho=>∃ vs,ho=.lst vs∧DRs K W ds vs
  | .dK kvs,ho=>∃ vs,ho=.dK vs∧KR K W kvs vs
  | .dN kvs,ho=>∃ vs,ho=.dT vs∧NR K W kvs vs
  | .ins C fs,ho=>∃ vs,(∃ dx,ho=.ins C dx vs)∧FR K W fs vs
  | .exc C,ho=>ho=zdd a C
structure Ok (K:PySem.W.Frag) (W:Wd):Prop where
  len:W.ρ.length=W.μ.length
  nd:W.ρ.Nodup
  rs:∀ a∈W.ρ,W.H a≠none
  at_:∀ (k:Nat) (o:O),W.μ[k]?=some (some o)→∃ a ho,W.ρ[k]?=some a∧W.H a=some ho∧OR K W a o ho
  hd0:∀ a,W.hid a→W.H a≠none∧a∉W.ρ
theorem Ok.hd {K:PySem.W.Frag} {W:Wd} (ok:Ok K W):∀ a,W.hid a→W.H a≠none∧¬ RL W a:=fun a z=>⟨(ok.hd0 a z).1,fun ⟨_,_,_,h⟩=>(ok.hd0 a z).2 (List.mem_of_getElem? h)⟩
structure Step (W W':Wd):Prop where
  ρ:∀ (k:Nat) a,W.ρ[k]?=some a→W'.ρ[k]?=some a
  live:∀ a,RL W' a→RL W a∨W.H a=none
  keep:∀ a o,W.H a=some o→¬ RL W a→W'.H a=some o
  hid:W'.hid=W.hid
  still:∀ a,W.H a≠none→W'.H a≠none
structure EnvR (K:PySem.W.Frag) (W:Wd) (Γ:G) (σ:St):Prop where
  len:Γ.length=σ.length
  at_:∀ (i:Nat) d,Γ[i]?=some (some d)→∃ v,σ[i]?=some (some v)∧DR K W d v
section
variable {K:PySem.W.Frag} {W W' W'':Wd} {Γ:G} {σ:St}
theorem Step.refl:Step W W:=⟨fun _ _ h=>h,fun _ h=>.inl h,fun _ _ h _=>h,rfl,fun _ h=>h⟩
theorem Step.nlive (s:Step W W') {a:Addr} {o:HO} (h:W.H a=some o) (n:¬ RL W a):¬ RL W' a:=fun z=>by
  rcases s.live a z with z | z
  · exact n z
  · rw [h] at z;cases z
theorem Step.trans (s:Step W W') (t:Step W' W''):Step W W'' where
  ρ k a h:=t.ρ k a (s.ρ k a h)
  live a h:=by
    rcases t.live a h with z | z
    · exact s.live a z
    · exact .inr (Classical.byContradiction fun n=>s.still a n z)
  keep a o h n:=t.keep a o (s.keep a o h n) (s.nlive h n)
  hid:=t.hid.trans s.hid
  still a h:=t.still a (s.still a h)
theorem Step.nLive (s:Step W W') {a:Addr} {o:HO} (h:W.H a=some o) (n:¬ zrq W a):¬ zrq W' a:=fun z=>by
  rcases z with z | z
  · exact s.nlive h (fun q=>n (.inl q)) z
  · rw [s.hid] at z;exact n (.inr z)
theorem zmy (s:Step W W') {a:Addr} {u:HO} (n:¬ RL W a) (r:Rd W.H a u):Rd W'.H a u:=by
  rcases r with h | ⟨o,h⟩
  · exact .inl (s.keep _ _ h n)
  · exact .inr ⟨o,s.keep _ _ h n⟩
theorem Ok.notup (ok:Ok K W) {a:Addr} {vs:List V} (r:Rd W.H a (.tup vs)):¬ RL W a:=fun ⟨k,o,hk,ha⟩=>by
  obtain ⟨a',ho,h1,h2,h3⟩:=ok.at_ k o hk
  rw [ha] at h1
  cases h1
  rcases r with h | ⟨q,h⟩
  · rw [h2] at h
    cases o with
    | lst ds=>obtain ⟨ws,rfl,_⟩:=h3;cases h
    | dK kvs=>obtain ⟨ws,rfl,_⟩:=h3;cases h
    | dN kvs=>obtain ⟨ws,rfl,_⟩:=h3;cases h
    | ins C fs=>obtain ⟨ws,⟨dx,rfl⟩,_⟩:=h3;cases h
    | exc C=>cases (show _=_ from h3);cases h
  · rw [h2] at h
    cases o with
    | lst ds=>obtain ⟨ws,rfl,_⟩:=h3;cases h
    | dK kvs=>obtain ⟨ws,rfl,_⟩:=h3;cases h
    | dN kvs=>obtain ⟨ws,rfl,_⟩:=h3;cases h
    | ins C fs=>obtain ⟨ws,⟨dx,rfl⟩,_⟩:=h3;cases h
    | exc C=>cases (show _=_ from h3);cases h
theorem zga (ok:Ok K W) (s:Step W W') {a:Addr} {vs:List V} (h:SqT K W.H a vs):SqT K W'.H a vs:=by
  rcases h with h | h
  · exact .inl (zmy s (ok.notup h) h)
  · exact .inr h
theorem Ok.nofrz (ok:Ok K W) {a:Addr} {u:HO} {q:Obj} (h:W.H a=some (.frz q u)):¬ RL W a:=fun ⟨k,o,hk,ha⟩=>by
  obtain ⟨a',ho,h1,h2,h3⟩:=ok.at_ k o hk
  rw [ha] at h1
  cases h1
  rw [h2] at h
  cases o with
  | lst ds=>obtain ⟨ws,rfl,_⟩:=h3;cases h
  | dK kvs=>obtain ⟨ws,rfl,_⟩:=h3;cases h
  | dN kvs=>obtain ⟨ws,rfl,_⟩:=h3;cases h
  | ins C fs=>obtain ⟨ws,⟨dx,rfl⟩,_⟩:=h3;cases h
  | exc C=>cases (show _=_ from h3);cases h
theorem zgf (ok:Ok K W) (s:Step W W') {a:Addr} {vs:List V} (h:SqF K W.H a vs):SqF K W'.H a vs:=by
  rcases h with ⟨o,h⟩ | h
  · exact .inl ⟨o,s.keep _ _ h (ok.nofrz h)⟩
  · exact .inr h
mutual
theorem DR.step (ok:Ok K W) (s:Step W W'):∀ {d:D} {v:V},DR K W d v→DR K W' d v
  | _,_,.non=>.non
  | _,_,.bl b=>.bl b
  | _,_,.int i=>.int i
  | _,_,.str x=>.str x
  | _,_,.ref h=>.ref (s.ρ _ _ h)
  | _,_,.lst r n h=>.lst (s.keep _ _ r (fun z=>n (.inl z))) (s.nLive r n) (DRs.step ok s h)
  | _,_,.scr r h=>.scr (zgf ok s r) (DRs.step ok s h)
  | _,_,.tup r h=>.tup (s.keep _ _ r (ok.notup (.inl r))) (DRs.step ok s h)
  | _,_,.gt r h=>.gt (zga ok s r) (DRs.step ok s h)
theorem DRs.step (ok:Ok K W) (s:Step W W'):∀ {ds:List D} {vs:List V},DRs K W ds vs→DRs K W' ds vs
  | _,_,.nil=>.nil
  | _,_,.cons h t=>.cons (h.step ok s) (DRs.step ok s t)
end
theorem KR.step (ok:Ok K W) (s:Step W W') {kvs:List (Key×D)} {vs:List (Key×V)} (h:KR K W kvs vs):KR K W' kvs vs:=Paired.mapP h fun _ _ ⟨e,q⟩=>⟨e,q.step ok s⟩
theorem NR.step (ok:Ok K W) (s:Step W W') {kvs:List (NK×D)} {vs:List (NK×V)} (h:NR K W kvs vs):NR K W' kvs vs:=Paired.mapP h fun _ _ ⟨e,q⟩=>⟨e,q.step ok s⟩
theorem FR.step (ok:Ok K W) (s:Step W W') {kvs:List (Str×D)} {vs:List (Str×V)} (h:FR K W kvs vs):FR K W' kvs vs:=Paired.mapP h fun _ _ ⟨e,q⟩=>⟨e,q.step ok s⟩
theorem OR.step (ok:Ok K W) (s:Step W W') {a:Addr} {o:O} {ho:HO} (h:OR K W a o ho):OR K W' a o ho:=by
  cases o with
  | lst ds=>obtain ⟨vs,e,q⟩:=h;exact ⟨vs,e,q.step ok s⟩
  | dK kvs=>obtain ⟨vs,e,q⟩:=h;exact ⟨vs,e,q.step ok s⟩
  | dN kvs=>obtain ⟨vs,e,q⟩:=h;exact ⟨vs,e,q.step ok s⟩
  | ins C fs=>obtain ⟨vs,e,q⟩:=h;exact ⟨vs,e,q.step ok s⟩
  | exc C=>exact h
theorem EnvR.step (e:EnvR K W Γ σ) (ok:Ok K W) (s:Step W W'):EnvR K W' Γ σ:=⟨e.len,fun i d h=>let ⟨v,a,b⟩:=e.at_ i d h;⟨v,a,b.step ok s⟩⟩
theorem DRs.length:∀ {ds:List D} {vs:List V},DRs K W ds vs→ds.length=vs.length
  | _,_,.nil=>rfl
  | _,_,.cons _ t=>by simp [t.length]
theorem DRs.get:∀ {ds:List D} {vs:List V} {i:Nat} {d:D},DRs K W ds vs→ds[i]?=some d→∃ v,vs[i]?=some v∧DR K W d v
  | _,_,_,_,.nil,e=>by simp at e
  | _,_,0,_,.cons h _,e=>by simp at e;subst e;exact ⟨_,rfl,h⟩
  | _,_,i+1,d,.cons _ t,e=>by
    refine bq fun bG=>?_
    obtain ⟨v,h1,h2⟩:=DRs.get (i:=i) (d:=d) t (by simpa using e)
    exact bG (⟨v,by simpa using h1,h2⟩)
theorem DRs.append:∀ {ds es:List D} {vs us:List V},DRs K W ds vs→DRs K W es us→DRs K W (ds++es) (vs++us)
  | _,_,_,_,.nil,s=>s
  | _,_,_,_,.cons h t,s=>.cons h (DRs.append t s)
theorem DRs.take:∀ {ds:List D} {vs:List V} (n:Nat),DRs K W ds vs→DRs K W (ds.take n) (vs.take n)
  | _,_,0,_=>.nil
  | _,_,_+1,.nil=>.nil
  | _,_,n+1,.cons r t=>.cons r (DRs.take n t)
theorem DRs.drop:∀ {ds:List D} {vs:List V} (n:Nat),DRs K W ds vs→DRs K W (ds.drop n) (vs.drop n)
  | _,_,0,r=>r
  | _,_,_+1,.nil=>.nil
  | _,_,n+1,.cons _ t=>DRs.drop n t
theorem DRs.set {d:D} {v:V} (r:DR K W d v):∀ {ds:List D} {vs:List V} (i:Nat),DRs K W ds vs→DRs K W (ds.set i d) (vs.set i v)
  | _,_,_,.nil=>.nil
  | _,_,0,.cons _ t=>.cons r t
  | _,_,i+1,.cons q t=>.cons q (DRs.set r i t)
theorem DRs.rep {ds:List D} {vs:List V} (h:DRs K W ds vs):∀ n,DRs K W (List.replicate n ds).flatten (List.replicate n vs).flatten
  | 0=>.nil
  | n+1=>by simp only [List.replicate_succ,List.flatten_cons];exact h.append (DRs.rep h n)
end
section
variable {K:PySem.W.Frag} {W:Wd}
noncomputable def Wd.lay (W:Wd) (p:Addr) (o:HO):Wd:={ W with H:=upd W.H p o }
theorem zhu (ok:Ok K W) {p:Addr} (h:W.H p=none):¬ RL W p:=fun ⟨k,o,_,ha⟩=>ok.rs p (List.mem_of_getElem? ha) h
theorem z6x (ok:Ok K W) {p:Addr} (h:W.H p=none):¬ W.hid p:=fun z=>(ok.hd p z).1 h
theorem zdb (ok:Ok K W) {p:Addr} (h:W.H p=none):¬ zrq W p:=fun z=>z.elim (zhu ok h) (z6x ok h)
theorem z0g {p:Addr} {o:HO} (h:W.H p=none):Step W (W.lay p o) where
  ρ _ _ h:=h
  live _ h:=.inl h
  keep a u e _:=by show upd W.H p o a=_;rw [z09 (z0b e h)];exact e
  hid:=rfl
  still a n:=by
    show upd W.H p o a≠none
    by_cases e:a=p
    · subst e;rw [z0i];simp
    · rw [z09 e];exact n
theorem z4v (ok:Ok K W) {p:Addr} {o:HO} (h:W.H p=none):Ok K (W.lay p o) where
  len:=ok.len
  nd:=ok.nd
  rs a m:=(z0g h).still a (ok.rs a m)
  at_ k u e:=by
    refine bq fun bG=>?_
    obtain ⟨a,ho,h1,h2,h3⟩:=ok.at_ k u e
    refine bG (⟨a,ho,h1,?_,h3.step ok (z0g h)⟩)
    show upd W.H p o a=_
    rw [z09 (z0b h2 h)];exact h2
  hd0 a z:=⟨(z0g h).still a (ok.hd a z).1,(ok.hd0 a z).2⟩
theorem zh8 (ok:Ok K W) {p:Addr} {o:HO} (h:W.H p=none):¬ zrq (W.lay p o) p:=zdb ok h
theorem z8c (ok:Ok K W) {p:Addr} {ds:List D} {vs:List V} (h:W.H p=none) (r:DRs K W ds vs):DR K (W.lay p (.lst vs)) (.lst ds) (.ref p) :=
  .lst z0i (zh8 ok h) (r.step ok (z0g h))
theorem zeg (ok:Ok K W) {p:Addr} {ds:List D} {vs:List V} (h:W.H p=none) (r:DRs K W ds vs):DR K (W.lay p (.tup vs)) (.tup ds) (.ref p) :=
  .tup z0i (r.step ok (z0g h))
noncomputable def Wd.new (W:Wd) (p:Addr) (o:HO) (x:O):Wd:={ W with H:=upd W.H p o,ρ:=W.ρ++[p],μ:=W.μ++[some x] }
theorem z7l {α:Type} {l:List α} {x y:α} {k:Nat} (h:(l++[x])[k]?=some y):l[k]?=some y∨(k=l.length∧y=x):=by
  by_cases hk:k<l.length
  · rw [List.getElem?_append_left hk] at h;exact .inl h
  · rw [List.getElem?_append_right (by omega)] at h
    have:k - l.length=0:=by
      cases e:k - l.length with
      | zero=>rfl
      | succ n=>rw [e] at h;simp at h
    rw [this] at h
    simp at h
    exact .inr ⟨by omega,h.symm⟩
theorem zph (ok:Ok K W) {p a:Addr} {o:HO} {x:O} (h:RL (W.new p o x) a):RL W a∨a=p:=by
  obtain ⟨k,u,h1,h2⟩:=h
  rcases z7l h1 with z | ⟨e,_⟩
  · rcases z7l h2 with y | ⟨e,y⟩
    · exact .inl ⟨k,u,z,y⟩
    · have:=(List.getElem?_eq_some_iff.mp z).1
      rw [e,ok.len] at this
      omega
  · rcases z7l h2 with y | ⟨_,y⟩
    · have:=(List.getElem?_eq_some_iff.mp y).1
      rw [e,← ok.len] at this
      omega
    · exact .inr y
theorem z3a (ok:Ok K W) {p:Addr} {o:HO} {x:O} (h:W.H p=none):Step W (W.new p o x) where
  ρ k a e:=by
    show (W.ρ++[p])[k]?=_
    rw [List.getElem?_append_left (List.getElem?_eq_some_iff.mp e).1];exact e
  live a z:=by
    rcases zph ok z with z | rfl
    · exact .inl z
    · exact .inr h
  keep a u e _:=by show upd W.H p o a=_;rw [z09 (z0b e h)];exact e
  hid:=rfl
  still a n:=by
    show upd W.H p o a≠none
    by_cases e:a=p
    · subst e;rw [z0i];simp
    · rw [z09 e];exact n
theorem ze1 (ok:Ok K W) {p:Addr} {o:HO} {x:O} (h:W.H p=none) (r:OR K W p x o):Ok K (W.new p o x) where
  len:=by show (W.ρ++[p]).length=(W.μ++[some x]).length;simp [ok.len]
  nd:=by
    show (W.ρ++[p]).Nodup
    rw [List.nodup_append]
    refine ⟨ok.nd,by simp,fun a ha b hb e=>?_⟩
    simp at hb
    subst hb e
    exact ok.rs _ ha h
  rs a m:=by
    rcases List.mem_append.mp m with m | m
    · exact (z3a ok h).still a (ok.rs a m)
    · simp at m
      subst m
      show upd W.H a o a≠none
      rw [z0i];simp
  at_ k u e:=by
    rcases z7l e with e | ⟨e,y⟩
    · obtain ⟨a,ho,h1,h2,h3⟩:=ok.at_ k u e
      refine ⟨a,ho,(z3a ok h).ρ k a h1,?_,h3.step ok (z3a ok h)⟩
      show upd W.H p o a=_
      rw [z09 (z0b h2 h)];exact h2
    · cases y
      rename_i hk
      refine ⟨p,o,?_,z0i,r.step ok (z3a ok h)⟩
      show (W.ρ++[p])[k]?=_
      rw [hk,← ok.len];simp
  hd0 a z:=by
    refine ⟨(z3a ok h).still a (ok.hd a z).1,fun q=>?_⟩
    have q:a∈W.ρ++[p]:=q
    rcases List.mem_append.mp q with q | q
    · exact (ok.hd0 a z).2 q
    · simp at q
      subst q
      exact (ok.hd a z).1 h
theorem zeh (ok:Ok K W) {p:Addr} {o:HO} {x:O}:DR K (W.new p o x) (.ref W.μ.length) (.ref p):=by
  refine .ref ?_
  show (W.ρ++[p])[W.μ.length]?=_
  rw [← ok.len];simp
noncomputable def Wd.put (W:Wd) (k:Nat) (a:Addr) (o:HO) (x:O):Wd:={ W with H:=upd W.H a o,μ:=W.μ.set k (some x) }
theorem zpg {k:Nat} {a b:Addr} {o:HO} {x y:O} (hk:W.μ[k]?=some (some y)):RL (W.put k a o x) b↔RL W b:=by
  have hlt:=(List.getElem?_eq_some_iff.mp hk).1
  constructor
  · rintro ⟨j,u,h1,h2⟩
    have h1:(W.μ.set k (some x))[j]?=some (some u):=h1
    by_cases e:j=k
    · subst e;exact ⟨j,y,hk,h2⟩
    · rw [List.getElem?_set_ne (Ne.symm e)] at h1;exact ⟨j,u,h1,h2⟩
  · rintro ⟨j,u,h1,h2⟩
    by_cases e:j=k
    · subst e;exact ⟨j,x,by show (W.μ.set j (some x))[j]?=_;simp [hlt],h2⟩
    · exact ⟨j,u,by show (W.μ.set k (some x))[j]?=_;rw [List.getElem?_set_ne (Ne.symm e)];exact h1,h2⟩
theorem z6c {k:Nat} {a:Addr} {o:HO} {x y:O} (hk:W.μ[k]?=some (some y)) (ha:W.ρ[k]?=some a):Step W (W.put k a o x) where
  ρ _ _ h:=h
  live b z:=.inl ((zpg hk).mp z)
  keep b u e n:=by
    have hne:b≠a:=fun z=>n (by rw [z];exact ⟨k,y,hk,ha⟩)
    show upd W.H a o b=_
    rw [z09 hne];exact e
  hid:=rfl
  still b n:=by
    show upd W.H a o b≠none
    by_cases e:b=a
    · subst e;rw [z0i];simp
    · rw [z09 e];exact n
theorem zqn (ok:Ok K W) {k:Nat} {a:Addr} {o:HO} {x y:O} (hk:W.μ[k]?=some (some y)) (ha:W.ρ[k]?=some a) (r:OR K W a x o):Ok K (W.put k a o x) where
  len:=by show W.ρ.length=(W.μ.set k (some x)).length;simp [ok.len]
  nd:=ok.nd
  rs b m:=(z6c hk ha).still b (ok.rs b m)
  at_ j u e:=by
    have e:(W.μ.set k (some x))[j]?=some (some u):=e
    by_cases z:j=k
    · subst z
      have hlt:=(List.getElem?_eq_some_iff.mp hk).1
      simp [hlt] at e
      subst e
      exact ⟨a,o,ha,z0i,r.step ok (z6c hk ha)⟩
    · rw [List.getElem?_set_ne (Ne.symm z)] at e
      refine bq fun bG=>?_
      obtain ⟨b,ho,h1,h2,h3⟩:=ok.at_ j u e
      refine bG (⟨b,ho,h1,?_,h3.step ok (z6c hk ha)⟩)
      have hne:b≠a:=fun q=>z (zkf ok.nd h1 (by rw [q];exact ha))
      show upd W.H a o b=_
      rw [z09 hne];exact h2
  hd0 b z:=⟨(z6c hk ha).still b (ok.hd b z).1,(ok.hd0 b z).2⟩
noncomputable def Wd.hide (W:Wd) (p:Addr) (o:HO):Wd:={ W with H:=upd W.H p o,hid:=fun a=>a=p∨W.hid a }
end
noncomputable abbrev EV:=G→M→Option (D×M)
noncomputable abbrev BV:=G→M→Option (Bool×M)
noncomputable abbrev LV:=G→M→Option (List D×M)
inductive Out where
  | nx | bk | ct | rt (d:D)
noncomputable abbrev SV:=G→M→Option (Out×G×M)
section
variable (K:PySem.W.Frag)
def tD (ev:EV):TE:=fun σ H Q=>∃ (W:Wd) (Γ:G) (d:D) (μ':M),W.H=H∧Ok K W∧EnvR K W Γ σ∧ev Γ W.μ=some (d,μ')∧∀ v W',W'.μ=μ'→Ok K W'→Step W W'→DR K W' d v→Q v W'.H
def tDB (ev:BV):TT:=fun σ H Q=>∃ (W:Wd) (Γ:G) (b:Bool) (μ':M),W.H=H∧Ok K W∧EnvR K W Γ σ∧ev Γ W.μ=some (b,μ')∧∀ W',W'.μ=μ'→Ok K W'→Step W W'→Q b W'.H
def tDL (ev:LV):TA:=fun σ H Q=>∃ (W:Wd) (Γ:G) (ds:List D) (μ':M),W.H=H∧Ok K W∧EnvR K W Γ σ∧ev Γ W.μ=some (ds,μ')∧∀ vs W',W'.μ=μ'→Ok K W'→Step W W'→DRs K W' ds vs→Q vs W'.H
def fin (D:Ends) (W':Wd) (σ':St):Out→Prop
  | .nx=>D.nx σ' W'.H
  | .bk=>D.bk σ' W'.H
  | .ct=>D.ct σ' W'.H
  | .rt d=>∀ v,DR K W' d v→D.rt v W'.H
def tDS (es:SV):TS:=fun D σ H=>∃ (W:Wd) (Γ:G) (out:Out) (Γ':G) (μ':M),W.H=H∧Ok K W∧EnvR K W Γ σ∧es Γ W.μ=some (out,Γ',μ')∧∀ W' σ',W'.μ=μ'→Ok K W'→Step W W'→EnvR K W' Γ' σ'→fin K D W' σ' out
end
section
variable {X:Cx} {e:Expr}
theorem z0f {t t':TE} (h:PE X e t) (hi:∀ σ H Q,t' σ H Q→t σ H Q):PE X e t':=fun pins s σ H Q I hw=>h pins s σ H Q I (hi _ _ _ hw)
theorem z8h {t t':TT} (h:PT X e t) (hi:∀ σ H Q,t' σ H Q→t σ H Q):PT X e t':=fun pins s σ H Q I hw=>h pins s σ H Q I (hi _ _ _ hw)
theorem zm6 {t t':TT} (h:PW X e t) (hi:∀ σ H Q,t' σ H Q→t σ H Q):PW X e t':=fun wh pins s σ H Q I hw=>h wh pins s σ H Q I (hi _ _ _ hw)
theorem zir {es:List Expr} {t t':TA} (h:PA X es t) (hi:∀ σ H Q,t' σ H Q→t σ H Q):PA X es t':=fun pos pins s σ H Q I hw=>h pos pins s σ H Q I (hi _ _ _ hw)
theorem z3o {st:Stmt} {t t':TS} (h:PS X st t) (hi:∀ D σ H,t' D σ H→t D σ H):PS X st t':=fun pins s σ H D I hw=>h pins s σ H D I (hi _ _ _ hw)
theorem z8i {st:List Stmt} {t t':TS} (h:PSs X st t) (hi:∀ D σ H,t' D σ H→t D σ H):PSs X st t':=fun pins s σ H D I hw=>h pins s σ H D I (hi _ _ _ hw)
end
theorem bnd {α β:Type} {x:Option α} {f:α→Option β} {b:β} (h:x.bind f=some b):∃ a,x=some a∧f a=some b:=Option.bind_eq_some_iff.mp h
theorem el4 {α:Type} {p:Wd→Prop} {q:Wd→G→Prop} {r s:Wd→G→α→M→Prop} {Z:Prop} {H:Hp} (h:∃ (W:Wd) (Γ:G) (d:α) (μ':M),W.H=H∧p W∧q W Γ∧r W Γ d μ'∧s W Γ d μ') (k:∀ W Γ d μ',W.H=H→p W→q W Γ→r W Γ d μ'→s W Γ d μ'→Z):Z:=by
  refine bq fun bG=>?_
  obtain ⟨W,Γ,d,μ',rfl,a,b,c,e⟩:=h
  exact bG (k W Γ d μ' rfl a b c e)
theorem el5 {α β:Type} {p:Wd→Prop} {q:Wd→G→Prop} {r s:Wd→G→α→β→M→Prop} {Z:Prop} {H:Hp} (h:∃ (W:Wd) (Γ:G) (d:α) (b:β) (μ':M),W.H=H∧p W∧q W Γ∧r W Γ d b μ'∧s W Γ d b μ') (k:∀ W Γ d b μ',W.H=H→p W→q W Γ→r W Γ d b μ'→s W Γ d b μ'→Z):Z:=by
  refine bq fun bG=>?_
  obtain ⟨W,Γ,d,x,μ',rfl,a,b,c,e⟩:=h
  exact bG (k W Γ d x μ' rfl a b c e)
theorem z02 {α β:Type} {x:Option α} {f:α→Option β} {b:β} {Z:Prop} (h:x.bind f=some b) (k:∀ a,x=some a→f a=some b→Z):Z:=by
  refine bq fun bG=>?_
  obtain ⟨a,h1,h2⟩:=bnd h
  exact bG (k a h1 h2)
noncomputable def z5v (μ:M):D→Option (List D)
  | .lst ds=>some ds
  | .scr ds=>some ds
  | .ref k=>match μ[k]? with
    | some (some (.lst ds))=>some ds
    | _=>none
  | _=>none
noncomputable def zcm (μ:M):D→Option (List D)
  | .lst ds=>some ds
  | .ref k=>match μ[k]? with
    | some (some (.lst ds))=>some ds
    | _=>none
  | _=>none
noncomputable def zjg:D→Option (List D)
  | .tup ds=>some ds
  | .gt ds=>some ds
  | _=>none
section
variable {K:PySem.W.Frag} {W:Wd} {d:D} {ds:List D} {v:V}
theorem z7z (ok:Ok K W) {k:Nat} (h:W.μ[k]?=some (some (.lst ds))) (r:DR K W (.ref k) v):∃ a vs,v=.ref a∧W.ρ[k]?=some a∧W.H a=some (.lst vs)∧DRs K W ds vs:=by
  cases r with
  | ref ha =>
    refine bq fun bG=>?_
    obtain ⟨a',ho,h1,h2,vs,rfl,r⟩:=ok.at_ k _ h
    rw [ha] at h1
    cases h1
    exact bG (⟨_,vs,rfl,ha,h2,r⟩)
theorem z62 (ok:Ok K W) (h:zcm W.μ d=some ds) (r:DR K W d v):∃ a vs,v=.ref a∧W.H a=some (.lst vs)∧DRs K W ds vs:=by
  cases d with
  | lst xs =>
    cases h
    cases r with
    | lst r n h=>exact ⟨_,_,rfl,r,h⟩
  | ref k =>
    simp only [zcm] at h
    split at h
    · rename_i xs hk
      cases h
      refine bq fun bG=>?_
      obtain ⟨a,vs,e,_,e2,e3⟩:=z7z ok hk r
      exact bG (⟨a,vs,e,e2,e3⟩)
    · cases h
  | _=>cases h
theorem z54 (ok:Ok K W) (h:z5v W.μ d=some ds) (r:DR K W d v):∃ a vs,v=.ref a∧SqL K W.H a vs∧DRs K W ds vs:=by
  cases d with
  | lst xs =>
    cases h
    cases r with
    | lst r n h=>exact ⟨_,_,rfl,SqL.of r,h⟩
  | scr xs =>
    cases h
    cases r with
    | scr r h=>exact ⟨_,_,rfl,r.seq,h⟩
  | ref k =>
    simp only [z5v] at h
    split at h
    · rename_i xs hk
      cases h
      refine bq fun bG=>?_
      obtain ⟨a,vs,e,_,e2,e3⟩:=z7z ok hk r
      exact bG (⟨a,vs,e,SqL.of e2,e3⟩)
    · cases h
  | _=>cases h
theorem z63 (h:zjg d=some ds) (r:DR K W d v):∃ a vs,v=.ref a∧SqT K W.H a vs∧DRs K W ds vs:=by
  cases d with
  | tup xs =>
    cases h
    cases r with
    | tup r h=>exact ⟨_,_,rfl,SqT.of r,h⟩
  | gt xs =>
    cases h
    cases r with
    | gt r h=>exact ⟨_,_,rfl,r,h⟩
  | _=>cases h
theorem zik {vs:List V} {i:Int} (r:DRs K W ds vs) (h:atI ds i=some d):∃ v,atI vs i=some v∧DR K W d v:=by
  unfold atI at h ⊢
  refine z02 h fun j h1 h2=>?_
  rw [r.length] at h1
  obtain ⟨v,e,q⟩:=r.get h2
  exact ⟨v,by rw [h1];exact e,q⟩
end
noncomputable def z04 (i:Nat):EV:=fun Γ μ=>match Γ[i]? with
  | some (some d)=>some (d,μ)
  | _=>none
noncomputable def vC (d:D):EV:=fun _ μ=>some (d,μ)
noncomputable def v2 (f:D→D→M→Option (D×M)) (ea eb:EV):EV:=fun Γ μ=>(ea Γ μ).bind fun p=>(eb Γ p.2).bind fun q=>f p.1 q.1 q.2
noncomputable def v1 (f:D→M→Option (D×M)) (ea:EV):EV:=fun Γ μ=>(ea Γ μ).bind fun p=>f p.1 p.2
def R2A (K:PySem.W.Frag) (r:R2) (f:D→D→M→Option (D×M)):Prop:=∀ (W:Wd) (x y:V) (d e z:D) (μ':M) (Q:VK),Ok K W→DR K W d x→DR K W e y→f d e W.μ=some (z,μ') →
  (∀ v W',W'.μ=μ'→Ok K W'→Step W W'→DR K W' z v→Q v W'.H)→r x y W.H Q
def R1A (K:PySem.W.Frag) (r:V→Hp→VK→Prop) (f:D→M→Option (D×M)):Prop:=∀ (W:Wd) (x:V) (d z:D) (μ':M) (Q:VK),Ok K W→DR K W d x→f d W.μ=some (z,μ') →
  (∀ v W',W'.μ=μ'→Ok K W'→Step W W'→DR K W' z v→Q v W'.H)→r x W.H Q
noncomputable def vT (ev:EV):BV:=fun Γ μ=>(ev Γ μ).bind fun p=>match p.1 with
  | .bl b=>some (b,p.2)
  | _=>none
section
variable {X:Cx} {K:PySem.W.Frag} {a b c:Expr} {ea eb ec:EV} {pos:Pos}
theorem z00 (i:Nat) {x:Str} (hN:X.N[i]?=some x:=by rfl) (hv:Vis X.env.scope x:=by first | exact Or.inl rfl | exact Or.inr (Or.inl rfl) | exact Or.inr (Or.inr rfl)) (hd:(x==("__debug__" : Str))=false:=by decide)
    (hcd:(x==("__classdict__" : Str))=false:=by decide):PE X (.Name x pos) (tD K (z04 i)):=z0f (zlk hN hv hd hcd) fun σ H Q h=>by
  refine el4 h fun W Γ d μ' eH ok en e q=>?_;subst eH
  unfold z04 at e
  split at e
  · rename_i d' hd
    cases e
    refine bq fun bG=>?_
    obtain ⟨v,hv,r⟩:=en.at_ i _ hd
    exact bG (⟨v,hv,q v W rfl ok .refl r⟩)
  · cases e
theorem zba {d:D} {v:V} (h:∀ W,DR K W d v):∀ σ H Q,tD K (vC d) σ H Q→tC v σ H Q:=fun σ H Q hh=>by
  refine bq fun bG=>?_
  obtain ⟨W,Γ,d,μ',rfl,ok,en,e,q⟩:=hh
  cases e
  exact bG (q v W rfl ok .refl (h W))
theorem z0a {i j}:PE X (.Constant (.int i) j pos) (tD K (vC (.int i))):=z0f zqc (zba fun _=>.int i)
theorem zcl {b j}:PE X (.Constant (.bool b) j pos) (tD K (vC (.bl b))):=z0f zsx (zba fun _=>.bl b)
theorem zon {j}:PE X (.Constant .none j pos) (tD K (vC .non)):=z0f zqb (zba fun _=>.non)
theorem zer {x j}:PE X (.Constant (.str x) j pos) (tD K (vC (.str x))):=z0f zll (zba fun _=>.str x)
theorem zor {x:Str} {d:D} {v:V} {u:Value} (hm:X.mg x=some u) (r:RelV v u) (h:∀ W,DR K W d v) (hg:Gl X x:=by rfl) (hd:(x==("__debug__" : Str))=false:=by decide):PE X (.Name x pos) (tD K (vC d)):=z0f (z53 hg hm r hd) (zba h)
theorem z6b {r:R2} {f:D→D→M→Option (D×M)} (ra:R2A K r f):∀ σ H Q,tD K (v2 f ea eb) σ H Q→tOp r (tD K ea) (tD K eb) σ H Q:=fun σ H Q h=>by
  refine el4 h fun W Γ d μ' eH ok en e q=>?_;subst eH
  refine z02 e fun p1 e1 e=>?_
  refine z02 e fun p2 e2 e=>?_
  refine ⟨W,Γ,p1.1,p1.2,rfl,ok,en,e1,fun x W1 hμ ok1 s1 r1=>⟨W1,Γ,p2.1,p2.2,rfl,ok1,en.step ok s1,by rw [hμ];exact e2,fun y W2 hμ2 ok2 s2 r2=>?_⟩⟩
  exact ra W2 x y _ _ _ _ Q ok2 (r1.step ok1 s2) r2 (by rw [hμ2];exact e) fun v W3 hμ3 ok3 s3 r3=>q v W3 hμ3 ok3 ((s1.trans s2).trans s3) r3
theorem z59 {r:V→Hp→VK→Prop} {f:D→M→Option (D×M)} (ra:R1A K r f):∀ σ H Q,tD K (v1 f ea) σ H Q→(fun σ H Q=>tD K ea σ H fun x H1=>r x H1 Q:TE) σ H Q:=fun σ H Q h=>by
  refine el4 h fun W Γ d μ' eH ok en e q=>?_;subst eH
  refine z02 e fun p1 e1 e=>?_
  refine ⟨W,Γ,p1.1,p1.2,rfl,ok,en,e1,fun x W1 hμ ok1 s1 r1=>?_⟩
  exact ra W1 x _ _ _ Q ok1 r1 (by rw [hμ];exact e) fun v W3 hμ3 ok3 s3 r3=>q v W3 hμ3 ok3 (s1.trans s3) r3
theorem zma {op:Operator} {r:R2} {f:D→D→M→Option (D×M)} (ho:OpR X (binaryOp op) r) (ra:R2A K r f) (ha:PE X a (tD K ea)) (hb:PE X b (tD K eb)):PE X (.BinOp a op b pos) (tD K (v2 f ea eb)):=z0f (zsu ho ha hb) (z6b ra)
theorem zmf {op:CmpOp} {r:R2} {f:D→D→M→Option (D×M)} (ho:OpR X (compareOp op) r) (ra:R2A K r f) (ha:PE X a (tD K ea)) (hb:PE X b (tD K eb)) (hm:behindInMarks op b=false):PE X (.Compare a [op] [b] pos) (tD K (v2 f ea eb)):=z0f (zcx ho ha hb hm) (z6b ra)
theorem zdo {t:TE} (h:∀ σ H Q,tD K ea σ H Q→t σ H Q):∀ σ H Q,tDB K (vT ea) σ H Q→zgb t σ H Q:=fun σ H Q hh=>by
  refine bq fun bG=>?_
  obtain ⟨W,Γ,k,μ',rfl,ok,en,e,q⟩:=hh
  refine z02 e fun p1 e1 e=>?_
  refine bG (h σ _ _ ⟨W,Γ,p1.1,p1.2,rfl,ok,en,e1,fun x W1 hμ ok1 s1 r1=>?_⟩)
  split at e
  · rename_i k' hk
    cases e
    rw [hk] at r1
    cases r1
    exact ⟨_,rfl,q W1 hμ ok1 s1⟩
  · cases e
theorem zdl {op:CmpOp} {r:R2} {f:D→D→M→Option (D×M)} (ho:OpR X (compareOp op) r) (ra:R2A K r f) (ha:PE X a (tD K ea)) (hb:PE X b (tD K eb)) (hm:behindInMarks op b=false):PT X (.Compare a [op] [b] pos) (tDB K (vT (v2 f ea eb))):=z8h (zcw ho ha hb hm) (zdo (z6b ra))
end
noncomputable def fI0 (g:Int→Int→D):D→D→M→Option (D×M)
  | .int i,.int j,μ=>some (g i j,μ)
  | _,_,_=>none
noncomputable def fI (C:Int→Int→Prop) [∀ i j,Decidable (C i j)] (g:Int→Int→D):D→D→M→Option (D×M)
  | .int i,.int j,μ=>if C i j then some (g i j,μ) else none
  | _,_,_=>none
section
variable {K:PySem.W.Frag}
theorem zbi {g:Int→Int→V} {h:Int→Int→D} (hh:∀ W i j,DR K W (h i j) (g i j)):R2A K (rI0 g) (fI0 h):=by
  intro W x y d e z μ' Q ok r1 r2 hf q
  unfold fI0 at hf
  split at hf
  · cases hf;cases r1;cases r2;exact ⟨_,_,rfl,rfl,q _ W rfl ok .refl (hh W _ _)⟩
  · cases hf
theorem zrt {C:Int→Int→Prop} [∀ i j,Decidable (C i j)] {g:Int→Int→V} {h:Int→Int→D} (hh:∀ W i j,DR K W (h i j) (g i j)):R2A K (rI C g) (fI C h):=by
  intro W x y d e z μ' Q ok r1 r2 hf q
  unfold fI at hf
  split at hf
  · split at hf
    · rename_i hc;cases hf;cases r1;cases r2;exact ⟨_,_,rfl,rfl,hc,q _ W rfl ok .refl (hh W _ _)⟩
    · cases hf
  · cases hf
end
noncomputable instance {i j:Int}:Decidable (CMul i j):=by unfold CMul;infer_instance
noncomputable instance {i j:Int}:Decidable (zrr i j):=by unfold zrr;infer_instance
def zcb (_ j:Int):Prop:=0<j∧j<2 ^ 200
def zca (_ j:Int):Prop:=0<j
noncomputable instance {i j:Int}:Decidable (zcb i j):=by unfold zcb;infer_instance
noncomputable instance {i j:Int}:Decidable (zca i j):=by unfold zca;infer_instance
section
variable {X:Cx} {K:PySem.W.Frag} {a b c:Expr} {ea eb ec:EV} {pos:Pos}
noncomputable abbrev zs2:=fI0 fun i j=>.int (i - j)
noncomputable abbrev zv3:=fI CMul fun i j=>.int (i*j)
noncomputable abbrev zti:=fI zcb fun i j=>.int (i / j)
noncomputable abbrev ziw:=fI zca fun i j=>.int (i % j)
noncomputable abbrev zu9:=fI zrr fun i j=>.int (i ^ j.toNat)
noncomputable abbrev fLt:=fI0 fun i j=>.bl (decide (i<j))
noncomputable abbrev fLe:=fI0 fun i j=>.bl (decide (i≤j))
noncomputable abbrev fGt:=fI0 fun i j=>.bl (decide (j<i))
noncomputable abbrev fGe:=fI0 fun i j=>.bl (decide (j≤i))
theorem zol (ha:PE X a (tD K ea)) (hb:PE X b (tD K eb)):PE X (.BinOp a .Sub b pos) (tD K (v2 zs2 ea eb)):=zma zqf (zbi fun _ _ _=>.int _) ha hb
theorem zl1 (ha:PE X a (tD K ea)) (hb:PE X b (tD K eb)):PE X (.BinOp a .FloorDiv b pos) (tD K (v2 zti ea eb)):=zma zkc (zrt (C:=zcb) fun _ _ _=>.int _) ha hb
theorem zb5 (ha:PE X a (tD K ea)) (hb:PE X b (tD K eb)):PE X (.BinOp a .Mod b pos) (tD K (v2 ziw ea eb)):=zma zqj (zrt (C:=zca) fun _ _ _=>.int _) ha hb
theorem zs6 (ha:PE X a (tD K ea)) (hb:PE X b (tD K eb)):PE X (.BinOp a .Pow b pos) (tD K (v2 zu9 ea eb)):=zma zqh (zrt fun _ _ _=>.int _) ha hb
theorem zts (ha:PE X a (tD K ea)) (hb:PE X b (tD K eb)):PE X (.Compare a [.Gt] [b] pos) (tD K (v2 fGt ea eb)):=zmf zql (zbi fun _ _ _=>.bl _) ha hb (z85 _)
theorem zfw (ha:PE X a (tD K ea)) (hb:PE X b (tD K eb)):PT X (.Compare a [.Lt] [b] pos) (tDB K (vT (v2 fLt ea eb))):=zdl znl (zbi fun _ _ _=>.bl _) ha hb (z85 _)
theorem zoq (ha:PE X a (tD K ea)) (hb:PE X b (tD K eb)):PT X (.Compare a [.Gt] [b] pos) (tDB K (vT (v2 fGt ea eb))):=zdl zql (zbi fun _ _ _=>.bl _) ha hb (z85 _)
noncomputable def zua:D→M→Option (D×M)
  | .int i,μ=>some (.int (-i),μ)
  | _,_=>none
noncomputable def zm4 (t u:BV):BV:=fun Γ μ=>(t Γ μ).bind fun p=>if p.1=true then u Γ p.2 else some (false,p.2)
noncomputable def bOr (t u:BV):BV:=fun Γ μ=>(t Γ μ).bind fun p=>if p.1=true then some (true,p.2) else u Γ p.2
noncomputable def zdg (t:BV):BV:=fun Γ μ=>(t Γ μ).bind fun p=>some (!p.1,p.2)
variable {ba bb:BV} {z4d:List Expr}
theorem zky:∀ σ H Q,tDB K (zm4 ba bb) σ H Q→ztv (tDB K ba) (tDB K bb) σ H Q:=fun σ H Q h=>by
  refine el4 h fun W Γ k μ' eH ok en e q=>?_;subst eH
  refine z02 e fun p1 e1 e=>?_
  refine ⟨W,Γ,p1.1,p1.2,rfl,ok,en,e1,fun W1 hμ ok1 s1=>?_⟩
  split at e
  · rename_i hp;rw [if_pos hp];exact ⟨W1,Γ,k,μ',rfl,ok1,en.step ok s1,by rw [hμ];exact e,fun W2 hμ2 ok2 s2=>q W2 hμ2 ok2 (s1.trans s2)⟩
  · rename_i hp;cases e;rw [if_neg hp];exact q W1 hμ ok1 s1
theorem zo9:∀ σ H Q,tDB K (bOr ba bb) σ H Q→tOr (tDB K ba) (tDB K bb) σ H Q:=fun σ H Q h=>by
  refine el4 h fun W Γ k μ' eH ok en e q=>?_;subst eH
  refine z02 e fun p1 e1 e=>?_
  refine ⟨W,Γ,p1.1,p1.2,rfl,ok,en,e1,fun W1 hμ ok1 s1=>?_⟩
  split at e
  · rename_i hp;cases e;rw [if_pos hp];exact q W1 hμ ok1 s1
  · rename_i hp;rw [if_neg hp];exact ⟨W1,Γ,k,μ',rfl,ok1,en.step ok s1,by rw [hμ];exact e,fun W2 hμ2 ok2 s2=>q W2 hμ2 ok2 (s1.trans s2)⟩
theorem zcg (ha:PT X a (tDB K ba)):PW X (.BoolOp .And [a] pos) (tDB K ba):=zn3 ha
theorem zdj (ha:PT X a (tDB K ba)):PW X (.BoolOp .Or [a] pos) (tDB K ba):=zpv ha
theorem zfp (ha:PT X a (tDB K ba)) (hb:PW X (.BoolOp .And (b::z4d) pos) (tDB K bb)):PW X (.BoolOp .And (a::b::z4d) pos) (tDB K (zm4 ba bb)):=zm6 (zpw ha hb) zky
theorem zfo (ha:PT X a (tDB K ba)) (hb:PW X (.BoolOp .Or (b::z4d) pos) (tDB K bb)):PW X (.BoolOp .Or (a::b::z4d) pos) (tDB K (bOr ba bb)):=zm6 (zsr ha hb) zo9
theorem z5y (ha:PT X a (tDB K ba)):PT X (.UnaryOp .Not a pos) (tDB K (zdg ba)):=z8h (zpz ha) fun σ H Q h=>by
  refine el4 h fun W Γ k μ' eH ok en e q=>?_;subst eH
  refine z02 e fun p1 e1 e=>?_
  cases e
  exact ⟨W,Γ,p1.1,p1.2,rfl,ok,en,e1,fun W1 hμ ok1 s1=>q W1 hμ ok1 s1⟩
noncomputable def zj8 (ea eb:EV):EV:=fun Γ μ=>(ea Γ μ).bind fun p=>match p.1 with
  | .bl true=>eb Γ p.2
  | .bl false=>some (.bl false,p.2)
  | _=>none
noncomputable def vOr (ea eb:EV):EV:=fun Γ μ=>(ea Γ μ).bind fun p=>match p.1 with
  | .bl true=>some (.bl true,p.2)
  | .bl false=>eb Γ p.2
  | _=>none
noncomputable def zhy:D→M→Option (D×M)
  | .bl b,μ=>some (.bl (!b),μ)
  | _,_=>none
theorem zfu {op} (h:PE X a (tD K ea)):PE X (.BoolOp op [a] pos) (tD K ea):=zq9 h
theorem zfz (ha:PE X a (tD K ea)) (hb:PE X (.BoolOp .And (b::z4d) pos) (tD K eb)):PE X (.BoolOp .And (a::b::z4d) pos) (tD K (zj8 ea eb)):=z0f (zqe ha hb) fun σ H Q h=>by
  refine el4 h fun W Γ d μ' eH ok en e q=>?_;subst eH
  refine z02 e fun p1 e1 e=>?_
  refine ⟨W,Γ,p1.1,p1.2,rfl,ok,en,e1,fun x W1 hμ ok1 s1 r1=>?_⟩
  split at e
  · rename_i hp;rw [hp] at r1;cases r1;exact ⟨true,rfl,ztc ⟨W1,Γ,d,μ',rfl,ok1,en.step ok s1,by rw [hμ];exact e,fun v W2 hμ2 ok2 s2 r2=>q v W2 hμ2 ok2 (s1.trans s2) r2⟩⟩
  · rename_i hp;rw [hp] at r1;cases r1;cases e;exact ⟨false,rfl,ztd (q _ W1 hμ ok1 s1 (.bl _))⟩
  · cases e
theorem zuf (ha:PE X a (tD K ea)) (hb:PE X (.BoolOp .Or (b::z4d) pos) (tD K eb)):PE X (.BoolOp .Or (a::b::z4d) pos) (tD K (vOr ea eb)):=z0f (zst ha hb) fun σ H Q h=>by
  refine el4 h fun W Γ d μ' eH ok en e q=>?_;subst eH
  refine z02 e fun p1 e1 e=>?_
  refine ⟨W,Γ,p1.1,p1.2,rfl,ok,en,e1,fun x W1 hμ ok1 s1 r1=>?_⟩
  split at e
  · rename_i hp;rw [hp] at r1;cases r1;cases e;exact ⟨true,rfl,ztc (q _ W1 hμ ok1 s1 (.bl _))⟩
  · rename_i hp;rw [hp] at r1;cases r1;exact ⟨false,rfl,ztd ⟨W1,Γ,d,μ',rfl,ok1,en.step ok s1,by rw [hμ];exact e,fun v W2 hμ2 ok2 s2 r2=>q v W2 hμ2 ok2 (s1.trans s2) r2⟩⟩
  · cases e
theorem zj3 (ha:PE X a (tD K ea)):PE X (.UnaryOp .Not a pos) (tD K (v1 zhy ea)):=z0f (zqa ha) (z59 (by
  intro W x d z μ' Q ok r1 hf q
  unfold zhy at hf
  split at hf
  · cases hf;cases r1;exact ⟨_,rfl,q _ W rfl ok .refl (.bl _)⟩
  · cases hf))
end
noncomputable def optAll {α β:Type} (f:α→Option β):List α→Option (List β)
  | []=>some []
  | x::r=>(f x).bind fun y=>(optAll f r).bind fun ys=>some (y::ys)
section
variable {X:Cx} {K:PySem.W.Frag} {a b c e:Expr} {ea eb ec:EV} {pos p:Pos} {es:List Expr} {el:LV}
noncomputable def z1n:LV:=fun _ μ=>some ([],μ)
noncomputable def z06 (ea:EV) (el:LV):LV:=fun Γ μ=>(ea Γ μ).bind fun p=>(el Γ p.2).bind fun q=>some (p.1::q.1,q.2)
theorem z08:PA X [] (tDL K z1n):=zir z2v fun σ H Q h=>by
  refine el4 h fun W Γ ds μ' eH ok en e q=>?_;subst eH
  cases e
  exact q [] W rfl ok .refl .nil
theorem zhm:∀ σ H Q,tDL K (z06 ea el) σ H Q→z8q (tD K ea) (tDL K el) σ H Q:=fun σ H Q h=>by
  refine el4 h fun W Γ ds μ' eH ok en e q=>?_;subst eH
  refine z02 e fun p1 e1 e=>?_
  refine z02 e fun p2 e2 e=>?_
  cases e
  exact ⟨W,Γ,p1.1,p1.2,rfl,ok,en,e1,fun x W1 hμ ok1 s1 r1=>⟨W1,Γ,p2.1,p2.2,rfl,ok1,en.step ok s1,by rw [hμ];exact e2,fun vs W2 hμ2 ok2 s2 r2=>q _ W2 hμ2 ok2 (s1.trans s2) (.cons (r1.step ok1 s2) r2)⟩⟩
theorem z01 (ha:PE X e (tD K ea)) (hr:PA X es (tDL K el)) (hs:starEach (e::es) X.env=(false,eval e X.env)::starEach es X.env:=by rfl):PA X (e::es) (tDL K (z06 ea el)):=zir (z0r ha hr hs) zhm
def RLA (K:PySem.W.Frag) (r:List V→Hp→VK→Prop) (f:List D→M→Option (D×M)):Prop:=∀ (W:Wd) (xs:List V) (ds:List D) (z:D) (μ':M) (Q:VK),Ok K W→DRs K W ds xs→f ds W.μ=some (z,μ') →
  (∀ v W',W'.μ=μ'→Ok K W'→Step W W'→DR K W' z v→Q v W'.H)→r xs W.H Q
noncomputable def vL (f:List D→M→Option (D×M)) (el:LV):EV:=fun Γ μ=>(el Γ μ).bind fun p=>f p.1 p.2
theorem zdu {r:List V→Hp→VK→Prop} {f:List D→M→Option (D×M)} (ra:RLA K r f):∀ σ H Q,tD K (vL f el) σ H Q→(fun σ H Q=>tDL K el σ H fun vs H1=>r vs H1 Q:TE) σ H Q:=fun σ H Q h=>by
  refine el4 h fun W Γ d μ' eH ok en e q=>?_;subst eH
  refine z02 e fun p1 e1 e=>?_
  exact ⟨W,Γ,p1.1,p1.2,rfl,ok,en,e1,fun vs W1 hμ ok1 s1 r1=>ra W1 vs _ _ _ Q ok1 r1 (by rw [hμ];exact e) fun v W3 hμ3 ok3 s3 r3=>q v W3 hμ3 ok3 (s1.trans s3) r3⟩
noncomputable def z76 (ds:List D) (μ:M):Option (D×M):=if ds.length≤1000 then some (.lst ds,μ) else none
noncomputable def zko (ds:List D) (μ:M):Option (D×M):=if ds.length≤1000 then some (.tup ds,μ) else none
noncomputable def ziv (ds:List D) (μ:M):Option (D×M):=if ds.length≤1000 then some (.ref μ.length,μ++[some (.lst ds)]) else none
theorem zpn:RLA K (fun xs H1 Q=>xs.length≤sizeLine∧∀ p,H1 p=none→Q (.ref p) (upd H1 p (.lst xs))) z76:=by
  intro W xs ds z μ' Q ok r hf q
  unfold z76 at hf
  split at hf
  · rename_i hl
    cases hf
    exact ⟨z55 (by rw [← r.length];omega),fun p hp=>q _ (W.lay p (.lst xs)) rfl (z4v ok hp) (z0g hp) (z8c ok hp r)⟩
  · cases hf
theorem zpj:RLA K (fun xs H1 Q=>xs.length≤sizeLine∧∀ p,H1 p=none→Q (.ref p) (upd H1 p (.tup xs))) zko:=by
  intro W xs ds z μ' Q ok r hf q
  unfold zko at hf
  split at hf
  · rename_i hl
    cases hf
    exact ⟨z55 (by rw [← r.length];omega),fun p hp=>q _ (W.lay p (.tup xs)) rfl (z4v ok hp) (z0g hp) (zeg ok hp r)⟩
  · cases hf
theorem zpl:RLA K (fun xs H1 Q=>xs.length≤sizeLine∧∀ p,H1 p=none→Q (.ref p) (upd H1 p (.lst xs))) ziv:=by
  intro W xs ds z μ' Q ok r hf q
  unfold ziv at hf
  split at hf
  · rename_i hl
    cases hf
    exact ⟨z55 (by rw [← r.length];omega),fun p hp=>q _ (W.new p (.lst xs) (.lst ds)) rfl (ze1 ok hp ⟨xs,rfl,r⟩) (z3a ok hp) (zeh ok)⟩
  · cases hf
theorem z5u (h:PA X es (tDL K el)):PE X (.List es pos) (tD K (vL z76 el)):=z0f (zlm h) (zdu zpn)
theorem zj4 (h:PA X es (tDL K el)):PE X (.List es pos) (tD K (vL ziv el)):=z0f (zlm h) (zdu zpl)
theorem zok {k} (h:PA X es (tDL K el)):PE X (.Tuple es k pos) (tD K (vL zko el)):=z0f (zh4 h) (zdu zpj)
noncomputable def fIx (x y:D) (μ:M):Option (D×M):=match y with
  | .int i=>match z5v μ x with
    | some ds=>(atI ds i).bind fun d=>some (d,μ)
    | none=>match zjg x with
      | some ds=>(atI ds i).bind fun d=>some (d,μ)
      | none=>none
  | _=>none
theorem zsm:R2A K (rIx K) fIx:=by
  intro W x y d e z μ' Q ok r1 r2 hf q
  unfold fIx at hf
  split at hf
  · cases r2
    split at hf
    · rename_i ds hd
      refine z02 hf fun u hu hf=>?_
      cases hf
      refine bq fun bG=>?_
      obtain ⟨a,vs,rfl,hs,hv⟩:=z54 ok hd r1
      obtain ⟨v,hv1,hv2⟩:=zik hv hu
      exact bG (.inl ⟨a,vs,_,v,rfl,rfl,hs,hv1,q v W rfl ok .refl hv2⟩)
    · split at hf
      · rename_i ds hd
        refine z02 hf fun u hu hf=>?_
        cases hf
        refine bq fun bG=>?_
        obtain ⟨a,vs,rfl,hs,hv⟩:=z63 hd r1
        obtain ⟨v,hv1,hv2⟩:=zik hv hu
        exact bG (.inr (.inl ⟨a,vs,_,v,rfl,rfl,hs,hv1,q v W rfl ok .refl hv2⟩))
      · cases hf
  · cases hf
theorem zb2 (ha:PE X a (tD K ea)) (hb:PE X b (tD K eb)) (hs:zim b:=by exact fun _ _=>rfl) (hK:X.K=K:=by rfl):PE X (.Subscript a b pos) (tD K (v2 fIx ea eb)):=by
  subst hK;exact z0f (zsv zr3 ha hb hs) (z6b zsm)
noncomputable abbrev OV:=G→M→Option (Option Int×M)
noncomputable def zd2:OV:=fun _ μ=>some (none,μ)
noncomputable def zf7 (ea:EV):OV:=fun Γ μ=>(ea Γ μ).bind fun p=>match p.1 with
  | .int i=>some (some i,p.2)
  | _=>none
noncomputable def tDO (K:PySem.W.Frag) (ev:OV):TO:=fun σ H Q=>∃ (W:Wd) (Γ:G) (b:Option Int) (μ':M),W.H=H∧Ok K W∧EnvR K W Γ σ∧ev Γ W.μ=some (b,μ')∧∀ W',W'.μ=μ'→Ok K W'→Step W W'→Q b W'.H
theorem zm7 {o:Option Expr} {t t':TO} (h:PO X o t) (hi:∀ σ H Q,t' σ H Q→t σ H Q):PO X o t':=fun pins s σ H Q I hw=>h pins s σ H Q I (hi _ _ _ hw)
theorem zci:PO X none (tDO K zd2):=zm7 zn6 fun σ H Q h=>by
  refine el4 h fun W Γ b μ' eH ok en e q=>?_;subst eH
  cases e
  exact q W rfl ok .refl
theorem zch (h:PE X e (tD K ea)):PO X (some e) (tDO K (zf7 ea)):=zm7 (zn5 h) fun σ H Q h=>by
  refine el4 h fun W Γ b μ' eH ok en e q=>?_;subst eH
  refine z02 e fun p1 e1 e=>?_
  refine ⟨W,Γ,p1.1,p1.2,rfl,ok,en,e1,fun x W1 hμ ok1 s1 r1=>?_⟩
  split at e
  · rename_i i hi
    cases e
    rw [hi] at r1
    cases r1
    exact ⟨_,rfl,q W1 hμ ok1 s1⟩
  · cases e
noncomputable def zfj (xs:List D) (lo hi:Option Int):List D:=(xs.drop (HT.sIx xs.length 0 lo)).take (HT.sIx xs.length xs.length hi - HT.sIx xs.length 0 lo)
theorem zei {W:Wd} {ds:List D} {vs:List V} (r:DRs K W ds vs) (lo hi:Option Int):DRs K W (zfj ds lo hi) (zix vs lo hi):=by
  unfold zfj zix;rw [r.length];exact (r.drop _).take _
noncomputable def fSl (x:D) (lo hi:Option Int) (μ:M):Option (D×M):=match z5v μ x with
  | some ds=>some (.lst (zfj ds lo hi),μ)
  | none=>match zjg x with
    | some ds=>if HT.sIx ds.length 0 lo=0∧HT.sIx ds.length ds.length hi=ds.length then none else some (.tup (zfj ds lo hi),μ)
    | none=>none
noncomputable def vSl (ea:EV) (lo hi:OV):EV:=fun Γ μ=>(ea Γ μ).bind fun p=>(lo Γ p.2).bind fun l=>(hi Γ l.2).bind fun h=>fSl p.1 l.1 h.1 h.2
theorem zs5 {lo hi:Option Expr} {ol oh:OV} {p2:Pos} (he:PE X e (tD K ea)) (hl:PO X lo (tDO K ol)) (hu:PO X hi (tDO K oh)) (hK:X.K=K:=by rfl):PE X (.Subscript e (.Slice lo hi none p2) pos) (tD K (vSl ea ol oh)):=by
  subst hK
  refine z0f (zka (sl_list.or zpd) he hl hu) fun σ H Q h=>?_
  refine el4 h fun W Γ d μ' eH ok en e q=>?_;subst eH
  refine z02 e fun p1 e1 e=>?_
  refine z02 e fun p2 e2 e=>?_
  refine z02 e fun p3 e3 e=>?_
  refine ⟨W,Γ,p1.1,p1.2,rfl,ok,en,e1,fun x W1 hμ ok1 s1 r1=>⟨W1,Γ,p2.1,p2.2,rfl,ok1,en.step ok s1,by rw [hμ];exact e2,fun W2 hμ2 ok2 s2=>⟨W2,Γ,p3.1,p3.2,rfl,ok2,(en.step ok s1).step ok1 s2,by rw [hμ2];exact e3,fun W3 hμ3 ok3 s3=>?_⟩⟩⟩
  have r3:=(r1.step ok1 s2).step ok2 s3
  have st:=(s1.trans s2).trans s3
  unfold fSl at e
  rw [← hμ3] at e
  split at e
  · rename_i ds hd
    cases e
    refine bq fun bG=>?_
    obtain ⟨a,vs,rfl,hs,hv⟩:=z54 ok3 hd r3
    exact bG (.inl ⟨a,vs,rfl,hs,fun p hp=>q _ (W3.lay p (.lst (zix vs p2.1 p3.1))) rfl (z4v ok3 hp) (st.trans (z0g hp)) (z8c ok3 hp (zei hv _ _))⟩)
  · split at e
    · rename_i ds hd
      split at e
      · cases e
      · rename_i hn
        cases e
        refine bq fun bG=>?_
        obtain ⟨a,vs,rfl,hs,hv⟩:=z63 hd r3
        rw [hv.length] at hn
        exact bG (.inr ⟨a,vs,rfl,hs,hn,fun p hp=>q _ (W3.lay p (.tup (zix vs p2.1 p3.1))) rfl (z4v ok3 hp) (st.trans (z0g hp)) (zeg ok3 hp (zei hv _ _))⟩)
    · cases e
noncomputable def ztj (x y:D) (μ:M):Option (D×M):=(zcm μ x).bind fun xs=>(zcm μ y).bind fun ys=>if xs.length+ys.length≤1000000 then some (.lst (xs++ys),μ) else none
noncomputable def zu8 (x y:D) (μ:M):Option (D×M):=(zcm μ x).bind fun xs=>match y with
  | .int k=>if -1000000≤k∧k≤1000000∧xs.length*k.toNat≤1000000 then some (.lst (List.replicate k.toNat xs).flatten,μ) else none
  | _=>none
noncomputable def zb3 (x:D) (μ:M):Option (D×M):=match z5v μ x with
  | some ds=>some (.int ds.length,μ)
  | none=>match zjg x with
    | some ds=>some (.int ds.length,μ)
    | none=>none
theorem zes (ml:X.mg "len" = none) (ha:PE X a (tD K ea)) (hg:Gl X "len" := by rfl) (hs:starEach [a] X.env=[(false,eval a X.env)]:=by rfl) (hK:X.K=K:=by rfl):PE X (.Call (.Name "len" p) [a] [] pos) (tD K (v1 zb3 ea)):=z0f (zv6 K ml ha hg hs hK) (z59 (by
  intro W x d z μ' Q ok r1 hf q
  unfold zb3 at hf
  split at hf
  · rename_i ds hd
    cases hf
    obtain ⟨a,vs,rfl,hs,hv⟩:=z54 ok hd r1
    exact ⟨a,vs,rfl,.inl hs,by rw [← hv.length];exact q _ W rfl ok .refl (.int _)⟩
  · split at hf
    · rename_i ds hd
      cases hf
      obtain ⟨a,vs,rfl,hs,hv⟩:=z63 hd r1
      exact ⟨a,vs,rfl,.inr hs,by rw [← hv.length];exact q _ W rfl ok .refl (.int _)⟩
    · cases hf))
noncomputable def zjl (μ:M) (x:D):Option (List D):=match z5v μ x with
  | some ds=>some ds
  | none=>zjg x
theorem zco {W:Wd} {d:D} {ds:List D} {v:V} (ok:Ok K W) (h:zjl W.μ d=some ds) (r:DR K W d v):∃ a vs,v=.ref a∧(SqL K W.H a vs∨SqT K W.H a vs)∧DRs K W ds vs:=by
  unfold zjl at h
  split at h
  · rename_i ds' hd
    cases h
    refine bq fun bG=>?_
    obtain ⟨a,vs,e,hs,hv⟩:=z54 ok hd r
    exact bG (⟨a,vs,e,.inl hs,hv⟩)
  · obtain ⟨a,vs,e,hs,hv⟩:=z63 h r
    exact ⟨a,vs,e,.inr hs,hv⟩
noncomputable def zfi (x:D) (μ:M):Option (D×M):=(zjl μ x).bind fun ds=>some (.lst ds,μ)
noncomputable def zed (x:D) (μ:M):Option (D×M):=(zjl μ x).bind fun ds=>some (.ref μ.length,μ++[some (.lst ds)])
theorem zoo (ml:X.mg "list" = none) (ha:PE X a (tD K ea)) (hg:Gl X "list" := by rfl) (hs:starEach [a] X.env=[(false,eval a X.env)]:=by rfl) (hK:X.K=K:=by rfl):PE X (.Call (.Name "list" p) [a] [] pos) (tD K (v1 zfi ea)):=z0f (zrh K ml ha hg hs hK) (z59 (by
  intro W x d z μ' Q ok r1 hf q
  refine z02 hf fun ds hd hf=>?_
  cases hf
  obtain ⟨a,vs,rfl,hs,hv⟩:=zco ok hd r1
  exact ⟨a,vs,rfl,hs,fun p hp=>q _ (W.lay p (.lst vs)) rfl (z4v ok hp) (z0g hp) (z8c ok hp hv)⟩))
theorem zmb (ml:X.mg "list" = none) (ha:PE X a (tD K ea)) (hg:Gl X "list" := by rfl) (hs:starEach [a] X.env=[(false,eval a X.env)]:=by rfl) (hK:X.K=K:=by rfl):PE X (.Call (.Name "list" p) [a] [] pos) (tD K (v1 zed ea)):=z0f (zrh K ml ha hg hs hK) (z59 (by
  intro W x d z μ' Q ok r1 hf q
  refine z02 hf fun ds hd hf=>?_
  cases hf
  obtain ⟨a,vs,rfl,hs,hv⟩:=zco ok hd r1
  exact ⟨a,vs,rfl,hs,fun p hp=>q _ (W.new p (.lst vs) (.lst ds)) rfl (ze1 ok hp ⟨vs,rfl,hv⟩) (z3a ok hp) (zeh ok)⟩))
noncomputable abbrev zv4:=fI0 fun i j=>.int (if j<i then j else i)
noncomputable abbrev zth:=fI0 fun i j=>.int (if j > i then j else i)
theorem zmq {t:TE} {r:R2} {f:D→D→M→Option (D×M)} (ra:R2A K r f) (ht:∀ σ H Q,tOp r (tD K ea) (tD K eb) σ H Q→t σ H Q):∀ σ H Q,tD K (v2 f ea eb) σ H Q→t σ H Q:=fun σ H Q h=>ht σ H Q (z6b ra σ H Q h)
theorem zt4 {x y:V} {g:Int→Int→V} {Q:VK} {H:Hp}:(∃ i j,[x,y]=[V.int i,V.int j]∧Q (g i j) H)=(∃ i j,x=V.int i∧y=V.int j∧Q (g i j) H):=propext ⟨fun ⟨i,j,e,q⟩=>by cases e;exact ⟨i,j,rfl,rfl,q⟩,fun ⟨i,j,e1,e2,q⟩=>by cases e1;cases e2;exact ⟨i,j,rfl,q⟩⟩
theorem zs7 (ml:X.mg "max" = none) (ha:PE X a (tD K ea)) (hb:PE X b (tD K eb)) (hc:X.calm=true:=by rfl) (hg:Gl X "max" := by rfl) (hs:starEach [a,b] X.env=[(false,eval a X.env),(false,eval b X.env)]:=by rfl) (hs2:starEach [b] X.env=[(false,eval b X.env)]:=by rfl) :
    PE X (.Call (.Name "max" p) [a,b] [] pos) (tD K (v2 zth ea eb)):=z0f (zv5 ml ha hb hc hg hs hs2) (zmq (zbi fun _ _ _=>.int _) fun σ H Q h=>by simp only [zt4 (g:=fun i j=>V.int (if j > i then j else i))];exact h)
noncomputable def zhz:D→M→Option (D×M)
  | .bl k,μ=>some (.int (if k then 1 else 0),μ)
  | _,_=>none
theorem zop (ml:X.mg "int" = none) (ha:PE X a (tD K ea)) (hg:Gl X "int" := by rfl) (hs:starEach [a] X.env=[(false,eval a X.env)]:=by rfl):PE X (.Call (.Name "int" p) [a] [] pos) (tD K (v1 zhz ea)):=z0f (zv8 ml ha hg hs) (z59 (by
  intro W x d z μ' Q ok r1 hf q
  unfold zhz at hf
  split at hf
  · cases hf;cases r1;exact ⟨_,rfl,q _ W rfl ok .refl (.int _)⟩
  · cases hf))
end
noncomputable def py:Nat→M→D→Option PyData
  | 0,_,_=>none
  | n+1,μ,d=>match d with
    | .non=>some .none
    | .bl b=>some (.bool b)
    | .int i=>some (.int i)
    | .str x=>some (.str x)
    | .lst xs=>(optAll (py n μ) xs).bind fun ys=>some (.list ys)
    | .scr xs=>(optAll (py n μ) xs).bind fun ys=>some (.list ys)
    | .tup xs=>(optAll (py n μ) xs).bind fun ys=>some (.tuple ys)
    | .gt xs=>(optAll (py n μ) xs).bind fun ys=>some (.tuple ys)
    | .ref k=>match μ[k]? with
      | some (some (.lst xs))=>(optAll (py n μ) xs).bind fun ys=>some (.list ys)
      | _=>none
theorem z6z {K:PySem.W.Frag} {W:Wd} {f:D→Option PyData} (h:∀ d v pd,DR K W d v→f d=some pd→Dp K W.H v pd):∀ {xs:List D} {vs:List V} {ys:List PyData},DRs K W xs vs→optAll f xs=some ys→Dps K W.H vs ys
  | _,_,_,.nil,e=>by cases e;exact .nil
  | _,_,_,.cons r t,e=>by
    refine z02 e fun y e1 e=>?_
    refine z02 e fun ys e2 e=>?_
    cases e
    exact .cons (h _ _ _ r e1) (z6z h t e2)
theorem zcv {K:PySem.W.Frag} {W:Wd} (ok:Ok K W):∀ (n:Nat) (d:D) (v:V) (pd:PyData),DR K W d v→py n W.μ d=some pd→Dp K W.H v pd
  | 0,_,_,_,_,e=>by cases e
  | n+1,d,v,pd,r,e=>by
    cases d with
    | non=>cases e;cases r;exact .non
    | bl b=>cases e;cases r;exact .bl b
    | int i=>cases e;cases r;exact .int i
    | str x=>cases e;cases r;exact .str x
    | lst xs =>
      refine z02 e fun ys e1 e=>?_
      cases e
      cases r with
      | lst h _ hs=>exact .lst (SqL.of h) (z6z (zcv ok n) hs e1)
    | scr xs =>
      refine z02 e fun ys e1 e=>?_
      cases e
      cases r with
      | scr h hs=>exact .lst h.seq (z6z (zcv ok n) hs e1)
    | tup xs =>
      refine z02 e fun ys e1 e=>?_
      cases e
      cases r with
      | tup h hs=>exact .tup (SqT.of h) (z6z (zcv ok n) hs e1)
    | gt xs =>
      refine z02 e fun ys e1 e=>?_
      cases e
      cases r with
      | gt h hs=>exact .tup h (z6z (zcv ok n) hs e1)
    | ref k =>
      simp only [py] at e
      split at e
      · rename_i xs hk
        refine z02 e fun ys e1 e=>?_
        cases e
        refine bq fun bG=>?_
        obtain ⟨a,vs,rfl,_,h,hs⟩:=z7z ok hk r
        exact bG (.lst (SqL.of h) (z6z (zcv ok n) hs e1))
      · cases e
noncomputable def eqD (x y:D) (μ:M):Option Bool:=match x,y with
  | .int i,.int j=>some (decide (i=j))
  | .str a,.str b=>if PyData.strOk a&&PyData.strOk b then some (decide (a=b)) else none
  | x,y=>(py 65 μ x).bind fun d=>(py 65 μ y).bind fun e=>if (d.canLay0&&e.canLay0&&decide (d.depth≤64))=true then some (PyData.eqv d e) else none
theorem zly {K:PySem.W.Frag} {W:Wd} {x y:D} {v u:V} {b:Bool} (ok:Ok K W) (rx:DR K W x v) (ry:DR K W y u) (h:eqD x y W.μ=some b):∃ d e,Dp K W.H v d∧Dp K W.H u e∧(d.canLay0&&e.canLay0&&decide (d.depth≤64))=true∧PyData.eqv d e=b:=by
  unfold eqD at h
  split at h
  · cases h
    cases rx;cases ry
    exact ⟨_,_,.int _,.int _,by simp [PyData.canLay0,PyData.depth],by simp [PyData.eqv];rw [Bool.eq_iff_iff];simp⟩
  · split at h
    · rename_i hs
      cases h
      cases rx;cases ry
      refine ⟨_,_,.str _,.str _,by simpa [PyData.canLay0,PyData.depth] using hs,by simp [PyData.eqv];rw [Bool.eq_iff_iff];simp⟩
    · cases h
  · refine z02 h fun d e1 h=>?_
    refine z02 h fun e e2 h=>?_
    split at h
    · rename_i hc
      cases h
      exact ⟨d,e,zcv ok _ _ _ _ rx e1,zcv ok _ _ _ _ ry e2,hc,rfl⟩
    · cases h
noncomputable def fEq (x y:D) (μ:M):Option (D×M):=(eqD x y μ).bind fun b=>some (.bl b,μ)
noncomputable def fNe (x y:D) (μ:M):Option (D×M):=(eqD x y μ).bind fun b=>some (.bl (!b),μ)
section
variable {X:Cx} {K:PySem.W.Frag} {a b c e:Expr} {ea eb ec:EV} {ba bb:BV} {pos p:Pos} {es:List Expr} {el:LV} {k:Nat}
theorem zpp:R2A K (fun x y H Q=>∃ d e,Dp K H x d∧Dp K H y e∧(d.canLay0&&e.canLay0&&decide (d.depth≤64))=true∧Q (.bl (PyData.eqv d e)) H) fEq:=by
  intro W x y d e z μ' Q ok r1 r2 hf q
  refine z02 hf fun b hb hf=>?_
  cases hf
  obtain ⟨d',e',h1,h2,h3,h4⟩:=zly ok r1 r2 hb
  exact ⟨d',e',h1,h2,h3,by rw [h4];exact q _ W rfl ok .refl (.bl _)⟩
theorem zsl:R2A K (fun x y H Q=>∃ d e,Dp K H x d∧Dp K H y e∧(d.canLay0&&e.canLay0&&decide (d.depth≤64))=true∧Q (.bl (!PyData.eqv d e)) H) fNe:=by
  intro W x y d e z μ' Q ok r1 r2 hf q
  refine z02 hf fun b hb hf=>?_
  cases hf
  obtain ⟨d',e',h1,h2,h3,h4⟩:=zly ok r1 r2 hb
  exact ⟨d',e',h1,h2,h3,by rw [h4];exact q _ W rfl ok .refl (.bl _)⟩
theorem zoe (hr:Room k X.A) (ha:PE X a (tD K ea)) (hb:PE X b (tD K eb)) (hK:X.K=K:=by rfl):PE X (.Compare a [.Eq] [b] pos) (tD K (v2 fEq ea eb)):=by
  subst hK;exact zmf (zln hr.units) zpp ha hb (z85 _)
theorem zj5 (hr:Room k X.A) (ha:PE X a (tD K ea)) (hb:PE X b (tD K eb)) (hK:X.K=K:=by rfl):PT X (.Compare a [.Eq] [b] pos) (tDB K (vT (v2 fEq ea eb))):=by
  subst hK;exact zdl (zln hr.units) zpp ha hb (z85 _)
theorem zb4 (hr:Room k X.A) (ha:PE X a (tD K ea)) (hb:PE X b (tD K eb)) (hK:X.K=K:=by rfl):PT X (.Compare a [.NotEq] [b] pos) (tDB K (vT (v2 fNe ea eb))):=by
  subst hK;exact zdl (zqi hr.units) zsl ha hb (z85 _)
noncomputable def fIsN (x y:D) (μ:M):Option (D×M):=match y with
  | .non=>some (.bl (match x with | .non=>true | _=>false),μ)
  | _=>none
noncomputable def zhx (x y:D) (μ:M):Option (D×M):=match y with
  | .non=>some (.bl (match x with | .non=>false | _=>true),μ)
  | _=>none
theorem zmz:R2A K (fun x y H Q=>y=.non∧Q (.bl (!decide (x=.non))) H) zhx:=by
  intro W x y d e z μ' Q ok r1 r2 hf q
  unfold zhx at hf
  split at hf
  · cases hf;cases r2
    refine ⟨rfl,?_⟩
    have h:=q _ W rfl ok .refl (.bl _)
    cases r1 <;> exact h
  · cases hf
theorem zom (ha:PE X a (tD K ea)) (hb:PE X b (tD K eb)):PE X (.Compare a [.IsNot] [b] pos) (tD K (v2 zhx ea eb)):=zmf znk zmz ha hb (z85 _)
noncomputable def flV:D→Option V
  | .non=>some .non
  | .bl b=>some (.bl b)
  | .int i=>some (.int i)
  | .str x=>some (.str x)
  | _=>none
theorem zlt {W:Wd} {d:D} {v u:V} (h:flV d=some u) (r:DR K W d v):v=u∧z92 u=true:=by
  cases d <;> cases h <;> cases r <;> exact ⟨rfl,rfl⟩
theorem zhw {W:Wd}:∀ {ds:List D} {vs us:List V},optAll flV ds=some us→DRs K W ds vs→vs=us∧us.all z92=true
  | _,_,_,h,.nil=>by cases h;exact ⟨rfl,rfl⟩
  | _,_,_,h,.cons r t=>by
    refine z02 h fun u h1 h=>?_
    refine z02 h fun us h2 h=>?_
    cases h
    refine bq fun bG=>?_
    obtain ⟨e1,f1⟩:=zlt h1 r
    obtain ⟨e2,f2⟩:=zhw h2 t
    exact bG (⟨by rw [e1,e2],by simp [f1,f2]⟩)
noncomputable def fIn (neg:Bool) (x y:D) (μ:M):Option (D×M):=(flV x).bind fun v=>(zjl μ y).bind fun ds=>(optAll flV ds).bind fun us=>some (.bl (if neg then !inV v us else inV v us),μ)
theorem zk1 {neg:Bool}:R2A K (rIn K neg) (fIn neg):=by
  intro W x y d e z μ' Q ok r1 r2 hf q
  refine z02 hf fun v h1 hf=>?_
  refine z02 hf fun ds h2 hf=>?_
  refine z02 hf fun us h3 hf=>?_
  cases hf
  refine bq fun bG=>?_
  obtain ⟨rfl,f1⟩:=zlt h1 r1
  obtain ⟨a,vs,rfl,hs,hv⟩:=zco ok h2 r2
  obtain ⟨rfl,f2⟩:=zhw h3 hv
  exact bG (⟨a,_,rfl,hs,f1,f2,q _ W rfl ok .refl (.bl _)⟩)
theorem zug (ha:PE X a (tD K ea)) (hb:PE X b (tD K eb)) (hm:behindInMarks .In b=false:=by rfl) (hK:X.K=K:=by rfl):PE X (.Compare a [.In] [b] pos) (tD K (v2 (fIn false) ea eb)):=z0f (eIn K ha hb hm hK) (z6b zk1)
theorem zck (ha:PE X a (tD K ea)) (hb:PE X b (tD K eb)) (hm:behindInMarks .NotIn b=false:=by rfl) (hK:X.K=K:=by rfl):PE X (.Compare a [.NotIn] [b] pos) (tD K (v2 (fIn true) ea eb)):=z0f (zrg K ha hb hm hK) (z6b zk1)
theorem zs8 (ha:PE X a (tD K ea)) (hb:PE X b (tD K eb)) (hm:behindInMarks .In b=false:=by rfl) (hK:X.K=K:=by rfl):PT X (.Compare a [.In] [b] pos) (tDB K (vT (v2 (fIn false) ea eb))):=z8h (tIn K ha hb hm hK) (zdo (z6b zk1))
theorem zj2 (ha:PE X a (tD K ea)) (hb:PE X b (tD K eb)) (hm:behindInMarks .NotIn b=false:=by rfl) (hK:X.K=K:=by rfl):PT X (.Compare a [.NotIn] [b] pos) (tDB K (vT (v2 (fIn true) ea eb))):=z8h (zp9 K ha hb hm hK) (zdo (z6b zk1))
noncomputable def tru (μ:M):D→Option Bool
  | .non=>some false
  | .bl b=>some b
  | .int i=>some (i != 0)
  | .tup ds=>some (!ds.isEmpty)
  | .gt ds=>some (!ds.isEmpty)
  | .lst ds=>some (!ds.isEmpty)
  | .scr ds=>some (!ds.isEmpty)
  | .ref k=>match μ[k]? with
    | some (some (.lst ds))=>some (!ds.isEmpty)
    | some (some (.dK kvs))=>some (!kvs.isEmpty)
    | _=>none
  | .str _=>none
theorem DRs.empty {W:Wd} {ds:List D} {vs:List V} (r:DRs K W ds vs):ds.isEmpty=vs.isEmpty:=by cases r <;> rfl
theorem zp8 {W:Wd} {d:D} {v:V} {b:Bool} (ok:Ok K W) (h:tru W.μ d=some b) (r:DR K W d v):ztp K v W.H b:=by
  cases d with
  | non=>cases h;cases r;rfl
  | bl k=>cases h;cases r;rfl
  | int i=>cases h;cases r;rfl
  | str x=>cases h
  | tup ds =>
    cases h
    cases r with
    | tup h hs=>exact .inr (.inl ⟨_,SqT.of h,by rw [DRs.empty hs]⟩)
  | gt ds =>
    cases h
    cases r with
    | gt h hs=>exact .inr (.inl ⟨_,h,by rw [DRs.empty hs]⟩)
  | lst ds =>
    cases h
    cases r with
    | lst h _ hs=>exact .inl ⟨_,SqL.of h,by rw [DRs.empty hs]⟩
  | scr ds =>
    cases h
    cases r with
    | scr h hs=>exact .inl ⟨_,h.seq,by rw [DRs.empty hs]⟩
  | ref k =>
    simp only [tru] at h
    split at h
    · rename_i ds hk
      cases h
      refine bq fun bG=>?_
      obtain ⟨a,vs,rfl,_,hh,hs⟩:=z7z ok hk r
      exact bG (.inl ⟨_,SqL.of hh,by rw [DRs.empty hs]⟩)
    · rename_i kvs hk
      cases h
      cases r with
      | ref ha =>
        obtain ⟨a',ho,h1,h2,vs,rfl,r⟩:=ok.at_ k _ hk
        rw [ha] at h1
        cases h1
        exact .inr (.inr ⟨vs,h2,by cases r <;> rfl⟩)
    · cases h
noncomputable def z94 (ea:EV):BV:=fun Γ μ=>(ea Γ μ).bind fun p=>(tru p.2 p.1).bind fun b=>some (b,p.2)
theorem z1o (ha:PE X a (tD K ea)) (he:∀ whole,isTrue a X.env whole=(do let v ← whole;standAt a.pos;holding [v] (truthy v)):=by intro _;rfl) (hK:X.K=K:=by rfl):PT X a (tDB K (z94 ea)):=by
  subst hK
  refine z8h (zk4 ha he) fun σ H Q h=>?_
  refine el4 h fun W Γ b μ' eH ok en e q=>?_;subst eH
  refine z02 e fun p1 e1 e=>?_
  refine z02 e fun b1 e2 e=>?_
  cases e
  exact ⟨W,Γ,p1.1,p1.2,rfl,ok,en,e1,fun x W1 hμ ok1 s1 r1=>⟨b,zp8 ok1 (by rw [hμ];exact e2) r1,q W1 hμ ok1 s1⟩⟩
noncomputable def tyD (μ:M):D→Option String
  | .non=>some "NoneType"
  | .bl _=>some "bool"
  | .int _=>some "int"
  | .str _=>some "str"
  | .tup _=>some "tuple"
  | .gt _=>some "tuple"
  | .lst _=>some "list"
  | .scr _=>some "list"
  | .ref k=>match μ[k]? with
    | some (some (.lst _))=>some "list"
    | some (some (.dK _))=>some "dict"
    | _=>none
theorem zl4 {W:Wd} {d:D} {v:V} {t:String} (ok:Ok K W) (h:tyD W.μ d=some t) (r:DR K W d v):TyN K W.H v t:=by
  cases d with
  | non=>cases h;cases r;exact .non
  | bl k=>cases h;cases r;exact .bl _
  | int i=>cases h;cases r;exact .int _
  | str x=>cases h;cases r;exact .str _
  | tup ds =>
    cases h
    cases r with
    | tup h hs=>exact .tup (SqT.of h)
  | gt ds =>
    cases h
    cases r with
    | gt h hs=>exact .tup h
  | lst ds =>
    cases h
    cases r with
    | lst h _ hs=>exact .lst (SqL.of h)
  | scr ds =>
    cases h
    cases r with
    | scr h hs=>exact .lst h.seq
  | ref k =>
    simp only [tyD] at h
    split at h
    · rename_i ds hk
      cases h
      refine bq fun bG=>?_
      obtain ⟨a,vs,rfl,_,hh,hs⟩:=z7z ok hk r
      exact bG (.lst (SqL.of hh))
    · rename_i kvs hk
      cases h
      cases r with
      | ref ha =>
        refine bq fun bG=>?_
        obtain ⟨a',ho,h1,h2,vs,rfl,r⟩:=ok.at_ k _ hk
        rw [ha] at h1
        cases h1
        exact bG (.dK h2)
    · cases h
noncomputable def zcc (c:String) (x:D) (μ:M):Option (D×M):=(tyD μ x).bind fun t=>some (.bl (zge t c),μ)
theorem zb6 (c:String) (ml:X.mg "isinstance" = none) (ha:PE X a (tD K ea)) (hb:PE X b (tC (.ty c))) (hc:clNames.contains c=true:=by decide) (hg:Gl X "isinstance" := by rfl) (hs:starEach [a,b] X.env=[(false,eval a X.env),(false,eval b X.env)]:=by rfl) (hs2:starEach [b] X.env=[(false,eval b X.env)]:=by rfl) (hK:X.K=K:=by rfl) :
    PE X (.Call (.Name "isinstance" p) [a,b] [] pos) (tD K (v1 (zcc c) ea)):=z0f (zv7 K ml ha hb hg hs hs2 hK) (z59 (by
  intro W x d z μ' Q ok r1 hf q
  refine z02 hf fun t ht hf=>?_
  cases hf
  exact ⟨x,t,c,rfl,zl4 ok ht r1,hc,q _ W rfl ok .refl (.bl _)⟩))
noncomputable def vFrz (ea:EV):EV:=fun Γ μ=>(ea Γ μ).bind fun p=>match p.1 with
  | .ref k=>match p.2[k]? with
    | some (some (.lst ds))=>some (.lst ds,p.2.set k none)
    | _=>none
  | _=>none
noncomputable def spM (K:PySem.W.Frag) (f:List D→M→Option (D×M)):Sp:=fun vs H Q _=>∃ (W:Wd) (ds:List D) (d:D) (μ':M),W.H=H∧Ok K W∧DRs K W ds vs∧f ds W.μ=some (d,μ')∧∀ v W',W'.μ=μ'→Ok K W'→Step W W'→DR K W' d v→Q v W'.H
theorem z6k {x:Str} {ps:List Str} {f:List D→M→Option (D×M)} {e:Expr} (Df':Df X.prog X.w X.K X.mg X.base k x ps (spM K f)) (hr:Room k X.A) (ha:PA X (e::es) (tDL K el)) (hg:Gl X x:=by rfl) (hdb:(x==("__debug__" : Str))=false:=by decide)
    (he:starEach (e::es) X.env=(false,eval e X.env)::starEach es X.env:=by rfl) (hpl:(backTo pos (starEach es X.env)).any (·.1)=false:=by rfl):PE X (.Call (.Name x p) (e::es) [] pos) (tD K (vL f el)):=z0f (zsw Df' hr ha hg hdb he hpl) (zdu (by
  intro W xs ds z μ' Q ok r hf q
  exact ⟨W,ds,z,μ',rfl,ok,r,hf,q⟩))
noncomputable def v2l (f:D→D→M→Option (D×M)) (ea eb:EV):EV:=fun Γ μ=>(ea Γ μ).bind fun p=>(z5v p.2 p.1).bind fun _=>(eb Γ p.2).bind fun q=>f p.1 q.1 q.2
theorem zml {W:Wd} {d:D} {ds:List D} {v:V} (ok:Ok K W) (h:z5v W.μ d=some ds) (r:DR K W d v):tyV K "list" v W.H:=by
  refine bq fun bG=>?_
  obtain ⟨a,vs,rfl,hs,_⟩:=z54 ok h r
  exact bG (.inl ⟨rfl,vs,hs⟩)
def RMA (K:PySem.W.Frag) (r:V→List V→Hp→VK→Prop) (f:D→D→M→Option (D×M)):Prop:=∀ (W:Wd) (x y:V) (d e z:D) (μ':M) (Q:VK),Ok K W→DR K W d x→DR K W e y→f d e W.μ=some (z,μ') →
  (∀ v W',W'.μ=μ'→Ok K W'→Step W W'→DR K W' z v→Q v W'.H)→r x [y] W.H Q
theorem zgc {eo:EV} {r:V→List V→Hp→VK→Prop} {f:D→D→M→Option (D×M)} (ra:RMA K r f):∀ σ H Q,tD K (v2l f eo ea) σ H Q→tBM K "list" r (tD K eo) (z8q (tD K ea) zji) σ H Q:=fun σ H Q h=>by
  refine el4 h fun W Γ d μ' eH ok en e q=>?_;subst eH
  refine z02 e fun p1 e1 e=>?_
  refine z02 e fun ds e0 e=>?_
  refine z02 e fun p2 e2 e=>?_
  refine ⟨W,Γ,p1.1,p1.2,rfl,ok,en,e1,fun x W1 hμ ok1 s1 r1=>⟨zml ok1 (by rw [hμ];exact e0) r1,W1,Γ,p2.1,p2.2,rfl,ok1,en.step ok s1,by rw [hμ];exact e2,fun y W2 hμ2 ok2 s2 r2=>?_⟩⟩
  exact ra W2 x y _ _ _ _ Q ok2 (r1.step ok1 s2) r2 (by rw [hμ2];exact e) fun v W3 hμ3 ok3 s3 r3=>q v W3 hμ3 ok3 ((s1.trans s2).trans s3) r3
noncomputable def onL (x:D) (μ:M) (g:List D→Option (D×List D)):Option (D×M):=match x with
  | .ref k=>match μ[k]? with
    | some (some (.lst ds))=>(g ds).bind fun r=>some (r.1,μ.set k (some (.lst r.2)))
    | _=>none
  | _=>none
theorem zlp {W:Wd} {x z:D} {v:V} {μ':M} {g:List D→Option (D×List D)} (ok:Ok K W) (h:onL x W.μ g=some (z,μ')) (r:DR K W x v) :
    ∃ k a ds vs ds',x=.ref k∧v=.ref a∧W.μ[k]?=some (some (.lst ds))∧W.ρ[k]?=some a∧W.H a=some (.lst vs)∧DRs K W ds vs∧g ds=some (z,ds')∧μ'=W.μ.set k (some (.lst ds')):=by
  unfold onL at h
  split at h
  · rename_i k
    split at h
    · rename_i ds hk
      refine z02 h fun p e1 e=>?_
      cases e
      refine bq fun bG=>?_
      obtain ⟨a,vs,rfl,ha,hh,hs⟩:=z7z ok hk r
      exact bG (⟨k,a,ds,vs,p.2,rfl,rfl,hk,ha,hh,hs,e1,rfl⟩)
    · cases h
  · cases h
theorem zgz {W:Wd} {k:Nat} {a:Addr} {ds ds':List D} {vs vs':List V} (ok:Ok K W) (hk:W.μ[k]?=some (some (.lst ds))) (ha:W.ρ[k]?=some a) (hs:DRs K W ds' vs') :
    Ok K (W.put k a (.lst vs') (.lst ds'))∧Step W (W.put k a (.lst vs') (.lst ds')):=⟨zqn ok hk ha ⟨vs',rfl,hs⟩,z6c hk ha⟩
noncomputable def zi1 (x y:D) (μ:M):Option (D×M):=onL x μ fun ds=>if ds.length<1000000 then some (.non,ds++[y]) else none
theorem zfy {o:Expr} {eo:EV} {apos:Pos} (ho:PE X o (tD K eo)) (ha:PE X a (tD K ea)) (hs:starEach [a] X.env=[(false,eval a X.env)]:=by rfl)
    (hbase:attributeBase o "append" X.env (eval o X.env)=eval o X.env:=by rfl) (hline:(apos.endLine==pos.line)=true:=by rfl) (hK:X.K=K:=by rfl)
    (hfew:((backTo pos (starEach [a] X.env)).all (fun x=>!x.1)&&(backToKw pos (keywordEach [] X.env)).all (fun x=>x.1.isSome)
      && decide ([a].length+([]:List Keyword).length+(if ([]:List Keyword).isEmpty then 0 else 1)<30))=true:=by rfl) :
    PE X (.Call (.Attribute o "append" apos) [a] [] pos) (tD K (v2l zi1 eo ea)):=z0f (zv9 K ho ha hs hbase hline hK hfew) (zgc (by
  intro W x y d e z μ' Q ok r1 r2 hf q
  obtain ⟨k,a,ds,vs,ds',rfl,rfl,hk,ha,hh,hs,hg,rfl⟩:=zlp ok hf r1
  split at hg
  · rename_i hl
    cases hg
    obtain ⟨o1,s1⟩:=zgz (vs:=vs) (vs':=vs++[y]) ok hk ha (hs.append (.cons r2 .nil))
    exact ⟨a,vs,y,rfl,rfl,hh,zhh (by rw [← hs.length];omega),q _ _ rfl o1 s1 .non⟩
  · cases hg))
end
open Classical in
noncomputable def chk {α:Type} (c:Prop) (x:Option α):Option α:=if c then x else none
theorem zej {α:Type} {c:Prop} {x:Option α} {a:α} (h:chk c x=some a):c∧x=some a:=by
  unfold chk at h
  split at h
  · exact ⟨by assumption,h⟩
  · cases h
theorem zab {α:Type} {c:Prop} {x:Option α} {a:α} {Z:Prop} (h:chk c x=some a) (k:c→x=some a→Z):Z:=k (zej h).1 (zej h).2
theorem z68 {α:Type} {c:Prop} {x:Option α} (h:c):chk c x=x:=by unfold chk;rw [if_pos h]
noncomputable abbrev GV:=D→G→M→Option (G×M)
noncomputable abbrev GsV:=List D→G→M→Option (G×M)
def tDG (K:PySem.W.Frag) (gv:GV):TG:=fun v σ H Q=>∃ (W:Wd) (Γ:G) (d:D) (Γ':G) (μ':M),W.H=H∧Ok K W∧EnvR K W Γ σ∧DR K W d v∧gv d Γ W.μ=some (Γ',μ')∧∀ W' σ',W'.μ=μ'→Ok K W'→Step W W'→EnvR K W' Γ' σ'→Q σ' W'.H
noncomputable def zrs (K:PySem.W.Frag) (gv:GsV):TGs:=fun vs σ H Q=>∃ (W:Wd) (Γ:G) (ds:List D) (Γ':G) (μ':M),W.H=H∧Ok K W∧EnvR K W Γ σ∧DRs K W ds vs∧gv ds Γ W.μ=some (Γ',μ')∧∀ W' σ',W'.μ=μ'→Ok K W'→Step W W'→EnvR K W' Γ' σ'→Q σ' W'.H
section
variable {X:Cx} {K:PySem.W.Frag} {pos:Pos}
theorem ziq {tg:Expr} {t t':TG} (h:PG X tg t) (hi:∀ v σ H Q,t' v σ H Q→t v σ H Q):PG X tg t':=fun pins s σ H v u Q I r hw=>h pins s σ H v u Q I r (hi _ _ _ _ hw)
theorem zio {tg:List Expr} {t t':TGs} (h:PGs X tg t) (hi:∀ v σ H Q,t' v σ H Q→t v σ H Q):PGs X tg t':=fun pins s σ H v u Q I r hw=>h pins s σ H v u Q I r (hi _ _ _ _ hw)
theorem EnvR.set {W:Wd} {Γ:G} {σ:St} (e:EnvR K W Γ σ) {d:D} {v:V} (r:DR K W d v) (i:Nat):EnvR K W (Γ.set i (some d)) (σ.set i (some v)) where
  len:=by simp [e.len]
  at_ j d' h:=by
    by_cases hj:j=i
    · subst hj
      have hlt:j<Γ.length:=by have:=(List.getElem?_eq_some_iff.mp h).1;simpa using this
      simp [hlt] at h
      subst h
      exact ⟨v,by have:=e.len;simp [show j<σ.length by omega],r⟩
    · rw [List.getElem?_set_ne (Ne.symm hj)] at h
      obtain ⟨u,hu,q⟩:=e.at_ j d' h
      exact ⟨u,by rw [List.getElem?_set_ne (Ne.symm hj)];exact hu,q⟩
noncomputable def z03 (i:Nat):GV:=fun d Γ μ=>some (Γ.set i (some d),μ)
theorem zfe {i:Nat}:∀ v σ H Q,tDG K (z03 i) v σ H Q→znw i v σ H Q:=fun v σ H Q h=>by
  refine bq fun bG=>?_
  obtain ⟨W,Γ,d,Γ',μ',rfl,ok,en,r,e,q⟩:=h
  cases e
  exact bG (q W _ rfl ok .refl (en.set r i))
theorem z0e {i:Nat} {x:Str} (hN:X.N.Nodup) (hi:X.N[i]?=some x) (hx:Loc X.env.scope x) (hf:X.fn x=true∨X.env.scope.names.lookup x=some .local:=by first | exact .inl rfl | exact .inr rfl | assumption):PG X (.Name x pos) (tDG K (z03 i)):=ziq (znc hN hi hx hf) zfe
noncomputable def z6w:GsV:=fun ds Γ μ=>match ds with
  | []=>some (Γ,μ)
  | _::_=>none
noncomputable def z18 (g:GV) (gs:GsV):GsV:=fun ds Γ μ=>match ds with
  | []=>none
  | d::r=>(g d Γ μ).bind fun p=>gs r p.1 p.2
theorem z6m:PGs X [] (zrs K z6w):=zio znb fun v σ H Q h=>by
  obtain ⟨W,Γ,d,Γ',μ',rfl,ok,en,r,e,q⟩:=h
  cases r with
  | nil=>cases e;exact ⟨rfl,q W _ rfl ok .refl en⟩
  | cons _ _=>cases e
theorem z19 {e:Expr} {es:List Expr} {g:GV} {gs:GsV} (h1:PG X e (tDG K g)) (h2:PGs X es (zrs K gs))
    (hs:(assignEach (e::es) X.env).map (·.2)=assign e X.env::(assignEach es X.env).map (·.2):=by rfl):PGs X (e::es) (zrs K (z18 g gs)):=zio (zk8 h1 h2 hs) fun v σ H Q h=>by
  obtain ⟨W,Γ,d,Γ',μ',rfl,ok,en,r,e,q⟩:=h
  cases r with
  | nil=>cases e
  | cons r rs =>
    refine z02 e fun p1 e1 e=>?_
    exact ⟨_,_,rfl,W,Γ,_,p1.1,p1.2,rfl,ok,en,r,e1,fun W1 σ1 hμ ok1 s1 en1=>⟨W1,p1.1,_,Γ',μ',rfl,ok1,en1,rs.step ok s1,by rw [hμ];exact e,fun W2 σ2 hμ2 ok2 s2 en2=>q W2 σ2 hμ2 ok2 (s1.trans s2) en2⟩⟩
noncomputable def z5w (n:Nat) (gs:GsV):GV:=fun d Γ μ=>(zjg d).bind fun ds=>if ds.length=n then gs ds Γ μ else none
theorem z98 {es:List Expr} {k:Nat} {gs:GsV} {n:Nat} (h:PGs X es (zrs K gs)) (hc:X.calm=true:=by rfl) (hn:(assignEach es X.env).length=n:=by rfl) (hst:(assignEach es X.env).findIdx? (·.1)=none:=by rfl) (hK:X.K=K:=by rfl):PG X (.Tuple es k pos) (tDG K (z5w n gs)):=ziq (gT K h hc hn hst hK) fun v σ H Q hh=>by
  obtain ⟨W,Γ,d,Γ',μ',rfl,ok,en,r,e,q⟩:=hh
  refine z02 e fun ds e1 e=>?_
  split at e
  · rename_i hl
    obtain ⟨a,vs,rfl,hs,hv⟩:=z63 e1 r
    exact ⟨a,vs,rfl,hs,by rw [← hv.length];exact hl,W,Γ,ds,Γ',μ',rfl,ok,en,hv,e,q⟩
  · cases e
noncomputable def zas (eo ei:EV):GV:=fun d Γ μ=>(eo Γ μ).bind fun p=>(ei Γ p.2).bind fun q=>match q.1 with
  | .int j=>(onL p.1 q.2 fun ds=>(ixN ds.length j).bind fun jj=>some (.non,ds.set jj d)).bind fun r=>some (Γ,r.2)
  | _=>none
theorem zfr {o i:Expr} {eo ei:EV} (ho:PE X o (tD K eo)) (hi:PE X i (tD K ei)) (ha:∀ v,assign (.Subscript o i pos) X.env v=(do
      let ov ← holding [v] (eval o X.env)
      let iv ← holding [v,ov] (eval i X.env)
      standAt pos
      holding [v,ov,iv] (setItem ov iv v)
      release [v,ov,iv] []):=by intro _;rfl):PG X (.Subscript o i pos) (tDG K (zas eo ei)):=ziq (zq8 ho hi zjo ha) fun v σ H Q hh=>by
  obtain ⟨W,Γ,d,Γ',μ',rfl,ok,en,r,e,q⟩:=hh
  refine z02 e fun p1 e1 e=>?_
  refine z02 e fun p2 e2 e=>?_
  refine ⟨W,Γ,p1.1,p1.2,rfl,ok,en,e1,fun x W1 hμ ok1 s1 r1=>⟨W1,Γ,p2.1,p2.2,rfl,ok1,en.step ok s1,by rw [hμ];exact e2,fun y W2 hμ2 ok2 s2 r2=>?_⟩⟩
  split at e
  · rename_i j hj
    rw [hj] at r2
    cases r2
    obtain ⟨⟨z3,μ3⟩,e3,e⟩:=bnd e
    cases e
    rw [← hμ2] at e3
    obtain ⟨k,a,ds,vs,ds',h1,rfl,hk,ha,hh,hs,hg,h2⟩:=zlp ok2 e3 (r1.step ok1 s2)
    refine z02 hg fun jj hjj hg=>?_
    cases hg
    obtain ⟨o1,st1⟩:=zgz (vs:=vs) (vs':=vs.set jj v) ok2 hk ha (hs.set ((r.step ok s1).step ok1 s2) jj)
    exact ⟨a,vs,j,jj,rfl,rfl,hh,by rw [← hs.length];exact hjj,q _ _ h2.symm o1 ((s1.trans s2).trans st1) (((en.step ok s1).step ok1 s2).step ok2 st1)⟩
  · cases e
end
section
variable {X:Cx} {K:PySem.W.Frag} {pos:Pos} {e:Expr} {ea:EV} {st:Stmt} {z4d:List Stmt} {sa sb:SV}
noncomputable def sNx:SV:=fun Γ μ=>some (.nx,Γ,μ)
noncomputable def z1p (a b:SV):SV:=fun Γ μ=>(a Γ μ).bind fun o=>match o.1 with
  | .nx=>b o.2.1 o.2.2
  | .bk=>some (.bk,o.2)
  | .ct=>some (.ct,o.2)
  | .rt d=>some (.rt d,o.2)
theorem z1t:PSs X [] (tDS K sNx):=z8i zn4 fun D σ H h=>by
  refine el5 h fun W Γ o Γ' μ' eH ok en e q=>?_;subst eH
  cases e
  exact q W σ rfl ok .refl en
theorem z0c (h1:PS X st (tDS K sa)):PSs X [st] (tDS K sa):=zh0 h1
theorem z07 (h1:PS X st (tDS K sa)) (h2:PSs X z4d (tDS K sb)):PSs X (st::z4d) (tDS K (z1p sa sb)):=z8i (zdz h1 h2) fun D σ H h=>by
  refine el5 h fun W Γ o Γ' μ' eH ok en e q=>?_;subst eH
  refine bq fun bG=>?_
  obtain ⟨⟨o1,Γ1,μ1⟩,e1,e⟩:=bnd e
  refine bG (⟨W,Γ,o1,Γ1,μ1,rfl,ok,en,e1,fun W1 σ1 hμ ok1 s1 en1=>?_⟩)
  cases o1 with
  | nx=>exact ⟨W1,Γ1,o,Γ',μ',rfl,ok1,en1,by rw [hμ];exact e,fun W2 σ2 hμ2 ok2 s2 en2=>q W2 σ2 hμ2 ok2 (s1.trans s2) en2⟩
  | bk=>cases e;exact q W1 σ1 hμ ok1 s1 en1
  | ct=>cases e;exact q W1 σ1 hμ ok1 s1 en1
  | rt d=>cases e;exact q W1 σ1 hμ ok1 s1 en1
noncomputable def zai (ea:EV):SV:=fun Γ μ=>(ea Γ μ).bind fun p=>some (.nx,Γ,p.2)
theorem z7q (he:PE X e (tD K ea)) (hs:swapsWith e none pos.line X.env=pure false:=by rfl):PS X (.Expr e pos) (tDS K (zai ea)):=z3o (zh1 he hs) fun D σ H h=>by
  refine el5 h fun W Γ o Γ' μ' eH ok en e q=>?_;subst eH
  refine z02 e fun p1 e1 e=>?_
  cases e
  exact ⟨W,Γ,p1.1,p1.2,rfl,ok,en,e1,fun v W1 hμ ok1 s1 r1=>q W1 σ hμ ok1 s1 (en.step ok s1)⟩
noncomputable def z5f (ea:EV):SV:=fun Γ μ=>(ea Γ μ).bind fun p=>some (.rt p.1,Γ,p.2)
theorem z0s (he:PE X e (tD K ea)):PS X (.Return (some e) pos) (tDS K (z5f ea)):=z3o (zq1 he) fun D σ H h=>by
  refine el5 h fun W Γ o Γ' μ' eH ok en e q=>?_;subst eH
  refine z02 e fun p1 e1 e=>?_
  cases e
  exact ⟨W,Γ,p1.1,p1.2,rfl,ok,en,e1,fun v W1 hμ ok1 s1 r1=>q W1 σ hμ ok1 s1 (en.step ok s1) v r1⟩
noncomputable def sIf (t:BV) (a b:SV):SV:=fun Γ μ=>(t Γ μ).bind fun p=>if p.1=true then a Γ p.2 else b Γ p.2
theorem z3z {c:Expr} {a b:List Stmt} {bc:BV} (hc:PT X c (tDB K bc)) (ha:PSs X a (tDS K sa)) (hb:PSs X b (tDS K sb)):PS X (.If c a b pos) (tDS K (sIf bc sa sb)):=z3o (zq2 hc ha hb) fun D σ H h=>by
  refine el5 h fun W Γ o Γ' μ' eH ok en e q=>?_;subst eH
  refine z02 e fun p1 e1 e=>?_
  refine ⟨W,Γ,p1.1,p1.2,rfl,ok,en,e1,fun W1 hμ ok1 s1=>?_⟩
  split at e
  · rename_i hp;rw [if_pos hp];exact ⟨W1,Γ,o,Γ',μ',rfl,ok1,en.step ok s1,by rw [hμ];exact e,fun W2 σ2 hμ2 ok2 s2 en2=>q W2 σ2 hμ2 ok2 (s1.trans s2) en2⟩
  · rename_i hp;rw [if_neg hp];exact ⟨W1,Γ,o,Γ',μ',rfl,ok1,en.step ok s1,by rw [hμ];exact e,fun W2 σ2 hμ2 ok2 s2 en2=>q W2 σ2 hμ2 ok2 (s1.trans s2) en2⟩
noncomputable def z3k (ea:EV) (g:GV):SV:=fun Γ μ=>(ea Γ μ).bind fun p=>(g p.1 Γ p.2).bind fun q=>some (.nx,q.1,q.2)
theorem zjq {g:GV}:∀ D σ H,tDS K (z3k ea g) D σ H→zsi (tD K ea) (tDG K g) D σ H:=fun D σ H h=>by
  refine el5 h fun W Γ o Γ' μ' eH ok en e q=>?_;subst eH
  refine z02 e fun p1 e1 e=>?_
  refine z02 e fun p2 e2 e=>?_
  cases e
  exact ⟨W,Γ,p1.1,p1.2,rfl,ok,en,e1,fun v W1 hμ ok1 s1 r1=>⟨W1,Γ,p1.1,p2.1,p2.2,rfl,ok1,en.step ok s1,r1,by rw [hμ];exact e2,fun W2 σ2 hμ2 ok2 s2 en2=>q W2 σ2 hμ2 ok2 (s1.trans s2) en2⟩⟩
theorem zfq {tg:Expr} {g:GV} (he:PE X e (tD K ea)) (hg:PG X tg (tDG K g)) (hs:swapsWithSole [tg] e pos.line X.env=pure false:=by rfl) (hw:swappedStores [tg] e X.env=pure none:=by rfl)
    (h1:(assignEach [tg] X.env).map (·.2)=[assign tg X.env]:=by rfl):PS X (.Assign [tg] e pos) (tDS K (z3k ea g)):=z3o (zq3 he hg hs hw h1) zjq
theorem z0v {i:Nat} {x:Str} {pos':Pos} (hN:X.N.Nodup) (hi:X.N[i]?=some x) (hx:Loc X.env.scope x) (he:PE X e (tD K ea)) (hs:swapsWith e (some (.Name x pos')) pos.line X.env=pure false:=by rfl) (hf:X.fn x=true∨X.env.scope.names.lookup x=some .local:=by first | exact .inl rfl | exact .inr rfl | assumption) :
    PS X (.Assign [.Name x pos'] e pos) (tDS K (z3k ea (z03 i))):=z3o (zli hN hi hx he hs hf) fun D σ H h=>by
  refine el5 h fun W Γ o Γ' μ' eH ok en e q=>?_;subst eH
  refine z02 e fun p1 e1 e=>?_
  cases e
  exact ⟨W,Γ,p1.1,p1.2,rfl,ok,en,e1,fun v W1 hμ ok1 s1 r1=>q W1 _ hμ ok1 s1 ((en.step ok s1).set r1 i)⟩
noncomputable def sAug (i:Nat) (f:D→D→M→Option (D×M)) (ea:EV):SV:=fun Γ μ=>match Γ[i]? with
  | some (some x)=>(ea Γ μ).bind fun p=>(f x p.1 p.2).bind fun q=>some (.nx,Γ.set i (some q.1),q.2)
  | _=>none
noncomputable def zl3 (c:BV) (body:SV):Nat→SV
  | 0,_,_=>none
  | n+1,Γ,μ=>(c Γ μ).bind fun p=>if p.1=true then (body Γ p.2).bind fun o=>match o.1 with
      | .nx=>zl3 c body n o.2.1 o.2.2
      | .ct=>zl3 c body n o.2.1 o.2.2
      | .bk=>some (.nx,o.2)
      | .rt d=>some (.rt d,o.2)
    else some (.nx,Γ,p.2)
noncomputable abbrev Ck:=Option (Nat×List D)
def z78:Ck→M→Prop
  | none,_=>True
  | some (k,raw),μ=>μ[k]?=some (some (.lst raw))
noncomputable abbrev IV:=G→M→Option ((List D×Ck)×M)
def JR (K:PySem.W.Frag) (W:Wd) (J:It) (its:List D) (c:Ck):Prop:=z78 c W.μ∧∃ ds vs,DRs K W ds vs∧∀ (W2:Wd) (i:Nat),Ok K W2→z78 c W2.μ→DRs K W2 ds vs →
  (its.length≤i→J.stop i W2.H)∧∀ d,its[i]?=some d→J.go i W2.H∧∀ x H',J.yld i W2.H x H'→∃ W3,W3.H=H'∧W3.μ=W2.μ∧Ok K W3∧Step W2 W3∧DR K W3 d x
def tDI (K:PySem.W.Frag) (iv:IV):TI:=fun σ H R=>∃ (W:Wd) (Γ:G) (its:List D) (c:Ck) (μ':M),W.H=H∧Ok K W∧EnvR K W Γ σ∧iv Γ W.μ=some ((its,c),μ')∧∀ J W',W'.μ=μ'→Ok K W'→Step W W'→JR K W' J its c→R J W'.H
theorem zin {tg iter:Expr} {t t':TI} (h:PI X tg iter t) (hi:∀ σ H R,t' σ H R→t σ H R):PI X tg iter t':=fun pins s σ H R I hw=>h pins s σ H R I (hi _ _ _ hw)
noncomputable def lsC (μ:M):D→Option (List D×Ck)
  | .lst ds=>some (ds,none)
  | .scr ds=>some (ds,none)
  | .ref k=>match μ[k]? with
    | some (some (.lst ds))=>some (ds,some (k,ds))
    | _=>none
  | _=>none
theorem zlr {W:Wd} {d:D} {ds:List D} {c:Ck} {v:V} (ok:Ok K W) (h:lsC W.μ d=some (ds,c)) (r:DR K W d v) :
    z78 c W.μ∧∃ a,v=.ref a∧∀ W2,Ok K W2→z78 c W2.μ→DR K W2 d v→∃ vs,SqL K W2.H a vs∧DRs K W2 ds vs:=by
  cases d with
  | lst xs =>
    cases h
    cases r with
    | lst h n hs =>
      refine ⟨trivial,_,rfl,fun W2 _ _ r2=>?_⟩
      cases r2 with
      | lst h n hs=>exact ⟨_,SqL.of h,hs⟩
  | scr xs =>
    cases h
    cases r with
    | scr h hs =>
      refine ⟨trivial,_,rfl,fun W2 _ _ r2=>?_⟩
      cases r2 with
      | scr h hs=>exact ⟨_,h.seq,hs⟩
  | ref k =>
    simp only [lsC] at h
    split at h
    · rename_i xs hk
      cases h
      refine ⟨hk,?_⟩
      cases r with
      | ref ha =>
        refine ⟨_,rfl,fun W2 ok2 c2 r2=>?_⟩
        refine bq fun bG=>?_
        obtain ⟨a',vs,e,_,hh,hs⟩:=z7z ok2 c2 r2
        cases e
        exact bG (⟨vs,SqL.of hh,hs⟩)
    · cases h
  | _=>cases h
noncomputable def ivL (ea:EV):IV:=fun Γ μ=>(ea Γ μ).bind fun p=>(lsC p.2 p.1).bind fun s=>some (s,p.2)
theorem z3p {tg a:Expr} (ha:PE X a (tD K ea)) (hK:X.K=K:=by rfl):PI X tg a (tDI K (ivL ea)):=zin (iL K ha hK) fun σ H R h=>by
  refine el5 h fun W Γ its c μ' eH ok en e q=>?_;subst eH
  refine z02 e fun p1 e1 e=>?_
  refine z02 e fun s e2 e=>?_
  cases e
  refine ⟨W,Γ,p1.1,p1.2,rfl,ok,en,e1,fun v W1 hμ ok1 s1 r1=>?_⟩
  refine bq fun bG=>?_
  obtain ⟨c0,a,rfl,hh⟩:=zlr ok1 (by rw [hμ];exact e2) r1
  obtain ⟨vs0,h0,_⟩:=hh W1 ok1 c0 r1
  refine bG (⟨a,rfl,⟨_,h0⟩,q (Itl K a) W1 hμ ok1 s1 ⟨c0,[p1.1],[.ref a],.cons r1 .nil,fun W2 i ok2 c2 r2=>?_⟩⟩)
  cases r2 with
  | cons r2 _ =>
    obtain ⟨vs,hs,hv⟩:=hh W2 ok2 c2 r2
    refine ⟨fun hi=>⟨vs,hs,by rw [← hv.length];exact hi⟩,fun d hd=>?_⟩
    refine bq fun bG=>?_
    obtain ⟨v,hv1,hv2⟩:=hv.get hd
    refine bG (⟨⟨vs,v,hs,hv1⟩,fun x H' y=>?_⟩)
    obtain ⟨rfl,y⟩:=y
    have:=y vs hs
    rw [hv1] at this
    cases this
    exact ⟨W2,rfl,rfl,ok2,.refl,hv2⟩
noncomputable def z5n (lo:Int) (n:Nat):List D:=(List.range n).map fun k:Nat=>D.int (lo+k)
theorem zkj {W:Wd} {lo:Int} {n:Nat}:JR K W (Itr lo n) (z5n lo n) none:=by
  refine ⟨trivial,[],[],.nil,fun W2 i ok2 _ _=>⟨fun hi=>?_,fun d hd=>?_⟩⟩
  · show n≤i
    simpa [z5n] using hi
  · have hlt:=(List.getElem?_eq_some_iff.mp hd).1
    simp [z5n] at hlt
    simp [z5n,hlt] at hd
    subst hd
    refine ⟨hlt,fun x H' y=>?_⟩
    refine bq fun bG=>?_
    obtain ⟨rfl,rfl⟩:=y
    exact bG (⟨W2,rfl,rfl,ok2,.refl,.int _⟩)
noncomputable def ivR (ea:EV):IV:=fun Γ μ=>(ea Γ μ).bind fun p=>match p.1 with
  | .int j=>if -1000000000≤j∧j≤1000000000 then some ((z5n 0 j.toNat,none),p.2) else none
  | _=>none
theorem z3i (mr:X.mg "range" = none) {tg a:Expr} {p:Pos} (ha:PE X a (tD K ea)) (hg:Gl X "range" := by rfl) (hs:starEach [a] X.env=[(false,eval a X.env)]:=by rfl):PI X tg (.Call (.Name "range" p) [a] [] pos) (tDI K (ivR ea)):=zin (iR mr ha hg hs) fun σ H R h=>by
  refine el5 h fun W Γ its c μ' eH ok en e q=>?_;subst eH
  refine z02 e fun p1 e1 e=>?_
  split at e
  · rename_i j hj
    split at e
    · rename_i hb
      cases e
      refine ⟨W,Γ,p1.1,p1.2,rfl,ok,en,e1,fun v W1 hμ ok1 s1 r1=>?_⟩
      rw [hj] at r1
      cases r1
      exact ⟨j,rfl,by omega,by omega,q _ W1 hμ ok1 s1 zkj⟩
    · cases e
  · cases e
noncomputable def ziu (c:Ck) (g:GV) (body:SV):List D→SV
  | [],Γ,μ=>some (.nx,Γ,μ)
  | d::r,Γ,μ=>(g d Γ μ).bind fun p=>(body p.1 p.2).bind fun o=>match o.1 with
    | .nx=>chk (z78 c o.2.2) (ziu c g body r o.2.1 o.2.2)
    | .ct=>chk (z78 c o.2.2) (ziu c g body r o.2.1 o.2.2)
    | .bk=>some (.nx,o.2)
    | .rt d=>some (.rt d,o.2)
noncomputable def zgk (iv:IV) (g:GV) (body:SV):SV:=fun Γ μ=>(iv Γ μ).bind fun s=>ziu s.1.2 g body s.1.1 Γ s.2
theorem z69 {tg iter:Expr} {body:List Stmt} {iv:IV} {g:GV} (hp:PassesOwn (model X.prog X.w) X.A X.env X.xe) (hc:X.calm=true) (hi:PI X tg iter (tDI K iv)) (hg:PG X tg (tDG K g)) (hb:PSs X body (tDS K sb))
    (hs:∀ x,foldedSetIterable iter X.env x=pure x:=by intro _;rfl):PS X (.For tg iter body [] pos) (tDS K (zgk iv g sb)):=z3o (zlj hp hc hi hg hb hs) fun D σ H h=>by
  refine el5 h fun W Γ o Γ' μ' eH ok en e q=>?_;subst eH
  refine bq fun bG=>?_
  obtain ⟨⟨⟨its,c⟩,μ1⟩,e1,e⟩:=bnd e
  refine bG (⟨W,Γ,its,c,μ1,rfl,ok,en,e1,fun J W1 hμ1 ok1 s1 jr=>?_⟩)
  obtain ⟨c1,ds,vs,r1,hj⟩:=jr
  obtain ⟨P,hP⟩:∃ P:Nat→St→Hp→Prop,∀ i σ2 H2,P i σ2 H2↔(i≤its.length∧∃ W2 Γ2,W2.H=H2∧Ok K W2∧Step W1 W2∧EnvR K W2 Γ2 σ2∧z78 c W2.μ∧ziu c g sb (its.drop i) Γ2 W2.μ=some (o,Γ',μ')):=⟨_,fun _ _ _=>Iff.rfl⟩
  refine ⟨fun i m σ2 H2=>m=its.length - i∧P i σ2 H2,⟨its.length,by simp,(hP _ _ _).2 ⟨Nat.zero_le _,W1,Γ,rfl,ok1,.refl,en.step ok s1,c1,by rw [hμ1];exact e⟩⟩,?_⟩
  rintro i m σ2 H2 ⟨rfl,hi⟩
  refine bq fun hG=>?_
  obtain ⟨hi,W2,Γ2,rfl,ok2,s2,en2,c2,e2⟩:=(hP _ _ _).1 hi
  obtain ⟨hstop,hgo⟩:=hj W2 i ok2 c2 (r1.step ok1 s2)
  by_cases hlt:i<its.length
  · have hd:its[i]?=some its[i]:=List.getElem?_eq_getElem hlt
    refine bq fun bG=>?_
    obtain ⟨h1,h2⟩:=hgo _ hd
    rw [List.drop_eq_getElem_cons hlt] at e2
    refine z02 e2 fun p e3 e2=>?_
    obtain ⟨⟨o4,Γ4,μ4⟩,e4,e2⟩:=bnd e2
    refine bG (hG (.inr ⟨h1,P (i+1),fun σ' H' hN=>⟨its.length - (i+1),by omega,rfl,hN⟩,fun x H' hy=>?_⟩))
    refine bq fun hF=>?_
    obtain ⟨W3,rfl,hμ3,ok3,s3,r3⟩:=h2 x H' hy
    refine hF ⟨W3,Γ2,its[i],p.1,p.2,rfl,ok3,en2.step ok2 s3,r3,by rw [hμ3];exact e3,fun W4 σ4 hμ4 ok4 s4 en4=>⟨W4,p.1,o4,Γ4,μ4,rfl,ok4,en4,by rw [hμ4];exact e4,fun W5 σ5 hμ5 ok5 s5 en5=>?_⟩⟩
    have st:=s2.trans (s3.trans (s4.trans s5))
    cases o4 with
    | nx=>refine zab e2 fun hc5 e2=>?_;exact (hP _ _ _).2 ⟨hlt,W5,Γ4,rfl,ok5,st,en5,by rw [hμ5];exact hc5,by rw [hμ5];exact e2⟩
    | ct=>refine zab e2 fun hc5 e2=>?_;exact (hP _ _ _).2 ⟨hlt,W5,Γ4,rfl,ok5,st,en5,by rw [hμ5];exact hc5,by rw [hμ5];exact e2⟩
    | bk=>cases e2;exact q W5 σ5 hμ5 ok5 (s1.trans st) en5
    | rt d=>cases e2;exact q W5 σ5 hμ5 ok5 (s1.trans st) en5
  · have e':i=its.length:=by omega
    subst e'
    rw [List.drop_eq_nil_of_le (Nat.le_refl _)] at e2
    cases e2
    exact hG (.inl ⟨hstop (Nat.le_refl _),q W2 σ2 rfl ok2 (s1.trans s2) en2⟩)
end
structure StepB (p:Addr) (W W':Wd):Prop where
  ρ:∀ (k:Nat) a,W.ρ[k]?=some a→W'.ρ[k]?=some a
  live:∀ a,RL W' a→RL W a∨W.H a=none
  keep:∀ a o,a≠p→W.H a=some o→¬ RL W a→W'.H a=some o
  hid:W'.hid=W.hid
  still:∀ a,W.H a≠none→W'.H a≠none
section
variable {K:PySem.W.Frag} {W W' W'':Wd} {p:Addr}
theorem Step.b (s:Step W W'):StepB p W W':=⟨s.ρ,s.live,fun a o _ h n=>s.keep a o h n,s.hid,s.still⟩
theorem StepB.nlive (s:StepB p W W') {a:Addr} {o:HO} (h:W.H a=some o) (n:¬ RL W a):¬ RL W' a:=fun z=>by
  rcases s.live a z with z | z
  · exact n z
  · rw [h] at z;cases z
theorem StepB.trans (s:StepB p W W') (t:StepB p W' W''):StepB p W W'' where
  ρ k a h:=t.ρ k a (s.ρ k a h)
  live a h:=by
    rcases t.live a h with z | z
    · exact s.live a z
    · exact .inr (Classical.byContradiction fun n=>s.still a n z)
  keep a o hp h n:=t.keep a o hp (s.keep a o hp h n) (s.nlive h n)
  hid:=t.hid.trans s.hid
  still a h:=t.still a (s.still a h)
mutual
theorem DR.stepB (ok:Ok K W) (hp:W.hid p) (hl:∃ ys,W.H p=some (.lst ys)) (s:StepB p W W'):∀ {d:D} {v:V},DR K W d v→DR K W' d v
  | _,_,.non=>.non
  | _,_,.bl b=>.bl b
  | _,_,.int i=>.int i
  | _,_,.str x=>.str x
  | _,_,.ref h=>.ref (s.ρ _ _ h)
  | _,_,.lst r n h=>.lst (s.keep _ _ (fun z=>n (.inr (by rw [z];exact hp))) r (fun z=>n (.inl z))) (fun z=>z.elim (s.nlive r (fun z=>n (.inl z))) (fun z=>n (.inr (by rw [s.hid] at z;exact z)))) (DRs.stepB ok hp hl s h)
  | _,_,.scr r h=>.scr (by
      rcases r with ⟨o,r⟩ | r
      · obtain ⟨ys,hl⟩:=hl
        exact .inl ⟨o,s.keep _ _ (fun z=>by rw [z,hl] at r;cases r) r (ok.nofrz r)⟩
      · exact .inr r) (DRs.stepB ok hp hl s h)
  | _,_,.tup r h=>.tup (by
      obtain ⟨ys,hl⟩:=hl
      exact s.keep _ _ (fun z=>by rw [z,hl] at r;cases r) r (ok.notup (.inl r))) (DRs.stepB ok hp hl s h)
  | _,_,.gt r h=>.gt (by
      rcases r with r | r
      · have n:=ok.notup r
        obtain ⟨ys,hl⟩:=hl
        rcases r with r | ⟨o,r⟩
        · exact .inl (.inl (s.keep _ _ (fun z=>by rw [z,hl] at r;cases r) r n))
        · exact .inl (.inr ⟨o,s.keep _ _ (fun z=>by rw [z,hl] at r;cases r) r n⟩)
      · exact .inr r) (DRs.stepB ok hp hl s h)
theorem DRs.stepB (ok:Ok K W) (hp:W.hid p) (hl:∃ ys,W.H p=some (.lst ys)) (s:StepB p W W'):∀ {ds:List D} {vs:List V},DRs K W ds vs→DRs K W' ds vs
  | _,_,.nil=>.nil
  | _,_,.cons h t=>.cons (h.stepB ok hp hl s) (DRs.stepB ok hp hl s t)
end
theorem OR.stepB (ok:Ok K W) (hp:W.hid p) (hl:∃ ys,W.H p=some (.lst ys)) (s:StepB p W W') {a:Addr} {o:O} {ho:HO} (h:OR K W a o ho):OR K W' a o ho:=by
  cases o with
  | lst ds=>obtain ⟨vs,e,q⟩:=h;exact ⟨vs,e,q.stepB ok hp hl s⟩
  | dK kvs=>obtain ⟨vs,e,q⟩:=h;exact ⟨vs,e,Paired.mapP q fun _ _ ⟨e,q⟩=>⟨e,q.stepB ok hp hl s⟩⟩
  | dN kvs=>obtain ⟨vs,e,q⟩:=h;exact ⟨vs,e,Paired.mapP q fun _ _ ⟨e,q⟩=>⟨e,q.stepB ok hp hl s⟩⟩
  | ins C fs=>obtain ⟨vs,e,q⟩:=h;exact ⟨vs,e,Paired.mapP q fun _ _ ⟨e,q⟩=>⟨e,q.stepB ok hp hl s⟩⟩
  | exc C=>exact h
theorem EnvR.stepB {Γ:G} {σ:St} (e:EnvR K W Γ σ) (ok:Ok K W) (hp:W.hid p) (hl:∃ ys,W.H p=some (.lst ys)) (s:StepB p W W'):EnvR K W' Γ σ:=⟨e.len,fun i d h=>let ⟨v,a,b⟩:=e.at_ i d h;⟨v,a,b.stepB ok hp hl s⟩⟩
noncomputable def Wd.re (W:Wd) (p:Addr) (o:HO):Wd:={ W with H:=upd W.H p o }
theorem z5m {o:HO}:StepB p W (W.re p o) where
  ρ _ _ h:=h
  live _ h:=.inl h
  keep a u hp e _:=by show upd W.H p o a=_;rw [z09 hp];exact e
  hid:=rfl
  still a n:=by
    show upd W.H p o a≠none
    by_cases e:a=p
    · subst e;rw [z0i];simp
    · rw [z09 e];exact n
theorem zt1 (ok:Ok K W) (hp:W.hid p) (hl:∃ ys,W.H p=some (.lst ys)) {o:HO}:Ok K (W.re p o) where
  len:=ok.len
  nd:=ok.nd
  rs a m:=(z5m (W:=W) (p:=p) (o:=o)).still a (ok.rs a m)
  at_ k u e:=by
    obtain ⟨a,ho,h1,h2,h3⟩:=ok.at_ k u e
    have hne:a≠p:=fun z=>(ok.hd p hp).2 (z ▸ ⟨k,u,e,h1⟩)
    exact ⟨a,ho,h1,by show upd W.H p o a=_;rw [z09 hne];exact h2,h3.stepB ok hp hl z5m⟩
  hd0 a z:=⟨(z5m (W:=W) (p:=p) (o:=o)).still a (ok.hd a z).1,(ok.hd0 a z).2⟩
mutual
theorem DR.hide (hp:W.H p=none) (ok:Ok K W) {o:HO}:∀ {d:D} {v:V},DR K W d v→DR K (W.hide p o) d v
  | _,_,.non=>.non
  | _,_,.bl b=>.bl b
  | _,_,.int i=>.int i
  | _,_,.str x=>.str x
  | _,_,.ref h=>.ref h
  | _,_,.lst r n h=>.lst (by show upd W.H p o _=_;rw [z09 (z0b r hp)];exact r) (fun z=>z.elim (fun z=>n (.inl z)) (fun z=>z.elim (fun z=>by rw [z,hp] at r;cases r) (fun z=>n (.inr z)))) (DRs.hide hp ok h)
  | _,_,.scr r h=>.scr (zgf ok (z0g hp) r) (DRs.hide hp ok h)
  | _,_,.tup r h=>.tup (by show upd W.H p o _=_;rw [z09 (z0b r hp)];exact r) (DRs.hide hp ok h)
  | _,_,.gt r h=>.gt (zga ok (z0g hp) r) (DRs.hide hp ok h)
theorem DRs.hide (hp:W.H p=none) (ok:Ok K W) {o:HO}:∀ {ds:List D} {vs:List V},DRs K W ds vs→DRs K (W.hide p o) ds vs
  | _,_,.nil=>.nil
  | _,_,.cons h t=>.cons (h.hide hp ok) (DRs.hide hp ok t)
end
theorem OR.hide (hp:W.H p=none) (ok:Ok K W) {o:HO} {a:Addr} {x:O} {ho:HO} (h:OR K W a x ho):OR K (W.hide p o) a x ho:=by
  cases x with
  | lst ds=>obtain ⟨vs,e,q⟩:=h;exact ⟨vs,e,q.hide hp ok⟩
  | dK kvs=>obtain ⟨vs,e,q⟩:=h;exact ⟨vs,e,Paired.mapP q fun _ _ ⟨e,q⟩=>⟨e,q.hide hp ok⟩⟩
  | dN kvs=>obtain ⟨vs,e,q⟩:=h;exact ⟨vs,e,Paired.mapP q fun _ _ ⟨e,q⟩=>⟨e,q.hide hp ok⟩⟩
  | ins C fs=>obtain ⟨vs,e,q⟩:=h;exact ⟨vs,e,Paired.mapP q fun _ _ ⟨e,q⟩=>⟨e,q.hide hp ok⟩⟩
  | exc C=>exact h
theorem EnvR.hide {Γ:G} {σ:St} (e:EnvR K W Γ σ) (hp:W.H p=none) (ok:Ok K W) {o:HO}:EnvR K (W.hide p o) Γ σ:=⟨e.len,fun i d h=>let ⟨v,a,b⟩:=e.at_ i d h;⟨v,a,b.hide hp ok⟩⟩
theorem zh6 (ok:Ok K W) (hp:W.H p=none) {o:HO}:Ok K (W.hide p o) where
  len:=ok.len
  nd:=ok.nd
  rs a m:=(z0g (o:=o) hp).still a (ok.rs a m)
  at_ k u e:=by
    obtain ⟨a,ho,h1,h2,h3⟩:=ok.at_ k u e
    exact ⟨a,ho,h1,by show upd W.H p o a=_;rw [z09 (z0b h2 hp)];exact h2,h3.hide hp ok⟩
  hd0 a z:=by
    rcases z with rfl | z
    · exact ⟨by show upd W.H a o a≠none;rw [z0i];simp,fun m=>ok.rs a m hp⟩
    · exact ⟨(z0g (o:=o) hp).still a (ok.hd a z).1,(ok.hd0 a z).2⟩
noncomputable def Wd.show (W:Wd) (h:Addr→Prop):Wd:={ W with hid:=h }
mutual
theorem DR.show {h:Addr→Prop} (hs:∀ a,h a→W.hid a):∀ {d:D} {v:V},DR K W d v→DR K (W.show h) d v
  | _,_,.non=>.non
  | _,_,.bl b=>.bl b
  | _,_,.int i=>.int i
  | _,_,.str x=>.str x
  | _,_,.ref h=>.ref h
  | _,_,.lst r n h=>.lst r (fun z=>n (z.elim .inl (fun z=>.inr (hs _ z)))) (DRs.show hs h)
  | _,_,.scr r h=>.scr r (DRs.show hs h)
  | _,_,.tup r h=>.tup r (DRs.show hs h)
  | _,_,.gt r h=>.gt r (DRs.show hs h)
theorem DRs.show {h:Addr→Prop} (hs:∀ a,h a→W.hid a):∀ {ds:List D} {vs:List V},DRs K W ds vs→DRs K (W.show h) ds vs
  | _,_,.nil=>.nil
  | _,_,.cons h t=>.cons (h.show hs) (DRs.show hs t)
end
theorem znn (ok:Ok K W) {h:Addr→Prop} (hs:∀ a,h a→W.hid a):Ok K (W.show h) where
  len:=ok.len
  nd:=ok.nd
  rs:=ok.rs
  at_ k u e:=by
    refine bq fun bG=>?_
    obtain ⟨a,ho,h1,h2,h3⟩:=ok.at_ k u e
    refine bG (⟨a,ho,h1,h2,?_⟩)
    cases u with
    | lst ds=>obtain ⟨vs,e,q⟩:=h3;exact ⟨vs,e,q.show hs⟩
    | dK kvs=>obtain ⟨vs,e,q⟩:=h3;exact ⟨vs,e,Paired.mapP q fun _ _ ⟨e,q⟩=>⟨e,q.show hs⟩⟩
    | dN kvs=>obtain ⟨vs,e,q⟩:=h3;exact ⟨vs,e,Paired.mapP q fun _ _ ⟨e,q⟩=>⟨e,q.show hs⟩⟩
    | ins C fs=>obtain ⟨vs,e,q⟩:=h3;exact ⟨vs,e,Paired.mapP q fun _ _ ⟨e,q⟩=>⟨e,q.show hs⟩⟩
    | exc C=>exact h3
  hd0 a z:=ok.hd0 a (hs a z)
theorem z51 {o:HO} (hp:W.H p=none) (s:StepB p (W.hide p o) W'):Step W (W'.show W.hid) where
  ρ k a h:=s.ρ k a h
  live a z:=by
    rcases s.live a z with z | z
    · exact .inl z
    · have z:upd W.H p o a=none:=z
      by_cases e:a=p
      · subst e;rw [z0i] at z;cases z
      · rw [z09 e] at z;exact .inr z
  keep a u e n:=s.keep a u (z0b e hp) (by show upd W.H p o a=_;rw [z09 (z0b e hp)];exact e) n
  hid:=rfl
  still a n:=s.still a (by
    show upd W.H p o a≠none
    by_cases e:a=p
    · subst e;rw [z0i];simp
    · rw [z09 e];exact n)
theorem zd3 (ok:Ok K W) (hp:W.hid p):¬ RL W p:=(ok.hd p hp).2
end
noncomputable def z8k (own:List Str) (cap:List (Str×Nat)) (Γ:G):G:=own.map (fun _=>none)++cap.map fun p=>(Γ[p.2]?).join
theorem EnvR.cap {K:PySem.W.Frag} {W:Wd} {Γ:G} {σ:St} (e:EnvR K W Γ σ) (own:List Str) (cap:List (Str×Nat)):EnvR K W (z8k own cap Γ) (z71 own cap σ) where
  len:=by simp [z8k,z71]
  at_ i d h:=by
    unfold z8k at h
    unfold z71
    by_cases hi:i<own.length
    · rw [List.getElem?_append_left (by simpa using hi)] at h
      simp [hi] at h
    · rw [List.getElem?_append_right (by simpa using hi)] at h ⊢
      simp only [List.length_map,List.getElem?_map] at h ⊢
      cases hc:cap[i - own.length]? with
      | none=>rw [hc] at h;cases h
      | some p =>
        rw [hc] at h
        simp only [Option.map_some] at h ⊢
        cases hg:Γ[p.2]? with
        | none=>rw [hg] at h;cases h
        | some x =>
          rw [hg] at h
          cases x with
          | none=>cases h
          | some d' =>
            cases h
            obtain ⟨v,hv,r⟩:=e.at_ _ _ hg
            exact ⟨v,by rw [hv];rfl,r⟩
noncomputable def z1q (c:Ck) (g:GV) (tc:BV) (te:EV):List D→G→M→Option (List D×M)
  | [],_,μ=>some ([],μ)
  | d::r,Γ,μ=>(g d Γ μ).bind fun p=>(tc p.1 p.2).bind fun t=>if t.1=true then (te p.1 t.2).bind fun v=>chk (z78 c v.2) ((z1q c g tc te r p.1 v.2).bind fun q=>some (v.1::q.1,q.2)) else chk (z78 c t.2) (z1q c g tc te r p.1 t.2)
noncomputable def zcd:BV:=fun _ μ=>some (true,μ)
section
variable {X:Cx} {K:PySem.W.Frag} {N' own:List Str} {cap:List (Str×Nat)} {scope:Scope} {tg iter elt:Expr} {ifs:List Expr} {pos:Pos} {iv:IV} {g:GV} {tc:BV} {te:EV}
theorem zoc {t t':TT} (h:PIf X ifs t) (hi:∀ σ H Q,t' σ H Q→t σ H Q):PIf X ifs t':=fun pins s σ H Q I hw=>h pins s σ H Q I (hi _ _ _ hw)
theorem z6l:PIf X [] (tDB K zcd):=zoc zn8 fun σ H Q h=>by
  refine el4 h fun W Γ b μ' eH ok en e q=>?_;subst eH
  cases e
  exact q W rfl ok .refl
theorem z7r {c:Expr} (h:PT X c (tDB K tc)):PIf X [c] (tDB K tc):=zn7 h
theorem za9 {W1:Wd} {J:It} {its:List D} {c:Ck} {Γ0:G} {σ0:St} {rs:List D} {μ':M} {p:Addr} {Z:Hp→Prop} (ok1:Ok K W1) (hp:W1.H p=none) (jr:JR K W1 J its c) (en:EnvR K W1 Γ0 σ0) (hl:its.length≤1000000)
    (e:z1q c g tc te its Γ0 W1.μ=some (rs,μ')) (hZ:∀ W' ys,W'.μ=μ'→Ok K W'→StepB p (W1.hide p (.lst [])) W'→W'.hid p→W'.H p=some (.lst ys)→DRs K W' rs ys→Z W'.H) :
    z4z J (tDG K g) (tDB K tc) (tD K te) p σ0 W1.H Z:=by
  obtain ⟨c1,ds,vs,r1,hj⟩:=jr
  obtain ⟨P,hP⟩:∃ P:Nat→St→Hp→Prop,∀ i σ2 H2,P i σ2 H2↔(i≤its.length∧∃ W2 Γ2 done z4d ys,W2.H=H2∧Ok K W2∧StepB p (W1.hide p (.lst [])) W2∧W2.hid p∧W2.H p=some (.lst ys)∧DRs K W2 done ys∧ys.length≤i∧EnvR K W2 Γ2 σ2∧z78 c W2.μ∧z1q c g tc te (its.drop i) Γ2 W2.μ=some (z4d,μ')∧done++z4d=rs):=⟨_,fun _ _ _=>Iff.rfl⟩
  refine ⟨fun i m σ2 H2=>m=its.length - i∧P i σ2 H2,?_,?_⟩
  · exact ⟨its.length,by simp,(hP _ _ _).2 ⟨Nat.zero_le _,W1.hide p (.lst []),Γ0,[],rs,[],rfl,zh6 ok1 hp,⟨fun _ _ h=>h,fun _ h=>.inl h,fun _ _ _ h _=>h,rfl,fun _ h=>h⟩,.inl rfl,z0i,.nil,Nat.le_refl _,en.hide hp ok1,c1,e,rfl⟩⟩
  rintro i m σ2 H2 ⟨rfl,hi⟩
  refine bq fun hG=>?_
  obtain ⟨hi,W2,Γ2,done,z4d,ys,rfl,ok2,s2,hp2,hy2,rd,hyl,en2,c2,e2,ed⟩:=(hP _ _ _).1 hi
  have rj:DRs K W2 ds vs:=(r1.hide hp ok1).stepB (zh6 ok1 hp) (.inl rfl) ⟨[],z0i⟩ s2
  obtain ⟨hstop,hgo⟩:=hj W2 i ok2 c2 rj
  by_cases hlt:i<its.length
  · have hd:its[i]?=some its[i]:=List.getElem?_eq_getElem hlt
    refine bq fun bG=>?_
    obtain ⟨h1,h2⟩:=hgo _ hd
    rw [List.drop_eq_getElem_cons hlt] at e2
    refine z02 e2 fun pg e3 e2=>?_
    refine z02 e2 fun pt e4 e2=>?_
    refine bG (hG (.inr ⟨h1,P (i+1),fun σ' H' hN=>⟨its.length - (i+1),by omega,rfl,hN⟩,fun x H' hy=>?_⟩))
    refine bq fun hF=>?_
    obtain ⟨W3,rfl,hμ3,ok3,s3,r3⟩:=h2 x H' hy
    refine hF ⟨W3,Γ2,its[i],pg.1,pg.2,rfl,ok3,en2.step ok2 s3,r3,by rw [hμ3];exact e3,fun W4 σ4 hμ4 ok4 s4 en4=>⟨W4,pg.1,pt.1,pt.2,rfl,ok4,en4,by rw [hμ4];exact e4,fun W5 hμ5 ok5 s5=>?_⟩⟩
    have s25:=s3.trans (s4.trans s5)
    split at e2
    · rename_i ht
      refine z02 e2 fun pv e5 e2=>?_
      refine zab e2 fun c5 e2=>?_
      refine z02 e2 fun pq e6 e2=>?_
      cases e2
      refine zu5 (fun _=>?_) (fun n=>absurd ht n)
      refine ⟨W5,pg.1,pv.1,pv.2,rfl,ok5,en4.step ok4 s5,by rw [hμ5];exact e5,fun v W6 hμ6 ok6 s6 r6=>?_⟩
      have s26:=s25.trans s6
      have hp6:W6.hid p:=by rw [s26.hid];exact hp2
      have hy6:W6.H p=some (.lst ys):=s26.keep _ _ hy2 (zd3 ok2 hp2)
      have rd6:=rd.step ok2 s26
      refine ⟨ys,hy6,zhh (by omega),(hP _ _ _).2 ⟨hlt,W6.re p (.lst (ys++[v])),pg.1,done++[pv.1],pq.1,ys++[v],rfl,zt1 ok6 hp6 ⟨_,hy6⟩,(s2.trans s26.b).trans z5m,hp6,z0i,?_,by simp;omega,(((en4.step ok4 s5).step ok5 s6).stepB ok6 hp6 ⟨_,hy6⟩ z5m),by show z78 c W6.μ;rw [hμ6];exact c5,by show z1q c g tc te _ _ W6.μ=_;rw [hμ6];exact e6,by simpa using ed⟩⟩
      exact (rd6.append (.cons r6 .nil)).stepB ok6 hp6 ⟨_,hy6⟩ z5m
    · rename_i ht
      refine zab e2 fun c5 e2=>?_
      refine zu5 (fun n=>absurd n ht) (fun _=>?_)
      exact (hP _ _ _).2 ⟨hlt,W5,pg.1,done,z4d,ys,rfl,ok5,s2.trans s25.b,by rw [s25.hid];exact hp2,s25.keep _ _ hy2 (zd3 ok2 hp2),rd.step ok2 s25,by omega,en4.step ok4 s5,by rw [hμ5];exact c5,by rw [hμ5];exact e2,ed⟩
  · have e':i=its.length:=by omega
    subst e'
    rw [List.drop_eq_nil_of_le (Nat.le_refl _)] at e2
    cases e2
    rw [List.append_nil] at ed
    subst ed
    exact hG (.inl ⟨hstop (Nat.le_refl _),hZ W2 ys rfl ok2 s2 hp2 hy2 rd⟩)
noncomputable def z50 (own:List Str) (cap:List (Str×Nat)) (iv:IV) (g:GV) (tc:BV) (te:EV):EV:=fun Γ μ=>(iv Γ μ).bind fun s=>if s.1.1.length≤1000000 then (z1q s.1.2 g tc te s.1.1 (z8k own cap Γ) s.2).bind fun q=>some (.lst q.1,q.2) else none
theorem zib {W W1 W':Wd} {p:Addr} {rs:List D} {ys:List V} (s1:Step W W1) (hp:W1.H p=none) (ok1:Ok K W1) (ok':Ok K W') (s:StepB p (W1.hide p (.lst [])) W') (hp':W'.hid p) (hy:W'.H p=some (.lst ys)) (r:DRs K W' rs ys) :
    Ok K (W'.show W1.hid)∧Step W (W'.show W1.hid)∧DR K (W'.show W1.hid) (.lst rs) (.ref p):=by
  have hs:∀ a,W1.hid a→W'.hid a:=fun a z=>by rw [s.hid];exact .inr z
  refine ⟨znn ok' hs,s1.trans (z51 hp s),.lst hy (fun z=>?_) (r.show hs)⟩
  rcases z with z | z
  · exact zd3 ok' hp' z
  · exact z6x ok1 hp z
theorem zdp {W:Wd} {Γ:G} {σ:St} {d:D} {μ':M} (ok:Ok K W) (en:EnvR K W Γ σ) (e:z50 own cap iv g tc te Γ W.μ=some (d,μ')) {Z:Addr→Hp→Prop} (q:∀ v W',W'.μ=μ'→Ok K W'→Step W W'→DR K W' d v→∀ p,v=.ref p→Z p W'.H) :
    tDI K iv σ W.H fun J H1=>∀ p,H1 p=none→z4z J (tDG K g) (tDB K tc) (tD K te) p (z71 own cap σ) H1 (Z p):=by
  refine bq fun bG=>?_
  obtain ⟨⟨⟨its,c⟩,μ1⟩,e1,e⟩:=bnd e
  refine bG (⟨W,Γ,its,c,μ1,rfl,ok,en,e1,fun J W1 hμ1 ok1 s1 jr p hp=>?_⟩)
  split at e
  · rename_i hl
    obtain ⟨⟨rs,μ2⟩,e2,e⟩:=bnd e
    cases e
    refine za9 ok1 hp jr ((en.step ok s1).cap own cap) hl (by rw [hμ1];exact e2) fun W' ys hμ' ok' s' hp' hy r=>?_
    refine bq fun bG=>?_
    obtain ⟨a1,a2,a3⟩:=zib s1 hp ok1 ok' s' hp' hy r
    exact bG (q _ (W'.show W1.hid) hμ' a1 a2 a3 p rfl)
  · cases e
theorem z7s (S:CompScope X N' own cap scope) (hi:PI X tg iter (tDI K iv))
    (hg:∀ cl C s₀ H₀ ex,PG (z1i X N' scope cl C s₀ H₀ ex) tg (tDG K g)) (ht:∀ cl C s₀ H₀ ex,PIf (z1i X N' scope cl C s₀ H₀ ex) ifs (tDB K tc)) (he:∀ cl C s₀ H₀ ex,PE (z1i X N' scope cl C s₀ H₀ ex) elt (tD K te))
    (hx:∀ e s,X.xe e s→False:=by exact fun _ _ z=>z) (hc:X.calm=true:=by rfl) (hs:∀ x,foldedSetIterable iter X.env x=pure x:=by intro _;rfl) :
    PE X (.ListComp elt [⟨tg,iter,ifs,0⟩] scope pos) (tD K (z50 own cap iv g tc te)):=z0f (zh5 S hi hg ht he hx hc hs) fun σ H Q h=>by
  refine el4 h fun W Γ d μ' eH ok en e q=>?_;subst eH
  exact zdp ok en e fun v W' h1 h2 h3 h4 p hv=>by subst hv;exact q _ W' h1 h2 h3 h4
theorem z97 {i:Nat} {y:Str} {py spos:Pos} (hN:X.N.Nodup) (hi':X.N[i]?=some y) (hy:X.env.scope.names.lookup y=some .local) (S:CompScope X N' own cap scope) (hi:PI X tg iter (tDI K iv))
    (hg:∀ cl C s₀ H₀ ex,PG (z1i X N' scope cl C s₀ H₀ ex) tg (tDG K g)) (ht:∀ cl C s₀ H₀ ex,PIf (z1i X N' scope cl C s₀ H₀ ex) ifs (tDB K tc)) (he:∀ cl C s₀ H₀ ex,PE (z1i X N' scope cl C s₀ H₀ ex) elt (tD K te))
    (hsw:swapsWith (.ListComp elt [⟨tg,iter,ifs,0⟩] scope pos) (some (.Name y py)) spos.line X.env=pure true:=by rfl)
    (hx:∀ e s,X.xe e s→False:=by exact fun _ _ z=>z) (hc:X.calm=true:=by rfl) (hs:∀ x,foldedSetIterable iter X.env x=pure x:=by intro _;rfl) :
    PS X (.Assign [.Name y py] (.ListComp elt [⟨tg,iter,ifs,0⟩] scope pos) spos) (tDS K (z3k (z50 own cap iv g tc te) (z03 i))):=z3o (zf4 hN hi' hy S hi hg ht he hsw hx hc hs) fun D σ H h=>by
  refine el5 h fun W Γ o Γ' μ' eH ok en e q=>?_;subst eH
  refine z02 e fun p1 e1 e=>?_
  cases e
  exact zdp (Z:=fun p H2=>D.nx (σ.set i (some (.ref p))) H2) ok en e1 fun v W' h1 h2 h3 h4 p hv=>by subst hv;exact q W' _ h1 h2 h3 ((en.step ok h3).set h4 i)
end
open PyProof.Rows (envOfC)
noncomputable def zak (n m:Nat) (es:SV):List D→M→Option (D×M):=fun ds μ=>if ds.length=m then (es (ds.map some++List.replicate (n - ds.length) none) μ).bind fun o=>match o.1 with
    | .rt d=>some (d,o.2.2)
    | .nx=>some (.non,o.2.2)
    | _=>none
  else none
section
variable {P:Program} {w:World} {K:PySem.W.Frag} {mg:Str→Option Value} {base:Heap}
theorem zby {W:Wd} {ds:List D} {vs:List V} {n:Nat} (r:DRs K W ds vs):EnvR K W (ds.map some++List.replicate (n - ds.length) none) (vs.map some++List.replicate (n - vs.length) none) where
  len:=by simp [r.length]
  at_ i d h:=by
    by_cases hi:i<ds.length
    · rw [List.getElem?_append_left (by simpa using hi)] at h
      rw [List.getElem?_append_left (by simpa using r.length ▸ hi)]
      simp only [List.getElem?_map] at h ⊢
      cases hd:ds[i]? with
      | none=>rw [hd] at h;cases h
      | some d' =>
        rw [hd] at h
        cases h
        obtain ⟨v,hv,q⟩:=r.get hd
        exact ⟨v,by rw [hv];rfl,q⟩
    · rw [List.getElem?_append_right (by simpa using hi)] at h
      simp [List.getElem?_replicate] at h
theorem zfn {x qual:Str} {st:Stmt} {f:Addr} {fd:FuncData} {N ps:List Str} {k:Nat} {es:SV} (F:Fun K x qual st f fd) (S:FnScope N ps (z05 st))
    (hb:∀ (cdv:Value) (A:Around) (outer:List Env) (s:Shared) (H:Hp) (E:XK),Room k (A.deeper (envOfC qual (z05 st) s.heap.objs.size f cdv))→PSs (z5a CX0 P w K mg base N qual (z05 st) f cdv A outer s H E).nox (z0o st) (tDS K es)) :
    FnOk P w K mg base CX0 (k+1) f fd ps (spM K (zak N.length ps.length es)):=by
  refine F.ok S (fun vs H Q E h=>?_) (fun cdv A outer s H vs Q E hr h=>?_)
  · obtain ⟨W,ds,d,μ',_,_,r,e,_⟩:=h
    unfold zak at e
    split at e
    · rename_i hl;rw [← r.length];exact hl
    · cases e
  · obtain ⟨W,ds,d,μ',rfl,ok,r,e,q⟩:=h
    refine ⟨_,hb cdv A outer s W.H E hr,?_⟩
    unfold zak at e
    split at e
    · obtain ⟨⟨o,Γ',μ2⟩,e1,e⟩:=bnd e
      refine ⟨W,_,o,Γ',μ2,rfl,ok,zby r,e1,fun W' σ' hμ ok' s' en'=>?_⟩
      cases o with
      | rt z=>cases e;exact fun v rv=>q v W' hμ ok' s' rv
      | nx=>cases e;exact q _ W' hμ ok' s' .non
      | bk=>cases e
      | ct=>cases e
    · cases e
end
section
variable {K:PySem.W.Frag} {W W':Wd} {n:Nat}
end
section
variable {X:Cx} {K:PySem.W.Frag} {a b c e:Expr} {ea eb ec:EV} {pos p:Pos}
theorem R2A.or {r r':R2} {f g h:D→D→M→Option (D×M)} (ra:R2A K r f) (rb:R2A K r' g) (hh:∀ x y μ z,h x y μ=some z→f x y μ=some z∨g x y μ=some z):R2A K (fun x y H Q=>r x y H Q∨r' x y H Q) h:=by
  intro W x y d e z μ' Q ok r1 r2 hf q
  rcases hh _ _ _ _ hf with hf | hf
  · exact .inl (ra W x y d e z μ' Q ok r1 r2 hf q)
  · exact .inr (rb W x y d e z μ' Q ok r1 r2 hf q)
theorem ra_cat:R2A K zu1 ztj:=by
  intro W x y d e z μ' Q ok r1 r2 hf q
  refine z02 hf fun xs hx hf=>?_
  refine z02 hf fun ys hy hf=>?_
  split at hf
  · rename_i hl
    cases hf
    obtain ⟨a,vs,rfl,ha,hv⟩:=z62 ok hx r1
    obtain ⟨b,us,rfl,hb,hu⟩:=z62 ok hy r2
    exact ⟨a,b,vs,us,rfl,rfl,ha,hb,z55 (by rw [← hv.length,← hu.length];omega),fun p hp=>q _ (W.lay p (.lst (vs++us))) rfl (z4v ok hp) (z0g hp) (z8c ok hp (hv.append hu))⟩
  · cases hf
theorem zpk:R2A K ztx zu8:=by
  intro W x y d e z μ' Q ok r1 r2 hf q
  refine z02 hf fun xs hx hf=>?_
  split at hf
  · split at hf
    · rename_i hl
      cases hf
      cases r2
      obtain ⟨a,vs,rfl,ha,hv⟩:=z62 ok hx r1
      exact ⟨a,_,vs,rfl,rfl,ha,by omega,by omega,z55 (by rw [← hv.length];omega),fun p hp=>q _ (W.lay p _) rfl (z4v ok hp) (z0g hp) (z8c ok hp (hv.rep _))⟩
    · cases hf
  · cases hf
noncomputable def zi0 (x y:D) (μ:M):Option (D×M):=match x with
  | .tup xs=>(zjg y).bind fun ys=>if xs≠[]∧xs.length+ys.length≤1000000 then some (.tup (xs++ys),μ) else none
  | _=>none
noncomputable instance {α:Type} {xs:List α}:Decidable (xs≠[]):=by cases xs <;> simp <;> infer_instance
theorem zn0:R2A K (zpq K) zi0:=by
  intro W x y d e z μ' Q ok r1 r2 hf q
  unfold zi0 at hf
  split at hf
  · rename_i xs
    refine z02 hf fun ys hy hf=>?_
    split at hf
    case isFalse=>cases hf
    rename_i hl
    cases hf
    have rr:=r1
    obtain ⟨a,vs,rfl,ha,hv⟩:=z63 (ds:=xs) rfl r1
    obtain ⟨b,us,rfl,hb,hu⟩:=z63 hy r2
    refine ⟨a,b,vs,us,rfl,rfl,ha,hb,fun z=>?_,z55 (by rw [← hv.length,← hu.length];omega),fun z=>?_,fun _ p hp=>q _ (W.lay p (.tup (vs++us))) rfl (z4v ok hp) (z0g hp) (zeg ok hp (hv.append hu))⟩
    · have:=hv.length
      rw [z] at this
      exact hl.1 (List.length_eq_zero_iff.mp this)
    · have h0:=hu.length
      rw [z] at h0
      have h1:=List.length_eq_zero_iff.mp h0
      subst h1
      refine q _ W rfl ok .refl ?_
      rw [List.append_nil]
      exact rr
  · cases hf
noncomputable def z35 (x y:D) (μ:M):Option (D×M):=match x with
  | .int i=>match y with
    | .int j=>some (.int (i+j),μ)
    | _=>none
  | .tup _=>zi0 x y μ
  | _=>ztj x y μ
theorem z3j (ha:PE X a (tD K ea)) (hb:PE X b (tD K eb)) (hK:X.K=K:=by rfl):PE X (.BinOp a .Add b pos) (tD K (v2 z35 ea eb)):=by
  subst hK
  refine zma (op_add.or (op_cat.or znm)) ((zbi (h:=fun i j=>.int (i+j)) fun _ _ _=>.int _).or (ra_cat.or zn0 (h:=fun x y μ=>match x with | .tup _=>zi0 x y μ | _=>ztj x y μ) fun x y μ z h=>?_) fun x y μ z h=>?_) ha hb
  · split at h
    · exact .inr h
    · exact .inl h
  · unfold z35 at h
    split at h
    · split at h
      · exact .inl h
      · cases h
    · exact .inr h
    · rename_i h1 h2
      refine .inr ?_
      split
      · exact absurd rfl (h2 _)
      · exact h
noncomputable def z4x (x y:D) (μ:M):Option (D×M):=match x with
  | .int i=>match y with
    | .int j=>if CMul i j then some (.int (i*j),μ) else none
    | _=>none
  | _=>zu8 x y μ
theorem z5c (ha:PE X a (tD K ea)) (hb:PE X b (tD K eb)):PE X (.BinOp a .Mult b pos) (tD K (v2 z4x ea eb)):=by
  refine zma (op_mul.or zqg) ((zrt (C:=CMul) (h:=fun i j=>.int (i*j)) fun _ _ _=>.int _).or zpk fun x y μ z h=>?_) ha hb
  unfold z4x at h
  split at h
  · split at h
    · exact .inl h
    · cases h
  · exact .inr h
noncomputable def z9g (f g:D→D→M→Option (D×M)) (ea eb ec:EV):EV:=fun Γ μ=>(ea Γ μ).bind fun p=>(eb Γ p.2).bind fun q=>(f p.1 q.1 q.2).bind fun t=>match t.1 with
  | .bl true=>(ec Γ t.2).bind fun r=>g q.1 r.1 r.2
  | .bl false=>some (.bl false,t.2)
  | _=>none
theorem zet {r r':R2} {f g:D→D→M→Option (D×M)} (ra:R2A K r f) (rb:R2A K r' g):∀ σ H Q,tD K (z9g f g ea eb ec) σ H Q→zlc r r' (tD K ea) (tD K eb) (tD K ec) σ H Q:=fun σ H Q h=>by
  refine el4 h fun W Γ d μ' eH ok en e q=>?_;subst eH
  refine z02 e fun p1 e1 e=>?_
  refine z02 e fun p2 e2 e=>?_
  refine z02 e fun p3 e3 e=>?_
  refine ⟨W,Γ,p1.1,p1.2,rfl,ok,en,e1,fun x W1 hμ ok1 s1 r1=>⟨W1,Γ,p2.1,p2.2,rfl,ok1,en.step ok s1,by rw [hμ];exact e2,fun y W2 hμ2 ok2 s2 r2=>?_⟩⟩
  refine ra W2 x y _ _ _ _ _ ok2 (r1.step ok1 s2) r2 (by rw [hμ2];exact e3) fun v W3 hμ3 ok3 s3 r3=>?_
  split at e
  · rename_i hp;rw [hp] at r3;cases r3
    refine z02 e fun p4 e4 e=>?_
    refine ⟨true,rfl,ztc ⟨W3,Γ,p4.1,p4.2,rfl,ok3,((en.step ok s1).step ok1 s2).step ok2 s3,by rw [hμ3];exact e4,fun z W4 hμ4 ok4 s4 r4=>?_⟩⟩
    exact rb W4 y z _ _ _ _ _ ok4 ((r2.step ok2 s3).step ok3 s4) r4 (by rw [hμ4];exact e) fun v5 W5 hμ5 ok5 s5 r5=>q v5 W5 hμ5 ok5 (s1.trans (s2.trans (s3.trans (s4.trans s5)))) r5
  · rename_i hp;rw [hp] at r3;cases r3;cases e
    exact ⟨false,rfl,ztd (q _ W3 hμ3 ok3 (s1.trans (s2.trans s3)) (.bl _))⟩
  · cases e
theorem zdm {op op':CmpOp} {r r':R2} {f g:D→D→M→Option (D×M)} (ho:OpR X (compareOp op) r) (ra:R2A K r f) (ho':OpR X (compareOp op') r') (rb:R2A K r' g) (ha:PE X a (tD K ea)) (hb:PE X b (tD K eb)) (hc:PE X c (tD K ec))
    (hm:lastMarks [op,op'] [b,c]=false:=by with_unfolding_all rfl):PT X (.Compare a [op,op'] [b,c] pos) (tDB K (vT (z9g f g ea eb ec))):=z8h (zk5 ho ho' ha hb hc hm) (zdo (zet ra rb))
theorem zpm:R2A K (rI0 fun i j=>.bl (decide (i<j))) fLt:=zbi fun _ _ _=>.bl _
theorem zpo:R2A K (rI0 fun i j=>.bl (decide (i≤j))) fLe:=zbi fun _ _ _=>.bl _
end
section
variable {X:Cx} {K:PySem.W.Frag} {ea eb:EV} {pos p:Pos}
noncomputable def z4y (ds:List D):List D:=ds.zipIdx.map fun x=>D.tup [.int (x.2:Nat),x.1]
theorem zi7 {ds:List D} {i:Nat} {d:D} (h:(z4y ds)[i]?=some d):∃ x,ds[i]?=some x∧d=.tup [.int (i:Nat),x]:=by
  unfold z4y at h
  rw [List.getElem?_map] at h
  simp only [List.getElem?_zipIdx] at h
  cases hx:ds[i]? with
  | none=>rw [hx] at h;cases h
  | some x=>rw [hx] at h;simp at h;exact ⟨x,rfl,h.symm⟩
noncomputable def zog (ea:EV):IV:=fun Γ μ=>(ea Γ μ).bind fun p=>(lsC p.2 p.1).bind fun s=>some ((z4y s.1,s.2),p.2)
theorem zcj (ml:X.mg "enumerate" = none) {a:Expr} {elts:List Expr} {k:Nat} {tpos:Pos} (ha:PE X a (tD K ea)) (hg:Gl X "enumerate" := by rfl) (hs:starEach [a] X.env=[(false,eval a X.env)]:=by rfl) (hK:X.K=K:=by rfl) :
    PI X (.Tuple elts k tpos) (.Call (.Name "enumerate" p) [a] [] pos) (tDI K (zog ea)):=zin (iEn K ml ha hg hs hK) fun σ H R h=>by
  refine el5 h fun W Γ its c μ' eH ok en e q=>?_;subst eH
  refine z02 e fun p1 e1 e=>?_
  refine bq fun bG=>?_
  obtain ⟨⟨ds,c'⟩,e2,e⟩:=bnd e
  cases e
  refine bG (⟨W,Γ,p1.1,p1.2,rfl,ok,en,e1,fun v W1 hμ ok1 s1 r1=>?_⟩)
  refine bq fun bG=>?_
  obtain ⟨c0,a,rfl,hh⟩:=zlr ok1 (by rw [hμ];exact e2) r1
  obtain ⟨vs0,h0,_⟩:=hh W1 ok1 c0 r1
  refine bG (⟨a,rfl,⟨_,h0⟩,q (Ite K a) W1 hμ ok1 s1 ⟨c0,[p1.1],[.ref a],.cons r1 .nil,fun W2 i ok2 c2 r2=>?_⟩⟩)
  cases r2 with
  | cons r2 _ =>
    obtain ⟨vs,hs,hv⟩:=hh W2 ok2 c2 r2
    refine ⟨fun hi=>⟨vs,hs,by rw [← hv.length];simpa [z4y] using hi⟩,fun d hd=>?_⟩
    refine bq fun bG=>?_
    obtain ⟨x,hx,rfl⟩:=zi7 hd
    obtain ⟨v,hv1,hv2⟩:=hv.get hx
    refine bG (⟨⟨vs,v,hs,hv1⟩,fun y H' hy=>?_⟩)
    obtain ⟨p,u,rfl,hp,rfl,hu⟩:=hy
    have:=hu vs hs
    rw [hv1] at this
    cases this
    exact ⟨W2.lay p _,rfl,rfl,z4v ok2 hp,z0g hp,zeg ok2 hp (.cons (.int _) (.cons hv2 .nil))⟩
end
section
variable {X:Cx} {K:PySem.W.Frag} {N' own:List Str} {cap:List (Str×Nat)} {scope:Scope} {tg iter elt tg2 iter2:Expr} {ifs ifs2:List Expr} {pos:Pos} {iv iv2:IV} {g g2:GV} {tc tc2:BV} {te:EV}
end
section
variable {n:Nat} {μ:M}
theorem zpu {xs:List D}:py (n+1) μ (.lst xs)=(optAll (py n μ) xs).bind fun ys=>some (.list ys):=rfl
theorem zps {xs:List D}:py (n+1) μ (.tup xs)=(optAll (py n μ) xs).bind fun ys=>some (.tuple ys):=rfl
theorem bs {α β:Type} {a:α} {f:α→Option β}:(some a).bind f=f a:=rfl
theorem z2p {α β γ:Type} {f:β→Option γ} {g:α→β} {h:α→γ}:∀ {l:List α},(∀ x∈l,f (g x)=some (h x))→optAll f (l.map g)=some (l.map h)
  | [],_=>rfl
  | x::r,e=>by
    have e1:=e x (by simp)
    have e2:=z2p (l:=r) fun y hy=>e y (by simp [hy])
    simp only [List.map_cons,optAll,e1,e2,bs]
end
section
variable {Γ:G} {μ μ1 μ2:M} {ea eb:EV} {x y d:D} {f:D→D→M→Option (D×M)} {f1:D→M→Option (D×M)} {sa sb:SV} {i:Nat}
theorem ztk (h:Γ[i]?=some (some d)):z04 i Γ μ=some (d,μ):=by unfold z04;rw [h]
end
noncomputable def zof (b:SV):Option (Out×G×M)→Option (Out×G×M)
  | some (.nx,Γ,μ)=>b Γ μ
  | x=>x
@[simp] theorem kSeq_nx {b:SV} {Γ:G} {μ:M}:zof b (some (.nx,Γ,μ))=b Γ μ:=rfl
@[simp] theorem kSeq_rt {b:SV} {d:D} {Γ:G} {μ:M}:zof b (some (.rt d,Γ,μ))=some (.rt d,Γ,μ):=rfl
@[simp] theorem kSeq_bk {b:SV} {Γ:G} {μ:M}:zof b (some (.bk,Γ,μ))=some (.bk,Γ,μ):=rfl
@[simp] theorem kSeq_ct {b:SV} {Γ:G} {μ:M}:zof b (some (.ct,Γ,μ))=some (.ct,Γ,μ):=rfl
@[simp] theorem sSeq_eq {a b:SV} {Γ:G} {μ:M}:z1p a b Γ μ=zof b (a Γ μ):=by
  unfold z1p zof
  cases h:a Γ μ with
  | none=>rfl
  | some o=>obtain ⟨o1,Γ1,μ1⟩:=o;cases o1 <;> rfl
section
variable {Γ:G} {μ μ1:M} {ea eb ec:EV} {ba bb:BV} {el:LV} {sa sb:SV} {i j:Nat} {d x y:D} {ds:List D} {b:Bool}
@[simp] theorem vVar_eq:z04 i Γ μ=match Γ[i]? with
  | some (some d)=>some (d,μ)
  | _=>none:=rfl
@[simp] theorem vC_eq:vC d Γ μ=some (d,μ):=rfl
noncomputable def kV1 (f:D→M→Option (D×M)):Option (D×M)→Option (D×M)
  | some (x,μ)=>f x μ
  | none=>none
@[simp] theorem kV1_s {f:D→M→Option (D×M)}:kV1 f (some (x,μ))=f x μ:=rfl
@[simp] theorem v1_eq {f:D→M→Option (D×M)}:v1 f ea Γ μ=kV1 f (ea Γ μ):=by
  unfold v1 kV1;cases ea Γ μ <;> rfl
noncomputable def znt (f:D→D→M→Option (D×M)) (x:D):Option (D×M)→Option (D×M)
  | some (y,μ)=>f x y μ
  | none=>none
@[simp] theorem kV2b_s {f:D→D→M→Option (D×M)}:znt f x (some (y,μ))=f x y μ:=rfl
noncomputable def kV2 (f:D→D→M→Option (D×M)) (eb:EV) (Γ:G):Option (D×M)→Option (D×M)
  | some (x,μ)=>znt f x (eb Γ μ)
  | none=>none
@[simp] theorem kV2_s {f:D→D→M→Option (D×M)}:kV2 f eb Γ (some (x,μ))=znt f x (eb Γ μ):=rfl
@[simp] theorem v2_eq {f:D→D→M→Option (D×M)}:v2 f ea eb Γ μ=kV2 f eb Γ (ea Γ μ):=by
  unfold v2 kV2
  cases ea Γ μ with
  | none=>rfl
  | some p=>show (eb Γ p.2).bind _=znt f p.1 (eb Γ p.2);cases eb Γ p.2 <;> rfl
noncomputable def kT:Option (D×M)→Option (Bool×M)
  | some (.bl b,μ)=>some (b,μ)
  | _=>none
@[simp] theorem kT_s:kT (some (.bl b,μ))=some (b,μ):=rfl
@[simp] theorem vT_eq:vT ea Γ μ=kT (ea Γ μ):=by
  unfold vT kT
  cases ea Γ μ with
  | none=>rfl
  | some p=>obtain ⟨p1,p2⟩:=p;cases p1 <;> rfl
noncomputable def ztb (bb:BV) (Γ:G):Option (Bool×M)→Option (Bool×M)
  | some (c,μ)=>if c=true then bb Γ μ else some (false,μ)
  | none=>none
@[simp] theorem kAnd_s {c:Bool}:ztb bb Γ (some (c,μ))=if c=true then bb Γ μ else some (false,μ):=rfl
@[simp] theorem bAnd_eq:zm4 ba bb Γ μ=ztb bb Γ (ba Γ μ):=by unfold zm4 ztb;cases ba Γ μ <;> rfl
noncomputable def kOr (bb:BV) (Γ:G):Option (Bool×M)→Option (Bool×M)
  | some (c,μ)=>if c=true then some (true,μ) else bb Γ μ
  | none=>none
@[simp] theorem kOr_s {c:Bool}:kOr bb Γ (some (c,μ))=if c=true then some (true,μ) else bb Γ μ:=rfl
@[simp] theorem bOr_eq:bOr ba bb Γ μ=kOr bb Γ (ba Γ μ):=by unfold bOr kOr;cases ba Γ μ <;> rfl
noncomputable def zta:Option (Bool×M)→Option (Bool×M)
  | some (c,μ)=>some (!c,μ)
  | none=>none
@[simp] theorem kNot_s {c:Bool}:zta (some (c,μ))=some (!c,μ):=rfl
@[simp] theorem bNot_eq:zdg ba Γ μ=zta (ba Γ μ):=by unfold zdg zta;cases ba Γ μ <;> rfl
noncomputable def zt8 (sa sb:SV) (Γ:G):Option (Bool×M)→Option (Out×G×M)
  | some (c,μ)=>if c=true then sa Γ μ else sb Γ μ
  | none=>none
@[simp] theorem kSIf_s {c:Bool}:zt8 sa sb Γ (some (c,μ))=if c=true then sa Γ μ else sb Γ μ:=rfl
@[simp] theorem sIf_eq:sIf ba sa sb Γ μ=zt8 sa sb Γ (ba Γ μ):=by unfold sIf zt8;cases ba Γ μ <;> rfl
noncomputable def zns (eb:EV) (Γ:G):Option (D×M)→Option (D×M)
  | some (.bl c,μ)=>if c=true then eb Γ μ else some (.bl false,μ)
  | _=>none
@[simp] theorem kVAnd_s {c:Bool}:zns eb Γ (some (.bl c,μ))=if c=true then eb Γ μ else some (.bl false,μ):=rfl
@[simp] theorem vAnd_eq:zj8 ea eb Γ μ=zns eb Γ (ea Γ μ):=by
  unfold zj8 zns
  cases ea Γ μ with
  | none=>rfl
  | some p =>
    obtain ⟨p1,p2⟩:=p
    cases p1 with
    | bl c=>cases c <;> rfl
    | _=>rfl
@[simp] theorem lNil_eq:z1n Γ μ=some ([],μ):=rfl
noncomputable def zs0 (x:D):Option (List D×M)→Option (List D×M)
  | some (r,μ)=>some (x::r,μ)
  | none=>none
@[simp] theorem kLc2_s {r:List D}:zs0 x (some (r,μ))=some (x::r,μ):=rfl
noncomputable def kLc (el:LV) (Γ:G):Option (D×M)→Option (List D×M)
  | some (x,μ)=>zs0 x (el Γ μ)
  | none=>none
@[simp] theorem kLc_s:kLc el Γ (some (x,μ))=zs0 x (el Γ μ):=rfl
@[simp] theorem lCons_eq:z06 ea el Γ μ=kLc el Γ (ea Γ μ):=by
  unfold z06 kLc
  cases ea Γ μ with
  | none=>rfl
  | some p=>show (el Γ p.2).bind _=zs0 p.1 (el Γ p.2);cases el Γ p.2 <;> rfl
noncomputable def kL (f:List D→M→Option (D×M)):Option (List D×M)→Option (D×M)
  | some (r,μ)=>f r μ
  | none=>none
@[simp] theorem kL_s {f:List D→M→Option (D×M)} {r:List D}:kL f (some (r,μ))=f r μ:=rfl
@[simp] theorem vL_eq {f:List D→M→Option (D×M)}:vL f el Γ μ=kL f (el Γ μ):=by unfold vL kL;cases el Γ μ <;> rfl
@[simp] theorem sNx_eq:sNx Γ μ=some (.nx,Γ,μ):=rfl
noncomputable def kRt (Γ:G):Option (D×M)→Option (Out×G×M)
  | some (x,μ)=>some (.rt x,Γ,μ)
  | none=>none
@[simp] theorem kRt_s:kRt Γ (some (x,μ))=some (.rt x,Γ,μ):=rfl
@[simp] theorem sRet_eq:z5f ea Γ μ=kRt Γ (ea Γ μ):=by unfold z5f kRt;cases ea Γ μ <;> rfl
noncomputable def kG:Option (G×M)→Option (Out×G×M)
  | some (Γ,μ)=>some (.nx,Γ,μ)
  | none=>none
@[simp] theorem kG_s:kG (some (Γ,μ))=some (.nx,Γ,μ):=rfl
noncomputable def kAs (g:GV) (Γ:G):Option (D×M)→Option (Out×G×M)
  | some (x,μ)=>kG (g x Γ μ)
  | none=>none
@[simp] theorem kAs_s {g:GV}:kAs g Γ (some (x,μ))=kG (g x Γ μ):=rfl
@[simp] theorem sAsg_eq {g:GV}:z3k ea g Γ μ=kAs g Γ (ea Γ μ):=by
  unfold z3k kAs
  cases ea Γ μ with
  | none=>rfl
  | some p=>show (g p.1 Γ p.2).bind _=kG (g p.1 Γ p.2);cases g p.1 Γ p.2 <;> rfl
@[simp] theorem gvName_eq:z03 i d Γ μ=some (Γ.set i (some d),μ):=rfl
@[simp] theorem gvNil_eq:z6w [] Γ μ=some (Γ,μ):=rfl
@[simp] theorem gvTup_eq {n:Nat} {gs:GsV}:z5w n gs (.tup ds) Γ μ=if ds.length=n then gs ds Γ μ else none:=rfl
noncomputable def kOn (μ:M) (k:Nat):Option (D×List D)→Option (D×M)
  | some (d,l)=>some (d,μ.set k (some (.lst l)))
  | none=>none
@[simp] theorem zt9 {l:List D}:kOn μ i (some (d,l))=some (d,μ.set i (some (.lst l))):=rfl
noncomputable def zr1 (Γ:G):Option (D×M)→Option (G×M)
  | some (_,μ)=>some (Γ,μ)
  | none=>none
@[simp] theorem kSb3_s:zr1 Γ (some (x,μ))=some (Γ,μ):=rfl
noncomputable def sbF (d:D) (j:Int) (ds:List D):Option (D×List D):=(ixN ds.length j).bind fun jj=>some (.non,ds.set jj d)
theorem zgh {j:Int} {jj:Nat} (h:ixN ds.length j=some jj):sbF d j ds=some (.non,ds.set jj d):=by unfold sbF;rw [h];rfl
@[simp] theorem sbF_0:sbF d 0 (x::ds)=some (.non,d::ds):=by
  refine zgh (jj:=0) ?_
  unfold ixN;rw [if_pos (by omega),if_pos (by simp only [List.length_cons];omega)];rfl
@[simp] theorem sbF_1:sbF d 1 (x::y::ds)=some (.non,x::d::ds):=by
  refine zgh (jj:=1) ?_
  unfold ixN;rw [if_pos (by omega),if_pos (by simp only [List.length_cons];omega)];rfl
@[simp] theorem sbF_2 {z:D}:sbF d 2 (x::y::z::ds)=some (.non,x::y::d::ds):=by
  refine zgh (jj:=2) ?_
  unfold ixN;rw [if_pos (by omega),if_pos (by simp only [List.length_cons];omega)];rfl
noncomputable def zrx (d:D) (Γ:G) (o:D):Option (D×M)→Option (G×M)
  | some (.int j,μ)=>zr1 Γ (onL o μ (sbF d j))
  | _=>none
@[simp] theorem kSb2_s {j:Int}:zrx d Γ x (some (.int j,μ))=zr1 Γ (onL x μ (sbF d j)):=rfl
noncomputable def kSb (d:D) (ei:EV) (Γ:G):Option (D×M)→Option (G×M)
  | some (o,μ)=>zrx d Γ o (ei Γ μ)
  | none=>none
@[simp] theorem kSb_s {ei:EV}:kSb d ei Γ (some (x,μ))=zrx d Γ x (ei Γ μ):=rfl
@[simp] theorem gvSub_eq {eo ei:EV}:zas eo ei d Γ μ=kSb d ei Γ (eo Γ μ):=by
  unfold zas kSb
  cases eo Γ μ with
  | none=>rfl
  | some p =>
    show (ei Γ p.2).bind _=zrx d Γ p.1 (ei Γ p.2)
    cases ei Γ p.2 with
    | none=>rfl
    | some q =>
      obtain ⟨q1,q2⟩:=q
      cases q1 with
      | int j =>
        show (onL p.1 q2 _).bind _=zr1 Γ (onL p.1 q2 (sbF d j))
        have e:(fun ds=>(ixN ds.length j).bind fun jj=>some (D.non,ds.set jj d))=sbF d j:=rfl
        rw [e]
        unfold zr1;cases onL p.1 q2 (sbF d j) <;> rfl
      | _=>rfl
@[simp] theorem oNone_eq:zd2 Γ μ=some (none,μ):=rfl
noncomputable def kTr (μ:M):Option Bool→Option (Bool×M)
  | some b=>some (b,μ)
  | none=>none
@[simp] theorem kTr_s:kTr μ (some b)=some (b,μ):=rfl
noncomputable def zt7:Option (D×M)→Option (Bool×M)
  | some (x,μ)=>kTr μ (tru μ x)
  | none=>none
@[simp] theorem kTru_s:zt7 (some (x,μ))=kTr μ (tru μ x):=rfl
@[simp] theorem bTru_eq:z94 ea Γ μ=zt7 (ea Γ μ):=by
  unfold z94 zt7
  cases ea Γ μ with
  | none=>rfl
  | some p=>show (tru p.2 p.1).bind _=kTr p.2 (tru p.2 p.1);cases tru p.2 p.1 <;> rfl
noncomputable def kM2 (f:D→D→M→Option (D×M)) (eb:EV) (Γ:G) (x:D) (μ:M):Option (List D)→Option (D×M)
  | some _=>znt f x (eb Γ μ)
  | none=>none
@[simp] theorem kM2_s {f:D→D→M→Option (D×M)}:kM2 f eb Γ x μ (some ds)=znt f x (eb Γ μ):=rfl
noncomputable def kM (f:D→D→M→Option (D×M)) (eb:EV) (Γ:G):Option (D×M)→Option (D×M)
  | some (x,μ)=>kM2 f eb Γ x μ (z5v μ x)
  | none=>none
@[simp] theorem kM_s {f:D→D→M→Option (D×M)}:kM f eb Γ (some (x,μ))=kM2 f eb Γ x μ (z5v μ x):=rfl
@[simp] theorem v2l_eq {f:D→D→M→Option (D×M)}:v2l f ea eb Γ μ=kM f eb Γ (ea Γ μ):=by
  unfold v2l kM
  cases ea Γ μ with
  | none=>rfl
  | some p =>
    show (z5v p.2 p.1).bind _=kM2 f eb Γ p.1 p.2 (z5v p.2 p.1)
    cases z5v p.2 p.1 with
    | none=>rfl
    | some l=>show (eb Γ p.2).bind _=znt f p.1 (eb Γ p.2);cases eb Γ p.2 <;> rfl
noncomputable def kIR:Option (D×M)→Option ((List D×Ck)×M)
  | some (.int j,μ)=>if -1000000000≤j∧j≤1000000000 then some ((z5n 0 j.toNat,none),μ) else none
  | _=>none
@[simp] theorem kIR_s {j:Int}:kIR (some (.int j,μ))=if -1000000000≤j∧j≤1000000000 then some ((z5n 0 j.toNat,none),μ) else none:=rfl
@[simp] theorem ivR_eq:ivR ea Γ μ=kIR (ea Γ μ):=by
  unfold ivR kIR
  cases ea Γ μ with
  | none=>rfl
  | some p=>obtain ⟨p1,p2⟩:=p;cases p1 <;> rfl
@[simp] theorem bYes_eq:zcd Γ μ=some (true,μ):=rfl
noncomputable def kD (μ:M):Option D→Option (D×M)
  | some d=>some (d,μ)
  | none=>none
@[simp] theorem kD_s:kD μ (some d)=some (d,μ):=rfl
@[simp] theorem fI0_eq {g:Int→Int→D} {i j:Int}:fI0 g (.int i) (.int j) μ=some (g i j,μ):=rfl
@[simp] theorem fI_eq {C:Int→Int→Prop} [∀ i j,Decidable (C i j)] {g:Int→Int→D} {i j:Int}:fI C g (.int i) (.int j) μ=if C i j then some (g i j,μ) else none:=rfl
@[simp] theorem fNeg_eq {i:Int}:zua (.int i) μ=some (.int (-i),μ):=rfl
@[simp] theorem fNot_eq {b:Bool}:zhy (.bl b) μ=some (.bl (!b),μ):=rfl
@[simp] theorem fPlus_int {i j:Int}:z35 (.int i) (.int j) μ=some (.int (i+j),μ):=rfl
@[simp] theorem z5t {i j:Int}:z4x (.int i) (.int j) μ=if CMul i j then some (.int (i*j),μ) else none:=rfl
@[simp] theorem zkq {b:Bool}:zhz (.bl b) μ=some (.int (if b then 1 else 0),μ):=rfl
@[simp] theorem z67 {i j:Int}:eqD (.int i) (.int j) μ=some (decide (i=j)):=rfl
@[simp] theorem zo3 {a b:Str}:eqD (.str a) (.str b) μ=if PyData.strOk a&&PyData.strOk b then some (decide (a=b)) else none:=rfl
@[simp] theorem lsOf_lst:z5v μ (.lst ds)=some ds:=rfl
@[simp] theorem lsOf_scr:z5v μ (.scr ds)=some ds:=rfl
@[simp] theorem lsOf_tup:z5v μ (.tup ds)=none:=rfl
@[simp] theorem tpOf_tup:zjg (.tup ds)=some ds:=rfl
@[simp] theorem wlOf_lst:zcm μ (.lst ds)=some ds:=rfl
@[simp] theorem lsC_lst:lsC μ (.lst ds)=some (ds,none):=rfl
@[simp] theorem lsC_scr:lsC μ (.scr ds)=some (ds,none):=rfl
@[simp] theorem fLst_eq:z76 ds μ=if ds.length≤1000 then some (.lst ds,μ) else none:=rfl
@[simp] theorem fTup_eq:zko ds μ=if ds.length≤1000 then some (.tup ds,μ) else none:=rfl
@[simp] theorem fNew_eq:ziv ds μ=if ds.length≤1000 then some (.ref μ.length,μ++[some (.lst ds)]) else none:=rfl
@[simp] theorem fIx_lst {i:Int}:fIx (.lst ds) (.int i) μ=kD μ (atI ds i):=by
  show (atI ds i).bind _=_
  unfold kD;cases atI ds i <;> rfl
@[simp] theorem fIx_scr {i:Int}:fIx (.scr ds) (.int i) μ=kD μ (atI ds i):=by
  show (atI ds i).bind _=_
  unfold kD;cases atI ds i <;> rfl
@[simp] theorem fIx_tup {i:Int}:fIx (.tup ds) (.int i) μ=kD μ (atI ds i):=by
  show (atI ds i).bind _=_
  unfold kD;cases atI ds i <;> rfl
@[simp] theorem zkp:zb3 (.lst ds) μ=some (.int ds.length,μ):=rfl
@[simp] theorem fLen_tup:zb3 (.tup ds) μ=some (.int ds.length,μ):=rfl
@[simp] theorem z6i {es:List D}:z35 (.lst ds) (.lst es) μ=if ds.length+es.length≤1000000 then some (.lst (ds++es),μ) else none:=rfl
@[simp] theorem fList_lst:zfi (.lst ds) μ=some (.lst ds,μ):=rfl
@[simp] theorem fSl_lst {lo hi:Option Int}:fSl (.lst ds) lo hi μ=some (.lst (zfj ds lo hi),μ):=rfl
@[simp] theorem fSl_tup {lo hi:Option Int}:fSl (.tup ds) lo hi μ=if HT.sIx ds.length 0 lo=0∧HT.sIx ds.length ds.length hi=ds.length then none else some (.tup (zfj ds lo hi),μ):=rfl
@[simp] theorem z9h {b:Bool}:tru μ (.bl b)=some b:=rfl
@[simp] theorem tru_lst:tru μ (.lst ds)=some (!ds.isEmpty):=rfl
theorem zij {α:Type} {xs:List α} {j:Nat} {v:α} (h:xs[j]?=some v):atI xs (j:Int)=some v:=by
  have hlt:=(List.getElem?_eq_some_iff.mp h).1
  unfold atI ixN
  rw [if_pos (by omega),if_pos (by omega)]
  simpa using h
@[simp] theorem atI_0 {α:Type} {a:α} {l:List α}:atI (a::l) 0=some a:=zij (j:=0) rfl
@[simp] theorem atI_1 {α:Type} {a b:α} {l:List α}:atI (a::b::l) 1=some b:=zij (j:=1) rfl
@[simp] theorem atI_2 {α:Type} {a b c:α} {l:List α}:atI (a::b::c::l) 2=some c:=zij (j:=2) rfl
@[simp] theorem atI_3 {α:Type} {a b c d:α} {l:List α}:atI (a::b::c::d::l) 3=some d:=zij (j:=3) rfl
end
noncomputable def inI:D→Option Int
  | .int i=>some i
  | _=>none
noncomputable def inB:D→Option Bool
  | .bl b=>some b
  | _=>none
section
variable {K:PySem.W.Frag} {W:Wd}
theorem zda:∀ {ds:List D} {vs:List V} {ns:List Int},optAll inI ds=some ns→DRs K W ds vs→vs=ns.map V.int
  | _,_,_,h,.nil=>by cases h;rfl
  | d::_,_,_,h,.cons r t=>by
    refine z02 h fun u h1 h=>?_
    refine z02 h fun us h2 h=>?_
    cases h
    cases d <;> cases h1
    cases r
    rw [zda h2 t];rfl
theorem zen:∀ {ds:List D} {vs:List V} {ns:List Bool},optAll inB ds=some ns→DRs K W ds vs→vs=ns.map V.bl
  | _,_,_,h,.nil=>by cases h;rfl
  | d::_,_,_,h,.cons r t=>by
    refine z02 h fun u h1 h=>?_
    refine z02 h fun us h2 h=>?_
    cases h
    cases d <;> cases h1
    cases r
    rw [zen h2 t];rfl
theorem zil (ns:List Bool):optAll inB (ns.map D.bl)=some ns:=by
  have:=z2p (f:=inB) (g:=D.bl) (h:=id) (l:=ns) fun x _=>rfl
  simpa using this
end
section
variable {X:Cx} {K:PySem.W.Frag} {a b:Expr} {ea eb:EV} {pos p kp:Pos}
noncomputable def zlu (x:D) (μ:M):Option (D×M):=(z5v μ x).bind fun ds=>(optAll inB ds).bind fun bs=>some (.bl (bs.all id),μ)
theorem zmg (mm:X.mg "all" = none) (ha:PE X a (tD K ea)) (hc:X.calm=true:=by rfl) (hg:Gl X "all" := by rfl) (hs:starEach [a] X.env=[(false,eval a X.env)]:=by rfl) (hK:X.K=K:=by rfl):PE X (.Call (.Name "all" p) [a] [] pos) (tD K (v1 zlu ea)):=z0f (zva K mm ha hc hg hs hK) (z59 (by
  intro W x d z μ' Q ok r1 hf q
  refine z02 hf fun ds h1 hf=>?_
  refine z02 hf fun ns h2 hf=>?_
  cases hf
  obtain ⟨a,vs,rfl,hs,hv⟩:=z54 ok h1 r1
  have:=zen h2 hv
  subst this
  exact ⟨a,ns,rfl,hs,q _ W rfl ok .refl (.bl _)⟩))
end
theorem zek {α:Type} {μ:M} {x:Option α}:chk (z78 none μ) x=x:=z68 trivial
theorem zaa {g:GV} {tc:BV} {te:EV} {α:Type} {dn:α→D} {keep:α→Bool} {val:α→D} (Pv:G→Prop) {μ:M}:∀ (l:List α) (Γ:G),Pv Γ →
    (∀ x∈l,∀ Γ,Pv Γ→∃ Γ1,g (dn x) Γ μ=some (Γ1,μ)∧tc Γ1 μ=some (keep x,μ)∧(keep x=true→te Γ1 μ=some (val x,μ))∧Pv Γ1) →
    z1q none g tc te (l.map dn) Γ μ=some ((l.filter keep).map val,μ)
  | [],_,_,_=>rfl
  | x::r,Γ,h,hs=>by
    obtain ⟨Γ1,h1,h2,h3,h4⟩:=hs x (by simp) Γ h
    have ih:=zaa Pv r Γ1 h4 fun x hx=>hs x (by simp [hx])
    simp only [List.map_cons,z1q,h1,bs,h2]
    cases hk:keep x with
    | true=>simp only [if_true,h3 hk,bs,zek,ih,List.filter_cons_of_pos hk,List.map_cons]
    | false=>simp only [Bool.false_eq_true,if_false,zek,ih,List.filter_cons,hk]
section
variable {μ:M} {k:Nat} {ds:List D}
noncomputable def zry:Option (Out×G×M)→Option (D×M)
  | some (.rt d,_,μ)=>some (d,μ)
  | some (.nx,_,μ)=>some (.non,μ)
  | _=>none
@[simp] theorem kRun_rt {d:D} {Γ:G}:zry (some (.rt d,Γ,μ))=some (d,μ):=rfl
@[simp] theorem kRun_nx {Γ:G}:zry (some (.nx,Γ,μ))=some (.non,μ):=rfl
@[simp] theorem runF_eq {n m:Nat} {es:SV}:zak n m es ds μ=if ds.length=m then zry (es (ds.map some++List.replicate (n - ds.length) none) μ) else none:=by
  unfold zak
  split
  · unfold zry
    cases es (ds.map some++List.replicate (n - ds.length) none) μ with
    | none=>rfl
    | some o=>obtain ⟨o1,o2,o3⟩:=o;cases o1 <;> rfl
  · rfl
theorem zag {x y:Option O} (h:μ[k]?=some x):(μ.set k y)[k]?=some y:=by
  have hlt:=(List.getElem?_eq_some_iff.mp h).1
  simp [hlt]
theorem z6p {j:Nat} {y:Option O} (h:j≠k):(μ.set k y)[j]?=μ[j]?:=List.getElem?_set_ne (Ne.symm h)
theorem z5s (h:μ[k]?=some (some (.lst ds))):z5v μ (.ref k)=some ds:=by simp only [z5v,h]
theorem zav {i:Int} (h:μ[k]?=some (some (.lst ds))):fIx (.ref k) (.int i) μ=kD μ (atI ds i):=by
  simp only [fIx,z5s h]
  unfold kD;cases atI ds i <;> rfl
theorem z83 {g:List D→Option (D×List D)} (h:μ[k]?=some (some (.lst ds))):onL (.ref k) μ g=kOn μ k (g ds):=by
  simp only [onL,h]
  unfold kOn;cases g ds <;> rfl
theorem zhj (h:μ[k]?=some (some (.lst ds))):lsC μ (.ref k)=some (ds,some (k,ds)):=by simp only [lsC,h]
@[simp] theorem ixN_0 {n:Nat}:ixN (n+1) 0=some 0:=by unfold ixN;rw [if_pos (by omega),if_pos (by omega)];rfl
@[simp] theorem ixN_1 {n:Nat}:ixN (n+2) 1=some 1:=by unfold ixN;rw [if_pos (by omega),if_pos (by omega)];rfl
@[simp] theorem ixN_2 {n:Nat}:ixN (n+3) 2=some 2:=by unfold ixN;rw [if_pos (by omega),if_pos (by omega)];rfl
end
section
variable {P:Program} {w:World} {K:PySem.W.Frag} {mg:Str→Option Value} {base:Heap} {f:Addr} {fd:FuncData} {k:Nat}
theorem zny {ps:List Str}:FnOk P w K mg base CX0 k f fd ps (spM K fun _ _=>none) :=
  ⟨(fun vs H Q E h=>by obtain ⟨_,_,_,_,_,_,_,z,_⟩:=h;cases z),(fun A outer s H args us vs Q E _ _ _ _ h=>by obtain ⟨_,_,_,_,_,_,_,z,_⟩:=h;cases z)⟩
noncomputable def zjm (K:PySem.W.Frag):Sp:=fun vs H Q _=>∃ (a:Addr) (ns:List Int),vs=[.ref a]∧zs4 H∧SqL K H a (ns.map V.int)∧ns.length≤63∧∀ H',Q (.bl true) H'
noncomputable def W0 (H:Hp):Wd:=⟨[],[],H,fun _=>False⟩
theorem zt2 {H:Hp}:Ok K (W0 H) where
  len:=rfl
  nd:=by simp [W0]
  rs a h:=by simp [W0] at h
  at_ k o h:=by simp [W0] at h
  hd0 a h:=h.elim
theorem zef {W:Wd}:∀ ns:List Int,DRs K W (ns.map D.int) (ns.map V.int)
  | []=>.nil
  | n::r=>.cons (.int n) (zef r)
theorem zqv {g:List D→M→Option (D×M)} (F:FnOk P w K mg base CX0 k f fd ["script"] (spM K g)) (h:∀ ns:List Int,ns.length≤63→∃ μ',g [.scr (ns.map D.int)] []=some (.bl true,μ')):FnOk P w K mg base CX0 k f fd ["script"] (zjm K):=F.imp fun vs H Q E hh=>by
  obtain ⟨a,ns,rfl,hO,hS,hl,q⟩:=hh
  obtain ⟨μ',e⟩:=h ns hl
  have hF:SqF K H a (ns.map V.int):=by
    rcases hS with (hS | hS) | hS
    · rcases hO a with z | ⟨o,xs,z⟩
      · rw [z] at hS;cases hS
      · rw [z] at hS;cases hS
    · exact .inl hS
    · exact .inr hS
  exact ⟨W0 H,[.scr (ns.map D.int)],.bl true,μ',rfl,zt2,.cons (.scr hF (zef ns)) .nil,e,fun v W' _ _ _ r=>by cases r;exact q _⟩
end
theorem zjy {lo:Int} {n:Nat}:(z5n lo n).length=n:=by simp [z5n]
noncomputable def zrz:Option (List D×M)→Option (D×M)
  | some (rs,μ)=>some (.lst rs,μ)
  | none=>none
@[simp] theorem kLst_s {rs:List D} {μ:M}:zrz (some (rs,μ))=some (.lst rs,μ):=rfl
noncomputable def znv (own:List Str) (cap:List (Str×Nat)) (g:GV) (tc:BV) (te:EV) (Γ:G):Option ((List D×Ck)×M)→Option (D×M)
  | some ((its,c),μ)=>if its.length≤1000000 then zrz (z1q c g tc te its (z8k own cap Γ) μ) else none
  | none=>none
@[simp] theorem znu {own:List Str} {cap:List (Str×Nat)} {g:GV} {tc:BV} {te:EV} {Γ:G} {its:List D} {c:Ck} {μ:M}:znv own cap g tc te Γ (some ((its,c),μ))=if its.length≤1000000 then zrz (z1q c g tc te its (z8k own cap Γ) μ) else none:=rfl
@[simp] theorem zj7 {own:List Str} {cap:List (Str×Nat)} {iv:IV} {g:GV} {tc:BV} {te:EV} {Γ:G} {μ:M}:z50 own cap iv g tc te Γ μ=znv own cap g tc te Γ (iv Γ μ):=by
  unfold z50 znv
  cases iv Γ μ with
  | none=>rfl
  | some s =>
    obtain ⟨⟨its,c⟩,μ1⟩:=s
    show (if its.length≤1000000 then (z1q c g tc te its (z8k own cap Γ) μ1).bind _ else none)=if its.length≤1000000 then zrz (z1q c g tc te its (z8k own cap Γ) μ1) else none
    split
    · cases z1q c g tc te its (z8k own cap Γ) μ1 <;> rfl
    · rfl
section
variable {X:Cx} {K:PySem.W.Frag} {pos:Pos} {el:LV} {ea:EV}
end
section
variable {X:Cx} {K:PySem.W.Frag} {a b:Expr} {ea eb:EV} {p p2 pos kp kp2:Pos}
end
section
variable {K:PySem.W.Frag} {W:Wd}
end
section
variable {X:Cx} {K:PySem.W.Frag} {a b c e o i value:Expr} {ea eb eo ei:EV} {pos p apos pos' pos1:Pos} {k:Nat}
end
section
variable {X:Cx} {K:PySem.W.Frag} {N' own:List Str} {cap:List (Str×Nat)} {scope:Scope} {tg iter kx vx:Expr} {ifs:List Expr} {pos:Pos} {iv:IV} {g:GV} {tc:BV} {tk tv:EV}
end
section
variable {X:Cx} {K:PySem.W.Frag} {a b c e o i value:Expr} {ea eb eo ei:EV} {pos p apos pos' pos1:Pos} {k:Nat}
end
end L3
namespace L2
open PySem PySem.W PySem.Spec PyProof.Rows
structure FlewH (P:Program) (w:World) (outer:List Env) (L:Addr) (H H':Hp) (s:Shared) (e:Addr) (C:Value) (B:Heap) (s':Shared):Prop where
  os:s'.os=s.os
  bare:AllBare s'.gens
  un:Un (frs outer) [] H H' s.heap s'.heap
  hok:HOk P w H' s'.heap
  trk:∀ b o,s'.heap.get? b=some o→H' b≠none→B.get? b=some o
  old:∀ b o,s.heap.get? b=some o→H b=none→b∉frs outer→B.get? b=some o
  thr:∀ b o,s.heap.get? b=some o→b∉frs outer→∃ o',B.get? b=some o'
  frf:∀ b∈frs outer,H b=none
  unt:H' e=none
  new:s.heap.get? e=none
  fly:∃ a0,Heap.HeldW B outer e C a0 L s'.heap
section
variable {P:Program} {w:World} {outer:List Env} {L:Addr} {H H':Hp} {s s':Shared} {e:Addr} {C:Value} {B:Heap}
theorem Flew.noted {h2:Heap} (F:Flew P w outer H H' s e C B s') (hs:s'.heap.UpToSlots h2) (fl:∃ a0,Heap.HeldW B outer e C a0 L h2):FlewH P w outer L H H' s e C B { s' with heap:=h2 }:=by
  refine bq fun bG=>?_
  obtain ⟨a0,fl⟩:=fl
  obtain ⟨u,k,t⟩:=F.to fl.1 hs
  exact bG (⟨F.os,F.bare,u,k,t,F.old,F.thr,F.frf,F.unt,F.new,a0,fl⟩)
theorem FlewH.to {h2:Heap} (F:FlewH P w outer L H H' s e C B s') (hB:B.StaysIn h2) (hs:s'.heap.UpToSlots h2):Un (frs outer) [] H H' s.heap h2∧HOk P w H' h2∧∀ b o,h2.get? b=some o→H' b≠none→B.get? b=some o:=by
  obtain ⟨a0,fl⟩:=F.fly
  have kp:∀ b o,s.heap.get? b=some o→H b=none→b∉frs outer→h2.get? b=some o:=fun b o x n hb=>hB b o (F.old b o x n hb)
  have sl:∀ b o,s.heap.get? b=some o→H b=none→b∈frs outer→∃ sl,h2.get? b=some { o with slots:=sl }:=fun b o x n hb=>by
    refine bq fun bG=>?_
    obtain ⟨sl,e1⟩:=F.un.slot b o x n hb (by simp)
    obtain ⟨_,o',e2,d⟩:=fl.2.2.1.mem hb
    rw [e1] at e2
    cases e2
    obtain ⟨sl',e3⟩:=hs b { o with slots:=sl } e1 d
    exact bG (⟨sl',e3⟩)
  refine ⟨⟨fun b o x n hb _=>kp b o x n hb,fun b o x n hb _=>sl b o x n hb,F.un.free,fun b o x _=>?_,F.un.tups,F.un.frzs,F.un.tbls⟩,fun a u eu=>?_,fun b o x n=>?_⟩
  · by_cases hb:b∈frs outer
    · obtain ⟨l,e1⟩:=sl b o x (F.frf b hb) hb
      exact ⟨_,e1⟩
    · obtain ⟨o',e1⟩:=F.thr b o x hb
      exact ⟨o',hB b o' e1⟩
  · refine (F.hok a u eu).stay (fun b v hb q=>hB b v (F.trk b v q ?_)) (fun _ q=>q) fun _ _ q=>q
    rcases hb with z | z
    · rw [z,eu];simp
    · rw [z];simp
  · cases eu:H' b with
    | none=>exact absurd eu n
    | some u =>
      refine bq fun bG=>?_
      obtain ⟨o1,e1⟩:=(F.hok b u eu).there
      have e2:=F.trk b o1 e1 n
      have e3:=hB b o1 e2
      rw [x] at e3
      cases e3
      exact bG (e2)
theorem FlewH.next {h2:Heap} (F:FlewH P w outer L H H' s e C B s') (hs:s'.heap.UpToSlots h2) (fl:∃ a0,Heap.HeldW B outer e C a0 L h2):FlewH P w outer L H H' s e C B { s' with heap:=h2 }:=by
  refine bq fun bG=>?_
  obtain ⟨a0,fl⟩:=fl
  obtain ⟨u,k,t⟩:=F.to fl.1 hs
  exact bG (⟨F.os,F.bare,u,k,t,F.old,F.thr,F.frf,F.unt,F.new,a0,fl⟩)
theorem FlewH.lands {h2:Heap} (F:FlewH P w outer L H H' s e C B s') (hs:s'.heap.UpToSlots h2) (fl:∃ a0,Heap.FlyingW B outer e C a0 h2):Flew P w outer H H' s e C B { s' with heap:=h2 }:=by
  refine bq fun bG=>?_
  obtain ⟨a0,fl⟩:=fl
  obtain ⟨u,k,t⟩:=F.to fl.1 hs
  exact bG (⟨F.os,F.bare,u,k,t,F.old,F.thr,F.frf,F.unt,F.new,a0,fl⟩)
end
theorem z5e {M:Model} {A:Around} {E:Value→Shared→Prop} {s:Shared} {base:Heap} {l:List Env} {e L:Addr} {cls a0:Value} {Q:Unit→Shared→Prop} (R:Heap.HeldW base l e cls a0 L s.heap)
    (h:∀ h',Heap.HeldW base l e cls a0 L h'→s.heap.UpToSlots h'→Q () { s with heap:=h' }):wpAny M A (setFlight (.ref e) (some L)) Q E s:=by
  obtain ⟨hkb,hen,hl,oe,vs,T,oT,ts,he,hcls,hd,h1,hnT,hTe,hT,hdT,h3⟩:=R
  have hsz3:3<ts.size:=(Array.getElem?_eq_some_iff.mp h3).1
  have other:∀ b,b≠T→(s.heap.update T (Obj.mapFields (·.setIfInBounds 3 ((some L).elim Value.none fun f=>rawInt f)))).get? b=s.heap.get? b :=
    fun b hb=>Heap.get?_update_other _ _ (Ne.symm hb)
  have noRecord:∀ b o,s.heap.get? b=some o→(∀ vs,o.data≠.fields vs)→b≠T:=fun b o hb hnf q=>by
    rw [q,hT] at hb;injection hb with hb;subst hb;exact hnf ts hdT
  unfold setFlight
  refine wpAny_bind (wpAny_field he hd h1 ?_)
  rw [if_pos (show (Value.ref T != Value.none)=true from by simp)]
  refine wpAny_setField hT hdT hsz3 (h _ ⟨fun b o hbo=>(other b fun q=>by rw [q,hnT] at hbo;cases hbo).trans (hkb b o hbo),hen,
    hl.of_keeps fun b o hb hnf=>⟨o,(other b (noRecord b o hb hnf)).trans hb,rfl⟩,?_⟩ fun b o hb hnf=>⟨o.slots,(other b (noRecord b o hb hnf)).trans hb⟩)
  exact ⟨oe,vs,T,_,_,(other e (Ne.symm hTe)).trans he,hcls,hd,h1,hnT,hTe,Heap.get?_update_self _ hT (Obj.isFreed_of_fields (Obj.data_mapFields hdT _)),Obj.data_mapFields hdT _,by simp [hsz3]⟩
theorem zd4 {M:Model} {A:Around} {E:Value→Shared→Prop} {s:Shared} {base h:Heap} {env:Env} {outer:List Env} {L e:Addr} {cls:Value} {args:List Value} {Q:Unit→Shared→Prop}
    (hfr:A.frames=some (env::outer)) (hf:env.frame=some L) (hkb:base.StaysIn h) (hl:h.FunFrames base (env::outer)) (hx:Heap.MadeExcOf h s.heap e cls args)
    (hQ:∀ h' a0,Heap.HeldW base (env::outer) e cls a0 L h'→s.heap.UpToSlots h'→Q () { s with heap:=h' }):wpAny M A (noteFrame (.ref e) env) Q E s:=by
  obtain ⟨t,he,htn,ht⟩:=hx.there
  have fresh:∀ b,h.get? b=none→base.get? b=none:=fun b hb=>by
    cases hq:base.get? b with
    | none=>rfl
    | some o'=>have:=hkb b o' hq;rw [hb] at this;cases this
  unfold noteFrame
  simp only [hf]
  refine wpAny_bind (wpAny_field he rfl (show (#[Value.ref t,.none,.none,.none,.bool false,.none]:Array Value)[1]?=some Value.none from rfl) ?_)
  rw [if_neg (show ¬ ((Value.none != Value.none)=true) from by decide)]
  refine wpAny_entryW (a0:=.ref t) hfr (hl.of_keeps fun b o hb _=>⟨o,hx.keeps b o hb,rfl⟩) hf he (fun b o hb=>hx.keeps b o (hkb b o hb)) (fresh e hx.new) rfl (by simp) rfl fun h' hN=>?_
  refine bq fun bG=>?_
  obtain ⟨k1,k2,k3,k4⟩:=hN
  exact bG (hQ h' _ ⟨k1,fresh e hx.new,k2,k3⟩ k4)
def Lv (X:Cx):Prop:=X.stack=X.env::X.outer∧X.env.frame=some X.env.locals
def FlX (X:Cx) (E:St→XK) (e:Value) (s':Shared):Prop:=∃ (a:Addr) (C:Value) (pins:List (Addr×Obj)) (σ:St) (H H':Hp) (s:Shared),e=.ref a∧Inv X pins σ H s∧E σ C none H' ∧
  ((H'=H∧∃ (D:Addr) (vs:List Value) (h':Heap),C=.ref D∧s'={ s with heap:=h' }∧Heap.MadeExcOf s.heap h' a C vs)∨(∃ B,Flew X.prog X.w X.stack H H' s a C B s')∨(∃ B,FlewH X.prog X.w X.stack X.env.locals H H' s a C B s'))
section
variable {X:Cx} {E:St→XK} {pins:List (Addr×Obj)} {σ:St} {H H':Hp} {s s':Shared} {a:Addr} {C:Value} {B:Heap}
theorem zfa {M:Model} {A:Around} {E':Value→Shared→Prop} {D:Addr} {vs:List Value} {h':Heap} {Q:Unit→Shared→Prop} (lv:Lv X) (hA:A.frames=X.A.frames) (I:Inv X pins σ H s) (hx:Heap.MadeExcOf s.heap h' a (.ref D) vs)
    (hQ:∀ B h2,FlewH X.prog X.w X.stack X.env.locals H H s a (.ref D) B { s with heap:=h2 }→Q () { s with heap:=h2 }):wpAny M A (noteFrame (.ref a) X.env) Q E' { s with heap:=h' }:=by
  obtain ⟨lv1,lv2⟩:=lv
  have fs:∀ b,b∈frs X.stack→H b=none:=I.stkFree
  have inn:∀ b o,s.heap.get? b=some o→b∉frs X.stack→(hideAll s.heap (frs X.stack)).get? b=some o:=fun b o e hb=>hideAll_get _ e hb
  have hin:∀ env∈X.stack,∀ a,env.frame=some a→a∈frs X.stack:=fun env he a ha=>List.mem_filterMap.mpr ⟨env,he,ha⟩
  have nfr:∀ b,H b≠none→b∉frs X.stack:=fun b n z=>n (fs b z)
  refine zd4 (base:=hideAll s.heap (frs X.stack)) (env:=X.env) (outer:=X.outer) (by rw [hA,I.ok.frames,lv1]) lv2 (fun b o q=>of_hideAll _ q) (by rw [← lv1];exact funFrames_hide I.stack hin) hx fun h2 a0 fl ups=>hQ (hideAll s.heap (frs X.stack)) h2 ?_
  have hB:=fl.1
  have hkeep:∀ b o,s.heap.get? b=some o→b∉frs X.stack→h2.get? b=some o:=fun b o e hb=>hB b o (inn b o e hb)
  have hslot:∀ b o,s.heap.get? b=some o→b∈frs X.stack→∃ sl,h2.get? b=some { o with slots:=sl }:=fun b o e hb=>by
    refine bq fun bG=>?_
    obtain ⟨_,o',e2,d⟩:=I.stack.mem hb
    rw [e] at e2
    cases e2
    obtain ⟨sl',e3⟩:=ups b o (hx.keeps b o e) d
    exact bG (⟨sl',e3⟩)
  refine ⟨rfl,I.bare,⟨fun b o x n hb _=>hkeep b o x hb,fun b o x n hb _=>hslot b o x hb,fun b o x n _=>n,fun b o x _=>?_,fun _ _ z=>z,fun _ _ _ z=>z,fun _ ps z=>⟨#[],by simpa using z⟩⟩,fun b u eu=>?_,fun b o x n=>?_,fun b o x n hb=>inn b o x hb,fun b o x hb=>⟨o,inn b o x hb⟩,fs,?_,hx.new,a0,?_⟩
  · by_cases hb:b∈frs X.stack
    · obtain ⟨l,e1⟩:=hslot b o x hb;exact ⟨_,e1⟩
    · exact ⟨o,hkeep b o x hb⟩
  · refine (I.hok b u eu).stay (fun c v hb q=>hkeep c v q (nfr c ?_)) (fun _ q=>q) fun _ _ q=>q
    rcases hb with z | z
    · rw [z,eu];simp
    · rw [z];simp
  · cases eu:H b with
    | none=>exact absurd eu n
    | some u =>
      refine bq fun bG=>?_
      obtain ⟨o1,e1⟩:=(I.hok b u eu).there
      have e2:=inn b o1 e1 (nfr b n)
      have e3:=hB b o1 e2
      rw [x] at e3
      cases e3
      exact bG (e2)
  · cases eu:H a with
    | none=>rfl
    | some u =>
      obtain ⟨o1,e1⟩:=(I.hok a u eu).there
      rw [hx.new] at e1
      cases e1
  · rw [← lv1] at fl;exact fl
theorem zbr {M:Model} {A:Around} {E':Value→Shared→Prop} {e:Value} {Q:Unit→Shared→Prop} (lv:Lv X) (hA:A.frames=X.A.frames) (h:FlX X E e s')
    (hQ:∀ a C pins σ H H' s B s2,e=.ref a→Inv X pins σ H s→E σ C none H'→FlewH X.prog X.w X.stack X.env.locals H H' s a C B s2→Q () s2):wpAny M A (noteFrame e X.env) Q E' s':=by
  obtain ⟨a,C,pins,σ,H,H',s,rfl,I,hE,h⟩:=h
  rcases h with ⟨rfl,D,vs,h',rfl,rfl,hx⟩ | ⟨B,F⟩ | ⟨B,F⟩
  · exact zfa lv hA I hx fun B h2 F=>hQ _ _ _ _ _ _ _ _ _ rfl I hE F
  · obtain ⟨a0,fl⟩:=F.fly
    have fl':Heap.FlyingW B (X.env::X.outer) a C a0 s'.heap:=by rw [← lv.1];exact fl
    refine wpAny_looks_onW (by rw [hA,I.ok.frames,lv.1]) lv.2 fl' fun h2 hh hs=>hQ _ _ _ _ _ _ _ _ _ rfl I hE (F.noted hs ⟨a0,by rw [lv.1];exact hh⟩)
  · obtain ⟨a0,fl⟩:=F.fly
    exact wpAny_noteFrame_againW lv.2 fl.2.2.2 (hQ _ _ _ _ _ _ _ _ _ rfl I hE F)
theorem znz (lv:Lv X):PassesOwn (model X.prog X.w) X.A X.env (FlX X E):=fun e s' h=>by
  refine zbr lv rfl h fun a C pins σ H H' s B s2 he I hE F=>?_
  subst he
  obtain ⟨a0,fl⟩:=F.fly
  obtain ⟨oe,vs,T,oT,ts,g1,_,g2,g3,_⟩:=id fl.2.2.2
  show wpAny _ _ (do
    if (← field (.ref a) 1)==.none then unsupported "frame.own-activation:exception-without-traceback"
    setFlight (.ref a) X.env.frame) _ _ _
  refine wpAny_bind (wpAny_field g1 g2 g3 ?_)
  rw [if_neg (show ¬ ((Value.ref T==Value.none)=true) from by simp),lv.2]
  first
    | exact wpAny_bind (wpAny_pure (z5e fl fun h2 hh hs=>⟨a,C,pins,σ,H,H',s,rfl,I,hE,.inr (.inr ⟨B,F.next hs ⟨a0,hh⟩⟩)⟩))
    | exact z5e fl fun h2 hh hs=>⟨a,C,pins,σ,H,H',s,rfl,I,hE,.inr (.inr ⟨B,F.next hs ⟨a0,hh⟩⟩)⟩
end
section
variable {P:Program} {w:World} {K:PySem.W.Frag} {mg:Str→Option Value} {base:Heap} {N:List Str} {qual:Str} {scope:Scope} {f:Addr} {cd:Value} {A:Around} {outer:List Env} {s:Shared} {H:Hp} {E:XK}
theorem zhv {e:Value} {s':Shared} (h:FlX (z5a (CXr P w) P w K mg base N qual scope f cd A outer s H E) (fun _=>E) e s'):(z5a (CXr P w) P w K mg base N qual scope f cd A outer s H E).xe e s':=by
  obtain ⟨a,C,pins,σ,H1,H',s1,rfl,I,hE,h⟩:=h
  rcases h with ⟨rfl,D,vs,h',rfl,rfl,hx⟩ | ⟨B,F⟩ | ⟨B,F⟩
  · exact zpi I hx hE
  · exact zng (E':=E) (fun _ _ _ z=>z) pins σ H1 s1 _ s' I ⟨a,C,H',B,rfl,F,hE⟩
  · obtain ⟨a0,fl⟩:=F.fly
    show wpAny (model P w) (A.deeper (envOfC qual scope s.heap.objs.size f cd)) (leaving (envOfC qual scope s.heap.objs.size f cd) (.ref a)) _ _ _
    unfold leaving
    refine wpAny_bind (wpAny_noteFrame_againW rfl fl.2.2.2 (wpAny_landsW fl fun h2 fl2 ups=>?_))
    have F2:=F.lands ups ⟨a0,fl2⟩
    have I2:=Flew.inv (X:=z5a (CXr P w) P w K mg base N qual scope f cd A outer s H E) F2 I
    have out:∀ b o,s.heap.get? b=some o→b∉frs outer→b∉frs (envOfC qual scope s.heap.objs.size f cd::outer):=fun b o e hb z=>by
      have z:b∈s.heap.objs.size::frs outer:=z
      rcases List.mem_cons.mp z with q | q
      · rw [q] at e;exact Nat.lt_irrefl _ (Heap.lt_size e)
      · exact hb q
    obtain ⟨f1,f2,⟨_,_,f3⟩,f4⟩:=id fl2
    refine ⟨a,C,H',B,rfl,⟨I2.os,F2.bare,⟨fun b o x n hb _=>I2.base.keep b o x n hb (by simp [z5a]),fun b o x n hb _=>I2.base.slot b o x n hb (by simp [z5a]),fun b o x n _=>I2.base.free b o x n (by simp [z5a]),fun b o x _=>I2.base.there b o x (by simp [z5a]),I2.base.tups,I2.base.frzs,I2.base.tbls⟩,F2.hok,F2.trk,
      fun b o x n hb=>F2.old b o (I.base.keep b o x n hb (by simp [z5a])) (I.base.free b o x n (by simp [z5a])) (out b o x hb),fun b o x hb=>?_,I.ok.frf,F2.unt,?_,a0,f1,f2,f3,f4⟩,hE⟩
    · obtain ⟨o1,e1⟩:=I.base.there b o x (by simp [z5a])
      exact F2.thr b o1 e1 (out b o x hb)
    · cases eo:s.heap.get? a with
      | none=>rfl
      | some o =>
        obtain ⟨o1,e1⟩:=I.base.there a o eo (by simp [z5a])
        rw [F2.new] at e1
        cases e1
end
noncomputable abbrev Cx.fl (X:Cx) (E:St→XK):Cx:=X.wish (FlX X E)
noncomputable abbrev zot:List Value:=[.type "ValueError",.type "Exception",.type "BaseException",.type "object"]
def z3g (K:Frag) (C:Addr):Prop:=∃ bm N nm q bs hdct sn sub ab col dd k0 k1 k2 k3 k5,
    K.lookup C=some (excClassObj nm q C N bs bm hdct sn sub ab col dd k0 k1 k2 k3 k5 "ValueError.__new__")∧tailIn K zot bm=true∧nsOkIn K N=true∧nsIn K N "__init__" = some none
theorem zdc {K:Frag} {h:Heap} {C:Addr} {G:Prop} (X:K.In h) (q:z3g K C)
    (k:∀ bm N nm q bs hdct sn sub ab col dd k0 k1 k2 k3 k5 mN,h.get? C=some (excClassObj nm q C N bs bm hdct sn sub ab col dd k0 k1 k2 k3 k5 "ValueError.__new__")→h.Ns N mN→mN "__init__" = none→OwnTail h zot bm→G):G:=by
  refine bq fun bG=>?_
  obtain ⟨bm,N,nm,q,bs,hdct,sn,sub,ab,col,dd,k0,k1,k2,k3,k5,ho,ht,hok,hni⟩:=q
  exact bG (k bm N nm q bs hdct sn sub ab col dd k0 k1 k2 k3 k5 _ (X _ _ ho) (.of_isNs (isNs_of_in X hok)) (nsMap_none_of_in X hok hni) (tail_of_in X ht))
theorem zod {h h':Heap} {N:Addr} {m:Str→Option Value} (hN:h.Ns N m) (b:∀ b o,h.get? b=some o→h'.get? b=some o):h'.Ns N m:=by
  refine bq fun bG=>?_
  obtain ⟨o,es,ep,ho,hd,hs,hf⟩:=hN
  exact bG (⟨o,es,ep,b _ _ ho,hd,hs,hf⟩)
section
variable {X:Cx} {E:St→XK} {e:Expr} {te:TE} {np cpos pos:Pos} {x:Str} {C:Addr}
theorem ze0 (he:PE (X.fl E) e te) (hg:Gl (X.fl E) x) (hm:X.mg x=some (.ref C)) (hC:z3g X.K C) (hc:X.calm=true) (hd:(x==("__debug__" : Str))=false:=by decide)
    (hs:starEach [e] X.env=[(false,eval e X.env)]:=by rfl):PS (X.fl E) (.Raise (some (.Call (.Name x np) [e] [] cpos)) none pos) (fun _ σ H=>te σ H fun _ H1=>E σ (.ref C) none H1):=by
  intro pins s σ H D I h
  have kb:X.K.In X.base:=I.ok.mod.kin
  refine zdc kb hC fun tl N nm q bs hdct sn sub ab col dd k0 k1 k2 k3 k5 mN hCo hN hni T=>?_
  have hpl:(backTo cpos (starEach [e] X.env)).any (·.1)=false:=by rw [hs];rfl
  refine wpAny_Raise_call_subT (C:=C) (nm:=nm) (q:=q) (N:=N) (bs:=bs) (bm:=tl) (hdct:=hdct) (sn:=sn) (sub:=sub) (ab:=ab) (col:=col) (dd:=dd) (k0:=k0) (k1:=k1) (k2:=k2) (k3:=k3) (k5:=k5)
    PySem.F.excBase_ValueError (mN:=mN) (T.hasType PySem.F.excBase_ValueError.hasBase) (I.ok.hd hc) hpl hni (z87 I hg hm ⟨rfl,?_⟩ hd)
  show wpAny _ _ (evalArgs (.ref C) true (backTo cpos (starEach [e] X.env)) []) _ _ _
  have hpa:PA (X.fl E) [e] (z8q te zji):=z0r he z2v (by show starEach [e] X.env=(false,eval e X.env)::starEach [] X.env;rw [hs];rfl)
  have hq:wpAny (model X.prog X.w) X.A (spliced (backTo cpos (starEach [e] X.env))) (AP (X.fl E) pins σ (fun vs H1=>vs.length=1∧E σ (.ref C) none H1)) (FlX X E) s:=hpa cpos pins s σ H (fun vs H1=>vs.length=1∧E σ (.ref C) none H1) I (by
    unfold z8q zji
    have z:te σ H (fun v H1=>E σ (.ref C) none H1):=h
    simpa using z)
  rw [hs] at hq ⊢
  refine Calls.evalArgs_plain (thn hq fun us s2 hm=>?_)
  obtain ⟨vs,H2,I2,r,hl,hE⟩:=hm
  have base:∀ b o,X.base.get? b=some o→s2.heap.get? b=some o:=I2.bk
  exact ⟨rfl,by rw [← r.length,hl];decide,base _ _ hCo,zod hN base,T.keeps base,fun h' a hx=>⟨a,.ref C,pins,σ,H2,H2,s2,rfl,I2.unwish,hE,.inl ⟨rfl,C,us,h',rfl,rfl,hx⟩⟩⟩
end
noncomputable def DfX (P:Program) (w:World) (K:PySem.W.Frag) (mg:Str→Option Value) (base:Heap) (k:Nat) (x:Str) (ps:List Str) (sp:Sp):Prop :=
  ∃ f fd,FnOk P w K mg base (CXr P w) k f fd ps sp∧Binds K fd ps []∧PySem.W.keepIn K (.ref f)=true∧mg x=some (.ref f)
section
variable {X:Cx} {E:St→XK} {k:Nat} {x m:Str} {ps:List Str} {sp:Sp} {e o:Expr} {es:List Expr} {t:TA} {ta:TE} {p pos apos:Pos} {f C:Addr} {fd:FuncData}
theorem zmw {pins:List (Addr×Obj)} {σ:St} {H:Hp} {s:Shared} {Q:VK} {us:List Value} {vs:List V} (F:FnOk X.prog X.w X.K X.mg X.base (CXr X.prog X.w) k f fd ps sp) (hr:Room k X.A) (hb:Binds X.K fd ps [])
    (I:Inv (X.fl E) pins σ H s) (r:Vals vs us) (h:sp vs H Q (E σ)):wpAny (model X.prog X.w) X.A (call (.ref f) us) (EP (X.fl E) pins σ Q) (FlX X E) s:=by
  have hl:us.length=ps.length:=by rw [← r.length];exact F.len _ _ _ _ h
  have hb':=hb s us I.kIn (by simpa using hl)
  simp only [List.append_nil] at hb'
  refine wpAny_call (codeAny_mono (F.run X.A X.stack s H ⟨us,[]⟩ us vs Q (E σ) hr I.env0 hb' r h) fun r s' hq=>?_)
  cases r with
  | error e =>
    obtain ⟨a,C,H',B,rfl,F,hE⟩:=hq
    exact ⟨a,C,pins,σ,H,H',s,rfl,I.unwish,hE,.inr (.inl ⟨B,F⟩)⟩
  | ok fl =>
    cases fl with
    | ret u=>exact I.after hq
    | next=>exact False.elim hq
    | brk=>exact False.elim hq
    | cont=>exact False.elim hq
theorem zqd (D:DfX X.prog X.w X.K X.mg X.base k x ps sp) (hr:Room k X.A) (ha:PA (X.fl E) (e::es) t) (hg:Gl X x:=by rfl) (hdb:(x==("__debug__" : Str))=false:=by decide)
    (he:starEach (e::es) X.env=(false,eval e X.env)::starEach es X.env:=by rfl) (hpl:(backTo pos (starEach es X.env)).any (·.1)=false:=by rfl) :
    PE (X.fl E) (.Call (.Name x p) (e::es) [] pos) (fun σ H Q=>t σ H fun vs H1=>sp vs H1 Q (E σ)):=by
  obtain ⟨f,fd,F,hb,hk,hm⟩:=D
  intro pins s σ H Q I h
  refine wpAny_Call_Name_kw (z87 I hg hm ?_ hdb)
  refine PySem.W.callWith_K (h₀:=X.base) I.ok.mod.kin hk (thn (ha pos pins s σ H _ I h) fun us s1 ⟨vs,H1,I1,r,q⟩=>⟨I1.kIn,?_⟩) he hpl
  exact zmw F hr hb I1 r q
end
theorem Fun.okX {P:Program} {w:World} {K:PySem.W.Frag} {mg:Str→Option Value} {base:Heap} {x qual:Str} {st:Stmt} {f:Addr} {fd:FuncData} {N ps:List Str} {k:Nat} {sp:Sp} (F:Fun K x qual st f fd) (S:FnScope N ps (z05 st)) (len:∀ vs H Q E,sp vs H Q E→vs.length=ps.length)
    (hbody:∀ (cdv:Value) (A:Around) (outer:List Env) (s:Shared) (H:Hp) (vs:List V) (Q:VK) (E:XK),Room k (A.deeper (envOfC qual (z05 st) s.heap.objs.size f cdv))→sp vs H Q E →
      ∃ t,PSs ((z5a (CXr P w) P w K mg base N qual (z05 st) f cdv A outer s H E).fl fun _=>E) (z0o st) t∧t { nx:=fun _ H'=>Q .non H',rt:=Q } (zae N vs) H):FnOk P w K mg base (CXr P w) (k+1) f fd ps sp:=by
  refine bq fun bG=>?_
  obtain ⟨oc,od,kV,doc,pm,an,cdv,ct,osl,rfl,lk,hcd⟩:=F.ex
  refine bG (zr9 lk hcd S len fun A outer s H vs Q E hr hsp=>?_)
  refine bq fun bG=>?_
  obtain ⟨t,h,q⟩:=hbody cdv A outer s H vs Q E hr hsp
  refine bG (⟨t,fun pins s σ H D I hw=>?_,q⟩)
  exact wpAny_mono (h pins s σ H D (I.wish _) hw) (fun _ _ z=>z.unwish) fun e s' z=>zhv z
noncomputable abbrev Cx.mkd (X:Cx) (e:Addr):Cx:={ X with A:=X.A.mark (some (.ref e)),calm:=false,xe:=fun _ _=>False }
theorem Inv.mkd {X:Cx} {pins:List (Addr×Obj)} {σ:St} {H:Hp} {s:Shared} (I:Inv X pins σ H s) (e:Addr):Inv (X.mkd e) pins σ H s :=
  ⟨⟨I.ok.mod,I.ok.kind,I.ok.glob,I.ok.blt,I.ok.above,I.ok.inj,I.ok.has,I.ok.cab,(fun z=>nomatch z),I.ok.frames,I.ok.stk,I.ok.exf,I.ok.bs,I.ok.bsz,I.ok.noex,I.ok.exfs,I.ok.funs,I.ok.frf⟩,I.os,I.bare,I.base,I.loc,I.cell,I.free,I.freeC,I.pin,I.hok,I.len⟩
theorem Inv.unmkd {X:Cx} {pins:List (Addr×Obj)} {σ:St} {H:Hp} {s:Shared} {e:Addr} (ok:X.Ok) (I:Inv (X.mkd e) pins σ H s):Inv X pins σ H s :=
  ⟨ok,I.os,I.bare,I.base,I.loc,I.cell,I.free,I.freeC,I.pin,I.hok,I.len⟩
theorem Inv.pn {X:Cx} {pins qs:List (Addr×Obj)} {σ:St} {H:Hp} {s:Shared} (I:Inv X (pins++qs) σ H s):Inv { X with pn:=X.pn++pins } qs σ H s :=
  ⟨⟨I.ok.mod,I.ok.kind,I.ok.glob,I.ok.blt,I.ok.above,I.ok.inj,I.ok.has,I.ok.cab,I.ok.hd,I.ok.frames,I.ok.stk,I.ok.exf,I.ok.bs,I.ok.bsz,I.ok.noex,I.ok.exfs,I.ok.funs,I.ok.frf⟩,I.os,I.bare,I.base,I.loc,I.cell,I.free,I.freeC,fun p hp=>I.pin p (by
    show p∈X.pn++(pins++qs)
    have hp:p∈(X.pn++pins)++qs:=hp
    rwa [List.append_assoc] at hp),I.hok,I.len⟩
theorem Inv.unpn {X:Cx} {pins qs:List (Addr×Obj)} {σ:St} {H:Hp} {s:Shared} (I:Inv { X with pn:=X.pn++pins } qs σ H s):Inv X (pins++qs) σ H s :=
  ⟨⟨I.ok.mod,I.ok.kind,I.ok.glob,I.ok.blt,I.ok.above,I.ok.inj,I.ok.has,I.ok.cab,I.ok.hd,I.ok.frames,I.ok.stk,I.ok.exf,I.ok.bs,I.ok.bsz,I.ok.noex,I.ok.exfs,I.ok.funs,I.ok.frf⟩,I.os,I.bare,I.base,I.loc,I.cell,I.free,I.freeC,fun p hp=>I.pin p (by
    show p∈(X.pn++pins)++qs
    have hp:p∈X.pn++(pins++qs):=hp
    rwa [← List.append_assoc] at hp),I.hok,I.len⟩
theorem Inv.fewer {X:Cx} {pins qs:List (Addr×Obj)} {σ:St} {H:Hp} {s:Shared} (I:Inv X (pins++qs) σ H s):Inv X pins σ H s :=
  ⟨I.ok,I.os,I.bare,I.base,I.loc,I.cell,I.free,I.freeC,fun p hp=>I.pin p (by
    show p∈X.pn++(pins++qs)
    have hp:p∈X.pn++pins:=hp
    simp only [List.mem_append] at hp ⊢
    rcases hp with h | h
    · exact .inl h
    · exact .inr (.inl h)),I.hok,I.len⟩
section
variable {P:Program} {w:World} {outer:List Env} {H H':Hp} {s s':Shared} {e D:Addr} {B:Heap}
theorem Flew.track (F:Flew P w outer H H' s e (.ref D) B s'):Un (frs outer) [] H (upd H' e (zdd e D)) s.heap s'.heap∧HOk P w (upd H' e (zdd e D)) s'.heap:=by
  refine bq fun bG=>?_
  obtain ⟨a0,fl⟩:=F.fly
  obtain ⟨ob,h1,h2⟩:=fl.there
  have ne:∀ b o,H' b=some o→b≠e:=fun b o q z=>by rw [z,F.unt] at q;cases q
  refine bG (⟨⟨F.un.keep,F.un.slot,fun b o x n hx=>?_,F.un.there,fun b xs q=>?_,fun b o u q=>?_,fun b ps q=>?_⟩,fun b o q=>?_⟩)
  · have:b≠e:=fun z=>by rw [z,F.new] at x;cases x
    rw [z09 this]
    exact F.un.free b o x n hx
  · have z:=F.un.tups b xs q
    rw [z09 (ne _ _ z)];exact z
  · have z:=F.un.frzs b o u q
    rw [z09 (ne _ _ z)];exact z
  · obtain ⟨m,z⟩:=F.un.tbls b ps q
    exact ⟨m,by rw [z09 (ne _ _ z)];exact z⟩
  · by_cases hb:b=e
    · subst hb
      rw [z0i] at q
      cases q
      refine ⟨⟨ob,h1,h2⟩,⟨ob,h1⟩,?_⟩
      rintro g1 g2 ⟨o,z1,z2⟩ k
      exact ⟨o,k o z1,z2⟩
    · rw [z09 hb] at q
      refine (F.hok b o q).stay (fun _ _ _ z=>z) (fun c z=>?_) fun c xs z=>?_
      · rw [z09 (ne _ _ z)];exact z
      · rw [z09 (ne _ _ z)];exact z
end
theorem zbn {M:Model} {A:Around} {E:Value→Shared→Prop} {X:Cx} {pins:List (Addr×Obj)} {σ:St} {H:Hp} {s:Shared} {i:Nat} {n:Str} {pos:Pos} {Q:Unit→Shared→Prop} (I:Inv X pins σ H s) (hN:X.N.Nodup) (hi:X.N[i]?=some n) (hx:X.env.scope.names.lookup n=some .local)
    (h:∀ s',Inv X pins (σ.set i none) H s'→Q () s'):wpAny M A (do bindName X.env n .none;unbindBehindTheSuite X.env n pos) Q E s:=by
  refine bq fun bG=>?_
  obtain ⟨m,hn,hl⟩:=id I.loc
  have hcls:(X.env.scope.kind==.class||(X.env.scope.kind==.module&&X.env.locals != X.env.globals))=false:=by rw [I.ok.kind];rfl
  have cne:=I.cne
  refine bG (wpAny_nameGoes_keeps hx hn hcls fun h' v hn' hs=>?_)
  obtain ⟨oL,_,_,hoL,_⟩:=id hn
  have tracked:HOk X.prog X.w H h':=fun b ob e=>by
    refine (I.hok b ob e).stay (fun c w' hc q=>(hs.2 c ?_).trans q) (fun _ q=>q) fun _ _ q=>q
    rintro rfl
    rcases hc with rfl | hc
    · rw [I.free] at e;cases e
    · rw [I.free] at hc;cases hc
  refine h _ ⟨I.ok,I.os,I.bare,⟨fun b o e n hb hx=>?_,fun b o e n hb hx=>?_,I.base.free,fun b o e hx=>?_,I.base.tups,I.base.frzs,I.base.tbls⟩,⟨_,hn',fun j y v' e1 e2 e3=>?_⟩,fun y c e=>?_,I.free,I.freeC,fun p hp=>?_,tracked,by simpa using I.len⟩
  · exact (hs.2 b (Nat.ne_of_lt (Nat.lt_of_lt_of_le (Heap.lt_size e) I.ok.above))).trans (I.base.keep b o e n hb hx)
  · obtain ⟨sl,e1⟩:=I.base.slot b o e n hb hx
    exact ⟨sl,(hs.2 b (Nat.ne_of_lt (Nat.lt_of_lt_of_le (Heap.lt_size e) I.ok.above))).trans e1⟩
  · obtain ⟨o',e1⟩:=I.base.there b o e hx
    exact ⟨o',(hs.2 b (Nat.ne_of_lt (Nat.lt_of_lt_of_le (Heap.lt_size e) I.ok.above))).trans e1⟩
  · by_cases hj:j=i
    · subst hj
      have:j<σ.length:=by
        have:=(List.getElem?_eq_some_iff.mp e2).1
        simpa using this
      rw [List.getElem?_set_self this] at e2
      cases e2
    · rw [List.getElem?_set_ne (Ne.symm hj)] at e2
      refine bq fun bG=>?_
      obtain ⟨u,ru,lk⟩:=hl j y v' e1 e2 e3
      refine bG (⟨u,ru,?_⟩)
      have hyn:y≠n:=fun z=>hj ((List.getElem?_inj (List.getElem?_eq_some_iff.mp e1).1 hN).mp (by rw [e1,hi,z]))
      rcases lk with ⟨k1,k2⟩ | ⟨k1,c,k2,k3⟩
      · exact .inl ⟨k1,by show (if y=n then v else m y)=some u;rw [if_neg hyn];exact k2⟩
      · refine .inr ⟨k1,c,k2,?_⟩
        refine bq fun bG=>?_
        obtain ⟨oc,ho,hd⟩:=k3
        exact bG (⟨oc,(hs.2 c (cne _ _ k2)).trans ho,hd⟩)
  · obtain ⟨w',oc,ho,hd⟩:=I.cell y c e
    exact ⟨w',oc,(hs.2 c (cne _ _ e)).trans ho,hd⟩
  · obtain ⟨p1,p2,p3,p4,p5⟩:=I.pin p hp
    exact ⟨(hs.2 _ p3).trans p1,p2,p3,p4,p5⟩
noncomputable def Ends.gone (D:Ends) (i:Nat):Ends:={ nx:=fun σ H=>D.nx (σ.set i none) H,rt:=D.rt,bk:=fun σ H=>D.bk (σ.set i none) H,ct:=fun σ H=>D.ct (σ.set i none) H }
section
variable {X:Cx} {body suite:List Stmt} {b₀:Stmt} {p hp pos:Pos} {n y:Str} {i:Nat} {C0:Addr} {tb:(St→XK)→TS} {ts:TS}
theorem zq0 (lv:Lv X) (hN:X.N.Nodup) (hi:X.N[i]?=some n) (hl:X.env.scope.names.lookup n=some .local) (hg:Gl X y) (hm:X.mg y=some (.ref C0))
    (hb:∀ pn E,PSs (Cx.fl { X with pn:=pn } E) body (tb E)) (hs:∀ e,PSs (X.mkd e) (b₀::suite) ts) (hd:(y==("__debug__" : Str))=false:=by decide) :
    PS X (.Try body [.ExceptHandler (some (.Name y p)) (some n) (b₀::suite) hp] [] [] pos)
      (fun D σ H=>tb (fun σ' C _ H'=>∃ E1,C=.ref E1∧exmOne X.K (.ref E1) (.ref C0)=some true∧∀ a,H' a=none→ts (D.gone i) (σ'.set i (some (.ref a))) (upd H' a (zdd a E1))) D σ H):=by
  intro pins s σ H D I h
  have I0:Inv { X with pn:=X.pn++pins } [] σ H s:=Inv.pn (qs:=[]) (by simpa using I)
  have lv':Lv { X with pn:=X.pn++pins }:=lv
  have key:∃ E0:St→XK,tb E0 D σ H∧∀ σ' C d H',E0 σ' C d H'→∃ E1,C=.ref E1∧exmOne X.K (.ref E1) (.ref C0)=some true∧∀ a,H' a=none→ts (D.gone i) (σ'.set i (some (.ref a))) (upd H' a (zdd a E1)):=⟨_,h,fun _ _ _ _ z=>z⟩
  refine bq fun bG=>?_
  obtain ⟨E0,h,hE0⟩:=key
  refine bG (wpAny_Try_except (wpAny_mono (hb _ _ [] s σ H D (I0.wish _) h) (fun f s1 q=>?_) fun e s1 q=>?_))
  · have ziy:∀ {σ':St} {H':Hp},Inv (Cx.fl { X with pn:=X.pn++pins } E0) [] σ' H' s1→Inv X pins σ' H' s1:=fun J=>Inv.fewer (qs:=[]) (Inv.unpn J.unwish)
    cases f with
    | next =>
      obtain ⟨σ',H',J,z⟩:=q
      exact wpAny_execs_nil ⟨σ',H',ziy J,z⟩
    | brk=>obtain ⟨σ',H',J,z⟩:=q;exact ⟨σ',H',ziy J,z⟩
    | cont=>obtain ⟨σ',H',J,z⟩:=q;exact ⟨σ',H',ziy J,z⟩
    | ret u=>obtain ⟨v,σ',H',J,r,z⟩:=q;exact ⟨v,σ',H',ziy J,r,z⟩
  · refine zbr (X:={ X with pn:=X.pn++pins }) (E:=E0) lv' rfl q fun a C qs σ1 H1 H' s0 B s2 he J hE F=>?_
    subst he
    refine bq fun bG=>?_
    obtain ⟨E1,rfl,hx,hts⟩:=hE0 _ _ _ _ hE
    obtain ⟨a0,fl⟩:=F.fly
    refine bG (wpAny_landsW fl fun h3 fl3 ups3=>?_)
    have F3:=F.lands ups3 ⟨a0,fl3⟩
    have J0:Inv X (pins++qs) σ1 H1 s0:=Inv.unpn J
    have I3:Inv X (pins++qs) σ1 H' { s2 with heap:=h3 }:=Flew.inv (X:=X) F3 J0
    have LT:∀ {M:Model} {h:Heap},(∃ o,h.get? a=some o∧o.cls=.ref E1)→Looks M h (typeOf (.ref a)) (.ref E1):=fun {M h} ⟨o,z1,z2⟩=>z2 ▸ (Looks.ld z1).andThen .now
    refine wpAny_handleBy_cons (codeAny_handlers_test ?_) (by intro q;cases q)
    refine z87 (X:=X.mkd a) (I3.mkd a) hg hm ?_ hd
    have hth:∃ o,h3.get? a=some o∧o.cls=.ref E1:=fl3.there
    refine (exm_one (I3.kIn) (LT hth) hx).at ?_
    refine codeAny_handlers_suite_as ?_
    refine lands_againW fl3 fun h4 fl4 ups4=>?_
    have F4:=F3.next ups4 ⟨a0,fl4⟩
    refine bq fun bG=>?_
    obtain ⟨un4,hok4⟩:=F4.track
    have I4:Inv X (pins++qs) σ1 (upd H' a (zdd a E1)) { s2 with heap:=h4 }:=J0.call' (ch:=[]) F4.os un4 hok4 F4.bare fun _ z=>nomatch z
    refine bG (zad (X:=X.mkd a) (v:=.ref a) (i:=i) (I4.mkd a) hN hi (.inl hl) rfl (fun s5 I5=>?_) (.inr hl))
    refine wpAny_mono (hs a (pins++qs) s5 _ _ (D.gone i) I5 (hts a F4.unt)) (fun f s6 z=>?_) fun _ _ z=>False.elim z
    have fin:∀ {σ':St} {H'':Hp} {R:Shared→Prop},Inv (X.mkd a) (pins++qs) σ' H'' s6→(∀ s7,Inv X pins (σ'.set i none) H'' s7→R s7)→wpAny (model X.prog X.w) X.A (do bindName X.env n .none;unbindBehindTheSuite X.env n hp) (fun _ s7=>R s7) X.xe s6:=fun {σ' H'' R} K6 k =>
      zbn (X:=X) (Inv.unmkd I.ok K6) hN hi hl fun s7 I7=>k s7 (Inv.fewer I7)
    cases f with
    | next=>obtain ⟨σ',H'',J6,z⟩:=z;exact fin J6 fun s7 I7=>⟨_,_,I7,z⟩
    | brk=>obtain ⟨σ',H'',J6,z⟩:=z;exact fin J6 fun s7 I7=>⟨_,_,I7,z⟩
    | cont=>obtain ⟨σ',H'',J6,z⟩:=z;exact fin J6 fun s7 I7=>⟨_,_,I7,z⟩
    | ret u=>obtain ⟨v,σ',H'',J6,r,z⟩:=z;exact fin J6 fun s7 I7=>⟨v,_,_,I7,r,z⟩
end
end L2
namespace L3
open PySem PySem.Spec L2
open PyProof.Rows (envOfC)
inductive Rs (α:Type) where
  | ok (a:α) | ex (C:Addr)
noncomputable abbrev EX:=G→M→Option (Rs D×M)
noncomputable abbrev BX:=G→M→Option (Rs Bool×M)
noncomputable abbrev LX:=G→M→Option (Rs (List D)×M)
noncomputable abbrev FX:=List D→M→Option (Rs D×M)
inductive OutX where
  | nx | bk | ct | rt (d:D) | ex (C:Addr)
noncomputable abbrev SX:=G→M→Option (OutX×G×M)
section
variable (K:PySem.W.Frag) (E:St→XK)
def zu7 (E:XK) (Q:VK) (W':Wd):Rs D→Prop
  | .ok d=>∀ v,DR K W' d v→Q v W'.H
  | .ex C=>E (.ref C) none W'.H
def ztg (E:XK) (Q:Bool→Hp→Prop) (W':Wd):Rs Bool→Prop
  | .ok b=>Q b W'.H
  | .ex C=>E (.ref C) none W'.H
def zv2 (E:XK) (Q:List V→Hp→Prop) (W':Wd):Rs (List D)→Prop
  | .ok ds=>∀ vs,DRs K W' ds vs→Q vs W'.H
  | .ex C=>E (.ref C) none W'.H
def zv1 (D:Ends) (W':Wd) (σ':St):OutX→Prop
  | .nx=>D.nx σ' W'.H
  | .bk=>D.bk σ' W'.H
  | .ct=>D.ct σ' W'.H
  | .rt d=>∀ v,DR K W' d v→D.rt v W'.H
  | .ex C=>E σ' (.ref C) none W'.H
def tX (ev:EX):TE:=fun σ H Q=>∃ (W:Wd) (Γ:G) (r:Rs D) (μ':M),W.H=H∧Ok K W∧EnvR K W Γ σ∧ev Γ W.μ=some (r,μ')∧∀ W',W'.μ=μ'→Ok K W'→Step W W'→zu7 K (E σ) Q W' r
def tXB (ev:BX):TT:=fun σ H Q=>∃ (W:Wd) (Γ:G) (r:Rs Bool) (μ':M),W.H=H∧Ok K W∧EnvR K W Γ σ∧ev Γ W.μ=some (r,μ')∧∀ W',W'.μ=μ'→Ok K W'→Step W W'→ztg (E σ) Q W' r
def tXL (ev:LX):TA:=fun σ H Q=>∃ (W:Wd) (Γ:G) (r:Rs (List D)) (μ':M),W.H=H∧Ok K W∧EnvR K W Γ σ∧ev Γ W.μ=some (r,μ')∧∀ W',W'.μ=μ'→Ok K W'→Step W W'→zv2 K (E σ) Q W' r
def tXS (es:SX):TS:=fun D σ H=>∃ (W:Wd) (Γ:G) (out:OutX) (Γ':G) (μ':M),W.H=H∧Ok K W∧EnvR K W Γ σ∧es Γ W.μ=some (out,Γ',μ')∧∀ W' σ',W'.μ=μ'→Ok K W'→Step W W'→EnvR K W' Γ' σ'→zv1 K E D W' σ' out
end
noncomputable def up (ev:EV):EX:=fun Γ μ=>(ev Γ μ).bind fun p=>some (.ok p.1,p.2)
noncomputable def upB (ev:BV):BX:=fun Γ μ=>(ev Γ μ).bind fun p=>some (.ok p.1,p.2)
noncomputable def upL (ev:LV):LX:=fun Γ μ=>(ev Γ μ).bind fun p=>some (.ok p.1,p.2)
noncomputable def upO:Out→OutX
  | .nx=>.nx
  | .bk=>.bk
  | .ct=>.ct
  | .rt d=>.rt d
noncomputable def upS (es:SV):SX:=fun Γ μ=>(es Γ μ).bind fun o=>some (upO o.1,o.2)
theorem zrp {X:Cx} {es:List Expr} {t:TA} (h:PA X.nox es t):PA X es t:=fun pos pins s σ H Q I hw =>
  wpAny_mono (h pos pins s σ H Q (I.wish _) hw) (fun _ _ ⟨v,H',I',r,q⟩=>⟨v,H',I'.unwish,r,q⟩) fun _ _ z=>False.elim z
theorem zro {X:Cx} {tg:Expr} {t:TG} (h:PG X.nox tg t):PG X tg t:=fun pins s σ H v u Q I r hw =>
  wpAny_mono (h pins s σ H v u Q (I.wish _) r hw) (fun _ _ ⟨σ',H',I',q⟩=>⟨σ',H',I'.unwish,q⟩) fun _ _ z=>False.elim z
section
variable {X:Cx} {E:St→XK} {K:PySem.W.Frag} {e:Expr} {es:List Expr} {st:Stmt} {pos p:Pos} {ev:EV} {bv:BV} {lv:LV} {sv:SV}
theorem zmk:∀ σ H Q,tXB K E (upB bv) σ H Q→tDB K bv σ H Q:=fun σ H Q h=>by
  refine el4 h fun W Γ r μ' eH ok en e q=>?_;subst eH
  refine z02 e fun p e1 e=>?_
  cases e
  exact ⟨W,Γ,p.1,p.2,rfl,ok,en,e1,fun W' h1 h2 h3=>q W' h1 h2 h3⟩
theorem zmj:∀ σ H Q,tXL K E (upL lv) σ H Q→tDL K lv σ H Q:=fun σ H Q h=>by
  refine el4 h fun W Γ r μ' eH ok en e q=>?_;subst eH
  refine z02 e fun p e1 e=>?_
  cases e
  exact ⟨W,Γ,p.1,p.2,rfl,ok,en,e1,fun v W' h1 h2 h3 h4=>q W' h1 h2 h3 v h4⟩
theorem zg5:∀ D σ H,tXS K E (upS sv) D σ H→tDS K sv D σ H:=fun D σ H h=>by
  refine el5 h fun W Γ o Γ' μ' eH ok en e q=>?_;subst eH
  refine bq fun bG=>?_
  obtain ⟨⟨o1,Γ1,μ1⟩,e1,e⟩:=bnd e
  cases e
  refine bG (⟨W,Γ,o1,_,_,rfl,ok,en,e1,fun W' σ' h1 h2 h3 h4=>?_⟩)
  have:=q W' σ' h1 h2 h3 h4
  cases o1 <;> exact this
theorem zep (h:PT X.nox e (tDB K bv)):PT X e (tXB K E (upB bv)):=z8h h.nox zmk
theorem zj0 (h:PA X.nox es (tDL K lv)):PA X es (tXL K E (upL lv)):=zir (zrp h) zmj
noncomputable def spX (K:PySem.W.Frag) (f:FX):Sp:=fun vs H Q E=>∃ (W:Wd) (ds:List D) (r:Rs D) (μ':M),W.H=H∧Ok K W∧DRs K W ds vs∧f ds W.μ=some (r,μ')∧∀ W',W'.μ=μ'→Ok K W'→Step W W'→zu7 K E Q W' r
noncomputable def vLX (f:FX) (el:LX):EX:=fun Γ μ=>(el Γ μ).bind fun p=>match p.1 with
  | .ok ds=>f ds p.2
  | .ex C=>some (.ex C,p.2)
theorem zmp {f:FX} {el:LX} {r:List V→Hp→VK→XK→Prop} (ra:∀ vs H Q E,spX K f vs H Q E→r vs H Q E):∀ σ H Q,tX K E (vLX f el) σ H Q→tXL K E el σ H fun vs H1=>r vs H1 Q (E σ):=fun σ H Q h=>by
  refine el4 h fun W Γ r μ' eH ok en e q=>?_;subst eH
  refine bq fun bG=>?_
  obtain ⟨⟨p1,p2⟩,e1,e⟩:=bnd e
  refine bG (⟨W,Γ,p1,p2,rfl,ok,en,e1,fun W1 hμ ok1 s1=>?_⟩)
  cases p1 with
  | ex C=>cases e;exact q W1 hμ ok1 s1
  | ok ds=>exact fun vs rv=>ra _ _ _ _ ⟨W1,ds,r,μ',rfl,ok1,rv,by rw [hμ];exact e,fun W2 hμ2 ok2 s2=>q W2 hμ2 ok2 (s1.trans s2)⟩
theorem zj1 {x:Str} {ps:List Str} {f:FX} {k:Nat} {el:LX} (D:DfX X.prog X.w X.K X.mg X.base k x ps (spX K f)) (hr:Room k X.A) (ha:PA (X.fl E) (e::es) (tXL K E el)) (hg:Gl X x:=by rfl) (hdb:(x==("__debug__" : Str))=false:=by decide)
    (he:starEach (e::es) X.env=(false,eval e X.env)::starEach es X.env:=by rfl) (hpl:(backTo pos (starEach es X.env)).any (·.1)=false:=by rfl):PE (X.fl E) (.Call (.Name x p) (e::es) [] pos) (tX K E (vLX f el)) :=
  z0f (zqd D hr ha hg hdb he hpl) (zmp fun _ _ _ _ z=>z)
end
open PyProof.Rows (envOfC)
section
variable {X:Cx} {E:St→XK} {K:PySem.W.Frag} {e:Expr} {es:List Expr} {st:Stmt} {z4d:List Stmt} {pos p:Pos} {sa sb:SX} {ex:EX}
noncomputable def z6r (a b:SX):SX:=fun Γ μ=>(a Γ μ).bind fun o=>match o.1 with
  | .nx=>b o.2.1 o.2.2
  | x=>some (x,o.2)
theorem z96:PSs X [] (tXS K E (upS sNx)):=z8i z1t zg5
theorem z5x (h1:PS X st (tXS K E sa)):PSs X [st] (tXS K E sa):=zh0 h1
theorem z61 (h1:PS X st (tXS K E sa)) (h2:PSs X z4d (tXS K E sb)):PSs X (st::z4d) (tXS K E (z6r sa sb)):=z8i (zdz h1 h2) fun D σ H h=>by
  refine el5 h fun W Γ o Γ' μ' eH ok en e q=>?_;subst eH
  refine bq fun bG=>?_
  obtain ⟨⟨o1,Γ1,μ1⟩,e1,e⟩:=bnd e
  refine bG (⟨W,Γ,o1,Γ1,μ1,rfl,ok,en,e1,fun W1 σ1 hμ ok1 s1 en1=>?_⟩)
  cases o1 with
  | nx=>exact ⟨W1,Γ1,o,Γ',μ',rfl,ok1,en1,by rw [hμ];exact e,fun W2 σ2 hμ2 ok2 s2 en2=>q W2 σ2 hμ2 ok2 (s1.trans s2) en2⟩
  | bk=>cases e;exact q W1 σ1 hμ ok1 s1 en1
  | ct=>cases e;exact q W1 σ1 hμ ok1 s1 en1
  | rt d=>cases e;exact q W1 σ1 hμ ok1 s1 en1
  | ex C=>cases e;exact q W1 σ1 hμ ok1 s1 en1
noncomputable def zbh (ea:EX):SX:=fun Γ μ=>(ea Γ μ).bind fun p=>match p.1 with
  | .ok _=>some (.nx,Γ,p.2)
  | .ex C=>some (.ex C,Γ,p.2)
theorem zcf (he:PE X e (tX K E ex)) (hs:swapsWith e none pos.line X.env=pure false:=by rfl):PS X (.Expr e pos) (tXS K E (zbh ex)):=z3o (zh1 he hs) fun D σ H h=>by
  refine el5 h fun W Γ o Γ' μ' eH ok en e q=>?_;subst eH
  refine bq fun bG=>?_
  obtain ⟨⟨p1,p2⟩,e1,e⟩:=bnd e
  refine bG (⟨W,Γ,p1,p2,rfl,ok,en,e1,fun W1 hμ ok1 s1=>?_⟩)
  cases p1 with
  | ex C=>cases e;exact q W1 σ hμ ok1 s1 (en.step ok s1)
  | ok d=>cases e;exact fun v rv=>q W1 σ hμ ok1 s1 (en.step ok s1)
noncomputable def zle (t:BX) (a b:SX):SX:=fun Γ μ=>(t Γ μ).bind fun p=>match p.1 with
  | .ok c=>if c=true then a Γ p.2 else b Γ p.2
  | .ex C=>some (.ex C,Γ,p.2)
theorem zeq {c:Expr} {a b:List Stmt} {bc:BX} (hc:PT X c (tXB K E bc)) (ha:PSs X a (tXS K E sa)) (hb:PSs X b (tXS K E sb)):PS X (.If c a b pos) (tXS K E (zle bc sa sb)):=z3o (zq2 hc ha hb) fun D σ H h=>by
  refine el5 h fun W Γ o Γ' μ' eH ok en e q=>?_;subst eH
  refine bq fun bG=>?_
  obtain ⟨⟨p1,p2⟩,e1,e⟩:=bnd e
  refine bG (⟨W,Γ,p1,p2,rfl,ok,en,e1,fun W1 hμ ok1 s1=>?_⟩)
  cases p1 with
  | ex C=>cases e;exact q W1 σ hμ ok1 s1 (en.step ok s1)
  | ok k =>
    cases k with
    | true =>
      simp only [ztg,if_true]
      exact ⟨W1,Γ,o,Γ',μ',rfl,ok1,en.step ok s1,by rw [hμ];exact e,fun W2 σ2 hμ2 ok2 s2 en2=>q W2 σ2 hμ2 ok2 (s1.trans s2) en2⟩
    | false =>
      simp only [ztg,Bool.false_eq_true,if_false]
      exact ⟨W1,Γ,o,Γ',μ',rfl,ok1,en.step ok s1,by rw [hμ];exact e,fun W2 σ2 hμ2 ok2 s2 en2=>q W2 σ2 hμ2 ok2 (s1.trans s2) en2⟩
noncomputable def zmt (ea:EX) (g:GV):SX:=fun Γ μ=>(ea Γ μ).bind fun p=>match p.1 with
  | .ok d=>(g d Γ p.2).bind fun q=>some (.nx,q.1,q.2)
  | .ex C=>some (.ex C,Γ,p.2)
theorem zoh {i:Nat} {x:Str} {pos':Pos} (hN:X.N.Nodup) (hi:X.N[i]?=some x) (hx:Loc X.env.scope x) (he:PE X e (tX K E ex)) (hs:swapsWith e (some (.Name x pos')) pos.line X.env=pure false:=by rfl) (hf:X.fn x=true∨X.env.scope.names.lookup x=some .local:=by first | exact .inl rfl | exact .inr rfl | assumption) :
    PS X (.Assign [.Name x pos'] e pos) (tXS K E (zmt ex (z03 i))):=z3o (zli hN hi hx he hs hf) fun D σ H h=>by
  refine el5 h fun W Γ o Γ' μ' eH ok en e q=>?_;subst eH
  refine bq fun bG=>?_
  obtain ⟨⟨p1,p2⟩,e1,e⟩:=bnd e
  refine bG (⟨W,Γ,p1,p2,rfl,ok,en,e1,fun W1 hμ ok1 s1=>?_⟩)
  cases p1 with
  | ex C=>cases e;exact q W1 σ hμ ok1 s1 (en.step ok s1)
  | ok d=>cases e;exact fun v rv=>q W1 _ hμ ok1 s1 ((en.step ok s1).set rv i)
noncomputable def zl2 (c:BX) (body:SX):Nat→SX
  | 0,_,_=>none
  | n+1,Γ,μ=>(c Γ μ).bind fun p=>match p.1 with
    | .ok k=>if k=true then (body Γ p.2).bind fun o=>match o.1 with
        | .nx=>zl2 c body n o.2.1 o.2.2
        | .ct=>zl2 c body n o.2.1 o.2.2
        | .bk=>some (.nx,o.2)
        | .rt d=>some (.rt d,o.2)
        | .ex C=>some (.ex C,o.2)
      else some (.nx,Γ,p.2)
    | .ex C=>some (.ex C,Γ,p.2)
noncomputable def znx (c:Ck) (g:GV) (body:SX):List D→SX
  | [],Γ,μ=>some (.nx,Γ,μ)
  | d::r,Γ,μ=>(g d Γ μ).bind fun p=>(body p.1 p.2).bind fun o=>match o.1 with
    | .nx=>chk (z78 c o.2.2) (znx c g body r o.2.1 o.2.2)
    | .ct=>chk (z78 c o.2.2) (znx c g body r o.2.1 o.2.2)
    | .bk=>some (.nx,o.2)
    | .rt d=>some (.rt d,o.2)
    | .ex C=>some (.ex C,o.2)
noncomputable def zms (iv:IV) (g:GV) (body:SX):SX:=fun Γ μ=>(iv Γ μ).bind fun s=>znx s.1.2 g body s.1.1 Γ s.2
theorem zoi {tg iter:Expr} {body:List Stmt} {iv:IV} {g:GV} (hp:PassesOwn (model X.prog X.w) X.A X.env X.xe) (hc:X.calm=true) (hi:PI X tg iter (tDI K iv)) (hg:PG X tg (tDG K g)) (hb:PSs X body (tXS K E sb))
    (hs:∀ x,foldedSetIterable iter X.env x=pure x:=by intro _;rfl):PS X (.For tg iter body [] pos) (tXS K E (zms iv g sb)):=z3o (zlj hp hc hi hg hb hs) fun D σ H h=>by
  refine el5 h fun W Γ o Γ' μ' eH ok en e q=>?_;subst eH
  refine bq fun bG=>?_
  obtain ⟨⟨⟨its,c⟩,μ1⟩,e1,e⟩:=bnd e
  refine bG (⟨W,Γ,its,c,μ1,rfl,ok,en,e1,fun J W1 hμ1 ok1 s1 jr=>?_⟩)
  obtain ⟨c1,ds,vs,r1,hj⟩:=jr
  obtain ⟨P,hP⟩:∃ P:Nat→St→Hp→Prop,∀ i σ2 H2,P i σ2 H2↔(i≤its.length∧∃ W2 Γ2,W2.H=H2∧Ok K W2∧Step W1 W2∧EnvR K W2 Γ2 σ2∧z78 c W2.μ∧znx c g sb (its.drop i) Γ2 W2.μ=some (o,Γ',μ')):=⟨_,fun _ _ _=>Iff.rfl⟩
  refine ⟨fun i m σ2 H2=>m=its.length - i∧P i σ2 H2,⟨its.length,by simp,(hP _ _ _).2 ⟨Nat.zero_le _,W1,Γ,rfl,ok1,.refl,en.step ok s1,c1,by rw [hμ1];exact e⟩⟩,?_⟩
  rintro i m σ2 H2 ⟨rfl,hi⟩
  refine bq fun hG=>?_
  obtain ⟨hi,W2,Γ2,rfl,ok2,s2,en2,c2,e2⟩:=(hP _ _ _).1 hi
  obtain ⟨hstop,hgo⟩:=hj W2 i ok2 c2 (r1.step ok1 s2)
  by_cases hlt:i<its.length
  · have hd:its[i]?=some its[i]:=List.getElem?_eq_getElem hlt
    refine bq fun bG=>?_
    obtain ⟨h1,h2⟩:=hgo _ hd
    rw [List.drop_eq_getElem_cons hlt] at e2
    refine z02 e2 fun p e3 e2=>?_
    obtain ⟨⟨o4,Γ4,μ4⟩,e4,e2⟩:=bnd e2
    refine bG (hG (.inr ⟨h1,P (i+1),fun σ' H' hN=>⟨its.length - (i+1),by omega,rfl,hN⟩,fun x H' hy=>?_⟩))
    refine bq fun hF=>?_
    obtain ⟨W3,rfl,hμ3,ok3,s3,r3⟩:=h2 x H' hy
    refine hF ⟨W3,Γ2,its[i],p.1,p.2,rfl,ok3,en2.step ok2 s3,r3,by rw [hμ3];exact e3,fun W4 σ4 hμ4 ok4 s4 en4=>⟨W4,p.1,o4,Γ4,μ4,rfl,ok4,en4,by rw [hμ4];exact e4,fun W5 σ5 hμ5 ok5 s5 en5=>?_⟩⟩
    have st:=s2.trans (s3.trans (s4.trans s5))
    cases o4 with
    | nx=>refine zab e2 fun hc5 e2=>?_;exact (hP _ _ _).2 ⟨hlt,W5,Γ4,rfl,ok5,st,en5,by rw [hμ5];exact hc5,by rw [hμ5];exact e2⟩
    | ct=>refine zab e2 fun hc5 e2=>?_;exact (hP _ _ _).2 ⟨hlt,W5,Γ4,rfl,ok5,st,en5,by rw [hμ5];exact hc5,by rw [hμ5];exact e2⟩
    | bk=>cases e2;exact q W5 σ5 hμ5 ok5 (s1.trans st) en5
    | rt d=>cases e2;exact q W5 σ5 hμ5 ok5 (s1.trans st) en5
    | ex C=>cases e2;exact q W5 σ5 hμ5 ok5 (s1.trans st) en5
  · have e':i=its.length:=by omega
    subst e'
    rw [List.drop_eq_nil_of_le (Nat.le_refl _)] at e2
    cases e2
    exact hG (.inl ⟨hstop (Nat.le_refl _),q W2 σ2 rfl ok2 (s1.trans s2) en2⟩)
noncomputable def zgj (C:Addr) (ea:EV):SX:=fun Γ μ=>(ea Γ μ).bind fun p=>some (.ex C,Γ,p.2)
theorem ziz {ea:EV} {x:Str} {C:Addr} {np cpos:Pos} (he:PE (X.fl E).nox e (tD K ea)) (hm:X.mg x=some (.ref C)) (hC:z3g X.K C) (hg:Gl X x:=by rfl) (hc:X.calm=true:=by rfl) (hd:(x==("__debug__" : Str))=false:=by decide)
    (hs:starEach [e] X.env=[(false,eval e X.env)]:=by rfl):PS (X.fl E) (.Raise (some (.Call (.Name x np) [e] [] cpos)) none pos) (tXS K E (zgj C ea)):=z3o (ze0 (te:=tD K ea) (PE.nox he) hg hm hC hc hd hs) fun D σ H h=>by
  refine el5 h fun W Γ o Γ' μ' eH ok en e q=>?_;subst eH
  refine z02 e fun p1 e1 e=>?_
  cases e
  exact ⟨W,Γ,p1.1,p1.2,rfl,ok,en,e1,fun v W1 hμ ok1 s1 r1=>q W1 σ hμ ok1 s1 (en.step ok s1)⟩
noncomputable def zsk (cs:List Addr) (i:Nat) (body:SX) (suite:SV):SV:=fun Γ μ=>(body Γ μ).bind fun o=>match o.1 with
  | .nx=>some (.nx,o.2)
  | .bk=>some (.bk,o.2)
  | .ct=>some (.ct,o.2)
  | .rt d=>some (.rt d,o.2)
  | .ex C=>if C∈cs then (suite (o.2.1.set i (some (.ref o.2.2.length))) (o.2.2++[some (.exc C)])).bind fun z=>some (z.1,z.2.1.set i none,z.2.2) else none
theorem EnvR.unset {W:Wd} {Γ:G} {σ:St} (e:EnvR K W Γ σ) (i:Nat):EnvR K W (Γ.set i none) (σ.set i none) where
  len:=by simp [e.len]
  at_ j d h:=by
    by_cases hj:j=i
    · subst hj
      by_cases hl:j<Γ.length
      · rw [List.getElem?_set_self hl] at h;cases h
      · rw [List.getElem?_eq_none_iff.mpr (by simpa using hl)] at h;cases h
    · rw [List.getElem?_set_ne (Ne.symm hj)] at h ⊢
      exact e.at_ j d h
theorem zoj {body suite:List Stmt} {b₀:Stmt} {hp:Pos} {n y:Str} {i:Nat} {C0:Addr} {sx:SX} {sv:SV} {cs:List Addr} (lv:Lv X) (hN:X.N.Nodup) (hi:X.N[i]?=some n) (hl:X.env.scope.names.lookup n=some .local) (hm:X.mg y=some (.ref C0))
    (hcs:∀ C∈cs,PySem.W.exmOne X.K (.ref C) (.ref C0)=some true)
    (hb:∀ pn E,PSs (Cx.fl { X with pn:=pn } E) body (tXS K E sx)) (hs:∀ e,PSs (X.mkd e) (b₀::suite) (tDS K sv)) (hg:Gl X y:=by rfl) (hd:(y==("__debug__" : Str))=false:=by decide) :
    PS X (.Try body [.ExceptHandler (some (.Name y p)) (some n) (b₀::suite) hp] [] [] pos) (tDS K (zsk cs i sx sv)):=z3o (zq0 lv hN hi hl hg hm hb hs hd) fun D σ H h=>by
  refine el5 h fun W Γ o Γ' μ' eH ok en e q=>?_;subst eH
  refine bq fun bG=>?_
  obtain ⟨⟨o1,Γ1,μ1⟩,e1,e⟩:=bnd e
  refine bG (⟨W,Γ,o1,Γ1,μ1,rfl,ok,en,e1,fun W1 σ1 hμ ok1 s1 en1=>?_⟩)
  cases o1 with
  | nx=>cases e;exact q W1 σ1 hμ ok1 s1 en1
  | bk=>cases e;exact q W1 σ1 hμ ok1 s1 en1
  | ct=>cases e;exact q W1 σ1 hμ ok1 s1 en1
  | rt d=>cases e;exact q W1 σ1 hμ ok1 s1 en1
  | ex C =>
    have e:(if C∈cs then (sv (Γ1.set i (some (.ref μ1.length))) (μ1++[some (.exc C)])).bind fun z=>some (z.1,z.2.1.set i none,z.2.2) else none)=some (o,Γ',μ'):=e
    split at e
    · rename_i hC
      refine bq fun bG=>?_
      obtain ⟨⟨o2,Γ2,μ2⟩,e2,e⟩:=bnd e
      cases e
      refine bG (⟨C,rfl,hcs C hC,fun a ha=>?_⟩)
      have okn:=ze1 (x:=.exc C) (o:=zdd a C) ok1 ha rfl
      have sn:=z3a (K:=K) (x:=.exc C) (o:=zdd a C) ok1 ha
      refine ⟨W1.new a (zdd a C) (.exc C),Γ1.set i (some (.ref μ1.length)),o2,Γ2,μ2,rfl,okn,?_,?_,fun W2 σ2 hμ2 ok2 s2 en2=>?_⟩
      · have:=(en1.step ok1 sn).set (zeh (K:=K) (W:=W1) (p:=a) (o:=zdd a C) (x:=.exc C) ok1) i
        rw [hμ] at this
        exact this
      · show sv _ (W1.μ++_)=_
        rw [hμ];exact e2
      · have st:=(s1.trans sn).trans s2
        cases o2 with
        | nx=>exact q W2 _ hμ2 ok2 st (en2.unset i)
        | bk=>exact q W2 _ hμ2 ok2 st (en2.unset i)
        | ct=>exact q W2 _ hμ2 ok2 st (en2.unset i)
        | rt d=>exact q W2 _ hμ2 ok2 st (en2.unset i)
    · cases e
end
noncomputable def zjx (n m:Nat) (es:SX):FX:=fun ds μ=>if ds.length=m then (es (ds.map some++List.replicate (n - ds.length) none) μ).bind fun o=>match o.1 with
    | .rt d=>some (.ok d,o.2.2)
    | .nx=>some (.ok .non,o.2.2)
    | .ex C=>some (.ex C,o.2.2)
    | _=>none
  else none
theorem zs1 {P:Program} {w:World} {K:PySem.W.Frag} {mg:Str→Option Value} {base:Heap} {x qual:Str} {st:Stmt} {f:Addr} {fd:FuncData} {N ps:List Str} {k:Nat} {es:SX} (F:Fun K x qual st f fd) (S:FnScope N ps (z05 st))
    (hb:∀ (cdv:Value) (A:Around) (outer:List Env) (s:Shared) (H:Hp) (E:XK),Room k (A.deeper (envOfC qual (z05 st) s.heap.objs.size f cdv))→PSs ((z5a (CXr P w) P w K mg base N qual (z05 st) f cdv A outer s H E).fl fun _=>E) (z0o st) (tXS K (fun _=>E) es)) :
    FnOk P w K mg base (CXr P w) (k+1) f fd ps (spX K (zjx N.length ps.length es)):=by
  refine F.okX S (fun vs H Q E h=>?_) (fun cdv A outer s H vs Q E hr h=>?_)
  · obtain ⟨W,ds,r,μ',_,_,rr,e,_⟩:=h
    unfold zjx at e
    split at e
    · rename_i hl;rw [← rr.length];exact hl
    · cases e
  · obtain ⟨W,ds,r,μ',rfl,ok,rr,e,q⟩:=h
    refine ⟨_,hb cdv A outer s W.H E hr,?_⟩
    unfold zjx at e
    split at e
    · obtain ⟨⟨o,Γ',μ2⟩,e1,e⟩:=bnd e
      refine ⟨W,_,o,Γ',μ2,rfl,ok,zby rr,e1,fun W' σ' hμ ok' s' en'=>?_⟩
      cases o with
      | rt z=>cases e;exact q W' hμ ok' s'
      | nx=>cases e;exact q W' hμ ok' s' _ .non
      | ex C=>cases e;exact q W' hμ ok' s'
      | bk=>cases e
      | ct=>cases e
    · cases e
end L3
namespace L2
open PySem PySem.W PySem.Spec PyProof.Rows
def tCs (cs:List V):TA:=fun _ H Q=>Q cs H
section
variable {X:Cx} {a b e:Expr} {es:List Expr} {ta:TE} {p pos:Pos} {c:V} {cs:List V}
theorem znh:PA X [] (tCs []):=z2v
theorem zkb (ha:PE X e (tC c)) (hr:PA X es (tCs cs)) (hs:starEach (e::es) X.env=(false,eval e X.env)::starEach es X.env:=by rfl):PA X (e::es) (tCs (c::cs)):=z0r ha hr hs
theorem zfk:z72 X (.builtin "isinstance") (fun xs H Q=>∃ (e D p:Addr) (cs:List V) (cvs:List Value) (k:Bool),xs=[.ref e,.ref p]∧H e=some (zdd e D)∧ExcIn X.K D∧H p=some (.tup cs)∧Vals cs cvs∧(∀ us,Vals cs us→us=cvs)∧kitAny X.K (.ref D) cvs=some k∧Q (.bl k) H):=by
  intro pins s σ H xs us Q I r h
  obtain ⟨e,D,p,cs,cvs,k,rfl,he,F,hp,rc,hu,hk,q⟩:=h
  obtain ⟨u,u2,rfl,ru,ru2⟩:=zg4 r
  cases (show u=Value.ref e from ru)
  cases (show u2=Value.ref p from ru2)
  obtain ⟨ho,_,_⟩:=(show (∃ o,s.heap.get? e=some o∧o.cls=.ref D)∧_∧_ from I.hok e _ he)
  obtain ⟨_,its,rv,⟨oc,od,odt,osl⟩,e1,e2,n,e3⟩:=(show ObjOk X.prog X.w H s.heap p (.tup cs) from I.hok p _ hp)
  have e2':oc=.type "tuple" := e2
  have e3':odt=.seq its.toArray n:=e3
  subst e2' e3'
  cases hu its rv
  exact kia_tup (ze7 F) I.kIn ho e1 hk (fun z=>nomatch z) fun tk=>⟨.bl k,H,I.tok _,rfl,q⟩
theorem zri (K:Frag) (ml:X.mg "isinstance" = none) {tb:TE} (ha:PE X a ta) (hb:PE X b tb) (hg:Gl X "isinstance" := by rfl) (hs:starEach [a,b] X.env=[(false,eval a X.env),(false,eval b X.env)]:=by rfl) (hs2:starEach [b] X.env=[(false,eval b X.env)]:=by rfl) (hK:X.K=K:=by rfl) :
    PE X (.Call (.Name "isinstance" p) [a,b] [] pos) (fun σ H Q=>ta σ H fun x H1=>tb σ H1 fun y H2=>∃ (e D p:Addr) (cs:List V) (cvs:List Value) (k:Bool),[x,y]=[.ref e,.ref p]∧H2 e=some (zdd e D)∧ExcIn K D∧H2 p=some (.tup cs)∧Vals cs cvs∧(∀ us,Vals cs us→us=cvs)∧kitAny K (.ref D) cvs=some k∧Q (.bl k) H2):=by
  subst hK
  exact z3l zfk hg ml rfl (z0r ha (z0r hb z2v hs2) (by rw [hs,hs2])) (he:=by rw [hs,hs2]) (hpl:=by rw [hs2];rfl)
end
noncomputable def clV:V→Option Value
  | .ref a=>some (.ref a)
  | .ty n=>some (.type n)
  | _=>none
theorem zo7 {v:V} {u w:Value} (h:clV v=some u) (r:RelV v w):w=u:=by
  cases v with
  | ref a=>cases h;exact r
  | ty n=>cases h;exact r
  | _=>cases h
theorem zm3 {v:V} {u:Value} (h:clV v=some u):RelV v u:=by
  cases v with
  | ref a=>cases h;rfl
  | ty n=>cases h;rfl
  | _=>cases h
noncomputable def zs3:List V→Option (List Value)
  | []=>some []
  | v::r=>(clV v).bind fun u=>(zs3 r).bind fun us=>some (u::us)
theorem zid:∀ {vs:List V} {us:List Value},zs3 vs=some us→Vals vs us∧∀ ws,Vals vs ws→ws=us
  | [],us,h=>by cases h;exact ⟨.nil,fun ws q=>by cases q;rfl⟩
  | v::r,us,h=>by
    refine bq fun bG=>?_
    obtain ⟨u,h1,h⟩:=Option.bind_eq_some_iff.mp h
    obtain ⟨us',h2,h⟩:=Option.bind_eq_some_iff.mp h
    cases h
    obtain ⟨a,b⟩:=zid h2
    refine bG (⟨.cons (zm3 h1) a,fun ws q=>?_⟩)
    cases q with
    | cons x y=>rw [zo7 h1 x,b _ y]
end L2
namespace L3
open PySem PySem.Spec L2
section
variable {X:Cx} {K:PySem.W.Frag} {a b e:Expr} {es:List Expr} {ea:EV} {p pos:Pos}
noncomputable def zbv (cs:List String) (x:D) (μ:M):Option (D×M):=(tyD μ x).bind fun t=>some (.bl (cs.any (zge t)),μ)
theorem zl0 (cs:List String) (ml:X.mg "isinstance" = none) {k:Nat} {tpos:Pos} (ha:PE X a (tD K ea)) (hb:PA X es (tCs (cs.map V.ty))) (hc:cs.all clNames.contains=true:=by decide) (hl:cs.length≤100:=by decide) (hg:Gl X "isinstance" := by rfl)
    (hs:starEach [a,.Tuple es k tpos] X.env=[(false,eval a X.env),(false,eval (.Tuple es k tpos) X.env)]:=by rfl) (hs2:starEach [.Tuple es k tpos] X.env=[(false,eval (.Tuple es k tpos) X.env)]:=by rfl) (hK:X.K=K:=by rfl) :
    PE X (.Call (.Name "isinstance" p) [a,.Tuple es k tpos] [] pos) (tD K (v1 (zbv cs) ea)):=z0f (ztm K ml ha (zh4 hb) hg hs hs2 hK) (z59 (by
  intro W x d z μ' Q ok r1 hf q
  refine z02 hf fun t ht hf=>?_
  cases hf
  refine ⟨z55 (by simp;omega),fun p hp=>?_⟩
  have ok2:=z4v (o:=.tup (cs.map V.ty)) ok hp
  have s2:=z0g (W:=W) (o:=.tup (cs.map V.ty)) hp
  refine ⟨x,t,p,cs,rfl,.inl (.inl z0i),?_,hc,q _ (W.lay p _) rfl ok2 s2 (.bl _)⟩
  exact zl4 (W:=W.lay p (.tup (cs.map V.ty))) ok2 ht (r1.step ok s2)))
noncomputable def zbu (q:Addr→Option Bool) (x:D) (μ:M):Option (D×M):=match x with
  | .ref k=>match μ[k]? with
    | some (some (.exc C))=>(q C).bind fun b=>some (.bl b,μ)
    | _=>none
  | _=>none
def IsX (K:PySem.W.Frag) (c:V) (q:Addr→Option Bool):Prop:=∃ cv,clV c=some cv∧∀ C b,q C=some b→ExcIn K C∧PySem.W.kitOne K (.ref C) cv=some b
theorem zlv {W:Wd} {k:Nat} {C:Addr} {v:V} (ok:Ok K W) (h:W.μ[k]?=some (some (.exc C))) (r:DR K W (.ref k) v):∃ a,v=.ref a∧W.H a=some (zdd a C):=by
  cases r with
  | ref ha =>
    obtain ⟨a',ho,h1,h2,h3⟩:=ok.at_ k _ h
    rw [ha] at h1
    cases h1
    exact ⟨_,rfl,by rw [h2];cases (show _=_ from h3);rfl⟩
theorem zdk {c:V} {q:Addr→Option Bool} (hq:IsX K c q) (ml:X.mg "isinstance" = none) (ha:PE X a (tD K ea)) (hb:PE X b (tC c)) (hg:Gl X "isinstance" := by rfl) (hs:starEach [a,b] X.env=[(false,eval a X.env),(false,eval b X.env)]:=by rfl) (hs2:starEach [b] X.env=[(false,eval b X.env)]:=by rfl) (hK:X.K=K:=by rfl) :
    PE X (.Call (.Name "isinstance" p) [a,b] [] pos) (tD K (v1 (zbu q) ea)):=z0f (ztl K ml ha hb hg hs hs2 hK) (z59 (by
  intro W x d z μ' Q ok r1 hf qq
  obtain ⟨cv,hcv,hq⟩:=hq
  unfold zbu at hf
  split at hf
  · split at hf
    · rename_i C hk
      refine z02 hf fun b hb hf=>?_
      cases hf
      refine bq fun bG=>?_
      obtain ⟨a',rfl,hh⟩:=zlv ok hk r1
      obtain ⟨h1,h2⟩:=hq C b hb
      exact bG (⟨a',C,c,cv,b,rfl,hh,h1,zm3 hcv,h2,qq _ W rfl ok .refl (.bl _)⟩)
    · cases hf
  · cases hf))
noncomputable def zbt (qs:List (Addr→Option Bool)) (x:D) (μ:M):Option (D×M):=match x with
  | .ref k=>match μ[k]? with
    | some (some (.exc C))=>match qs with
      | []=>none
      | _::_=>(optAll (fun q=>q C) qs).bind fun bs=>some (.bl (bs.any id),μ)
    | _=>none
  | _=>none
inductive IsXs (K:PySem.W.Frag):List V→List (Addr→Option Bool)→Prop where
  | nil:IsXs K [] []
  | cons {c:V} {q:Addr→Option Bool} {cs:List V} {qs:List (Addr→Option Bool)}:IsX K c q→IsXs K cs qs→IsXs K (c::cs) (q::qs)
theorem zhq {C:Addr}:∀ {cs:List V} {qs:List (Addr→Option Bool)} {bs:List Bool},IsXs K cs qs→optAll (fun q=>q C) qs=some bs→∃ cvs,zs3 cs=some cvs∧PySem.W.kitAny K (.ref C) cvs=some (bs.any id)
  | _,_,_,.nil,e=>by cases e;exact ⟨[],rfl,rfl⟩
  | _,_,_,.cons ⟨cv,h1,h2⟩ t,e=>by
    refine z02 e fun b e1 e=>?_
    refine z02 e fun bs e2 e=>?_
    cases e
    refine bq fun bG=>?_
    obtain ⟨cvs,h3,h4⟩:=zhq t e2
    obtain ⟨_,h5⟩:=h2 C b e1
    refine bG (⟨cv::cvs,by simp [zs3,h1,h3],?_⟩)
    simp only [PySem.W.kitAny,h5]
    cases b with
    | true=>rfl
    | false=>simpa using h4
theorem ze8:∀ {cs:List V} {qs:List (Addr→Option Bool)},IsXs K cs qs→cs.length=qs.length
  | _,_,.nil=>rfl
  | _,_,.cons _ t=>by simp [ze8 t]
theorem zmc {cs:List V} {qs:List (Addr→Option Bool)} (hq:IsXs K cs qs) (ml:X.mg "isinstance" = none) {k:Nat} {tpos:Pos} (ha:PE X a (tD K ea)) (hb:PA X es (tCs cs)) (hl:qs.length≤100:=by simp) (hg:Gl X "isinstance" := by rfl)
    (hs:starEach [a,.Tuple es k tpos] X.env=[(false,eval a X.env),(false,eval (.Tuple es k tpos) X.env)]:=by rfl) (hs2:starEach [.Tuple es k tpos] X.env=[(false,eval (.Tuple es k tpos) X.env)]:=by rfl) (hK:X.K=K:=by rfl) :
    PE X (.Call (.Name "isinstance" p) [a,.Tuple es k tpos] [] pos) (tD K (v1 (zbt qs) ea)):=by
  subst hK
  refine z0f (zri X.K ml ha (zh4 hb) hg hs hs2 rfl) (z59 ?_)
  intro W x d z μ' Q ok r1 hf qq
  refine ⟨z55 (by rw [ze8 hq];omega),fun p hp=>?_⟩
  have ok2:=z4v (o:=.tup cs) ok hp
  have s2:=z0g (W:=W) (o:=.tup cs) hp
  unfold zbt at hf
  split at hf
  · split at hf
    · rename_i C hk
      split at hf
      · cases hf
      · rename_i q0 qs0
        refine z02 hf fun bs hbs hf=>?_
        cases hf
        refine bq fun bG=>?_
        obtain ⟨cvs,h1,h2⟩:=zhq hq hbs
        obtain ⟨v1,v2⟩:=zid h1
        obtain ⟨a',rfl,hh⟩:=zlv (W:=W.lay p (.tup cs)) ok2 hk (r1.step ok s2)
        refine bG (⟨a',C,p,cs,cvs,_,rfl,hh,?_,z0i,v1,v2,h2,qq _ (W.lay p _) rfl ok2 s2 (.bl _)⟩)
        cases hq with
        | cons hq _ =>
          refine bq fun bG=>?_
          obtain ⟨cv,_,hq⟩:=hq
          refine z02 hbs fun b e1 _=>?_
          exact bG ((hq C b e1).1)
    · cases hf
  · cases hf
end
theorem zrn {X:Cx} {tg iter:Expr} {t:TI} (h:PI X.nox tg iter t):PI X tg iter t:=fun pins s σ H R I hw =>
  wpAny_mono (h pins s σ H R (I.wish _) hw) (fun v s1 z=>wpAny_mono z (fun itv s2 ⟨it,fp,tn,J,H2,e,I2,T,st2,f2,q⟩=>⟨it,fp,tn,J,H2,e,I2.unwish,T,st2,f2,q⟩) fun _ _ z=>False.elim z) fun _ _ z=>False.elim z
section
variable {X:Cx} {E:St→XK} {K:PySem.W.Frag} {e e2:Expr} {es:List Expr} {st:List Stmt} {pos p:Pos} {sv:SV}
theorem zkz (h:PSs X.nox st (tDS K sv)):PSs X st (tXS K E (upS sv)):=z8i h.nox zg5
noncomputable def zmx:List EV→G→M→Option M
  | [],_,μ=>some μ
  | ea::r,Γ,μ=>(ea Γ μ).bind fun p=>match p.1 with
    | .int i=>if i.natAbs.log2<1920 then zmx r Γ p.2 else none
    | _=>none
def tJ (K:PySem.W.Frag) (l:List EV):St→Hp→(Hp→Prop)→Prop:=fun σ H Q=>∃ (W:Wd) (Γ:G) (μ':M),W.H=H∧Ok K W∧EnvR K W Γ σ∧zmx l Γ W.μ=some μ'∧∀ W',W'.μ=μ'→Ok K W'→Step W W'→Q W'.H
theorem zm8 {t t':St→Hp→(Hp→Prop)→Prop} (h:PJ X es t) (hi:∀ σ H Q,t' σ H Q→t σ H Q):PJ X es t':=fun pins s σ H Q acc n a b I hw=>h pins s σ H Q acc n a b I (hi _ _ _ hw)
theorem pj0:PJ X [] (tJ K []):=zm8 zq5 fun σ H Q h=>by
  refine bq fun bG=>?_
  obtain ⟨W,Γ,μ',rfl,ok,en,e,q⟩:=h
  cases e
  exact bG (q W rfl ok .refl)
theorem zfm {x:Str} {j:Nat} {l:List EV} (hx:x.length≤2000) (hr:PJ X es (tJ K l)):PJ X (.Constant (.str x) j p::es) (tJ K l):=zq4 hx hr
theorem zk6 {ea:EV} {l:List EV} (he:PE X e (tD K ea)) (hr:PJ X es (tJ K l)):PJ X (.FormattedValue e (-1) none p::es) (tJ K (ea::l)):=zm8 (zq6 he hr) fun σ H Q h=>by
  refine bq fun bG=>?_
  obtain ⟨W,Γ,μ',rfl,ok,en,e,q⟩:=h
  refine z02 e fun p1 e1 e=>?_
  refine bG (⟨W,Γ,p1.1,p1.2,rfl,ok,en,e1,fun v W1 hμ ok1 s1 r1=>?_⟩)
  split at e
  · rename_i i hi
    split at e
    · rename_i hl
      rw [hi] at r1
      cases r1
      exact ⟨i,rfl,hl,W1,Γ,μ',rfl,ok1,en.step ok s1,by rw [hμ];exact e,fun W2 hμ2 ok2 s2=>q W2 hμ2 ok2 (s1.trans s2)⟩
    · cases e
  · cases e
def zsf (K:PySem.W.Frag) (l:List EV):TE:=fun σ H Q=>∃ (W:Wd) (Γ:G) (μ':M),W.H=H∧Ok K W∧EnvR K W Γ σ∧zmx l Γ W.μ=some μ'∧∀ v W',W'.μ=μ'→Ok K W'→Step W W'→Q v W'.H
theorem zfv {l:List EV} (h:PJ X (e::e2::es) (tJ K l)) (hl:(e::e2::es).length≤400:=by decide):PE X (.JoinedStr (e::e2::es) pos) (zsf K l):=z0f (znd h hl) fun σ H Q h=>by
  refine bq fun bG=>?_
  obtain ⟨W,Γ,μ',rfl,ok,en,e,q⟩:=h
  exact bG (⟨W,Γ,μ',rfl,ok,en,e,fun W' h1 h2 h3 z=>q _ W' h1 h2 h3⟩)
noncomputable def z5g (C:Addr) (l:List EV):SX:=fun Γ μ=>(zmx l Γ μ).bind fun μ'=>some (.ex C,Γ,μ')
theorem z5b {l:List EV} {x:Str} {C:Addr} {np cpos:Pos} (he:PE (X.fl E).nox e (zsf K l)) (hm:X.mg x=some (.ref C)) (hC:z3g X.K C) (hg:Gl X x:=by rfl) (hc:X.calm=true:=by rfl) (hd:(x==("__debug__" : Str))=false:=by decide)
    (hs:starEach [e] X.env=[(false,eval e X.env)]:=by rfl):PS (X.fl E) (.Raise (some (.Call (.Name x np) [e] [] cpos)) none pos) (tXS K E (z5g C l)):=z3o (ze0 (te:=zsf K l) (PE.nox he) hg hm hC hc hd hs) fun D σ H h=>by
  refine el5 h fun W Γ o Γ' μ' eH ok en e q=>?_;subst eH
  refine z02 e fun μ1 e1 e=>?_
  cases e
  exact ⟨W,Γ,_,rfl,ok,en,e1,fun v W1 hμ ok1 s1=>q W1 σ hμ ok1 s1 (en.step ok s1)⟩
end
end L3
namespace L2
open PySem PySem.W PySem.Spec PySem.Calls PyProof.Rows PySem.SeqAt
noncomputable def zo1:V→V→Option Bool
  | .int a,.int b=>some (a==b)
  | .bl a,.bl b=>some (a==b)
  | _,_=>none
noncomputable def zks:Value→Value→Bool
  | .int a _,.int b _=>a==b
  | .bool a,.bool b=>a==b
  | _,_=>false
theorem zrc {y x:V} {u k:Value} {b:Bool} (h:zo1 y x=some b) (r:RelV y u) (rk:RelV x k):zks u k=b∧∀ A s,EqAt A s u k b:=by
  unfold zo1 at h
  split at h
  · cases h
    refine bq fun bG=>?_
    obtain ⟨t,rfl⟩:=r
    obtain ⟨t',rfl⟩:=rk
    exact bG (⟨rfl,fun A s=>(MeetsSeq.EqGives.int _ _ _ _).at _ _⟩)
  · cases h
    cases r
    cases rk
    exact ⟨rfl,fun A s=>EqAt.bool_bool _ _⟩
  · cases h
theorem zde {x:V} {k:Value} (rk:RelV x k):∀ {xs:List V} {us:List Value} {bs:List Bool},Vals xs us→L3.optAll (fun y=>zo1 y x) xs=some bs→us.map (fun u=>zks u k)=bs∧∀ u∈us,∀ A s,EqAt A s u k (zks u k)
  | _,_,_,.nil,e=>by cases e;exact ⟨rfl,fun _ z=>nomatch z⟩
  | _,_,_,.cons r t,e=>by
    refine bq fun bG=>?_
    obtain ⟨b,e1,e⟩:=Option.bind_eq_some_iff.mp e
    obtain ⟨bs,e2,e⟩:=Option.bind_eq_some_iff.mp e
    cases e
    obtain ⟨h1,h2⟩:=zrc e1 r rk
    obtain ⟨h3,h4⟩:=zde rk t e2
    refine bG (⟨by rw [List.map_cons,h1,h3],fun u hu A s=>?_⟩)
    rcases List.mem_cons.mp hu with z | z
    · subst z;rw [h1];exact h2 A s
    · exact h4 u z A s
section
variable {X:Cx} {a o:Expr} {ta to:TE} {p pos:Pos}
def zgt:V→List V→Hp→VK→Prop:=fun x vs H Q=>∃ (l:Addr) (xs:List V) (k:V) (bs:List Bool),x=.ref l∧vs=[k]∧H l=some (.lst xs)∧L3.optAll (fun y=>zo1 y k) xs=some bs∧Q (.int (bs.countP id:Nat)) H
theorem zhc:MtM X "list.count" zgt:=by
  intro pins s σ H x vs v us Q I rx rv h
  refine bq fun bG=>?_
  obtain ⟨l,xs,k,bs,rfl,rfl,hH,hb,q⟩:=h
  cases rx
  obtain ⟨u,rfl,ru⟩:=rv.one
  obtain ⟨z,its,n,r,hl,e⟩:=I.lstM hH
  obtain ⟨h1,h2⟩:=zde ru r hb
  refine bG (call_meets F.slot_list_count ⟨_,e,rfl⟩ F.entry_list_count (F.args_list_count_2 _ _) (list_countAt l its.toArray n none #[] u (fun y=>zks y u)) ⟨e,fun y hy=>h2 y (by simpa using hy) _ _,?_⟩)
  refine ⟨.int _,H,I.tok _,⟨_,rfl⟩,?_⟩
  have ec:its.toArray.toList.countP (fun y=>zks y u)=bs.countP id:=by rw [← h1,List.countP_map];rfl
  rw [ec]
  exact q
def zgs:V→List V→Hp→VK→Prop:=fun x vs H Q=>∃ (l:Addr) (xs:List V) (k:V) (bs:List Bool) (j:Nat),x=.ref l∧vs=[k]∧H l=some (.lst xs)∧L3.optAll (fun y=>zo1 y k) xs=some bs∧bs.findIdx? id=some j∧Q (.int (j:Nat)) H
theorem zhb:MtM X "list.index" zgs:=by
  intro pins s σ H x vs v us Q I rx rv h
  obtain ⟨l,xs,k,bs,j,rfl,rfl,hH,hb,hj,q⟩:=h
  cases rx
  obtain ⟨u,rfl,ru⟩:=rv.one
  obtain ⟨z,its,n,r,hl,e⟩:=I.lstM hH
  obtain ⟨h1,h2⟩:=zde ru r hb
  have hlen:bs.length=its.length:=by rw [← h1];simp
  obtain ⟨hjl,hj1,hj2⟩:=List.findIdx?_eq_some_iff_getElem.mp hj
  have hval:∀ (m:Nat) (hm:m<its.toArray.size) (hm2:m<bs.length),zks its.toArray[m] u=bs[m]:=fun m hm hm2=>by
    subst h1
    simp
  have hjs:j<its.toArray.size:=by simpa using hlen ▸ hjl
  refine call_meets F.slot_list_index ⟨_,e,rfl⟩ F.entry_list_index (F.args_list_index_2 _ _) (list_indexAt l its.toArray n none #[] u (fun y=>zks y u) j hjs ?_ ?_ ?_) ⟨e,fun y hy=>h2 y (by simpa using hy) _ _,?_⟩
  · have:j<sizeLine:=by omega
    rw [sizeLine_eq] at this
    omega
  · show zks its.toArray[j] u=true
    rw [hval j hjs hjl];exact hj1
  · intro m hm hlt
    show zks its.toArray[m] u=false
    rw [hval m hm (by omega)]
    have:=hj2 m hlt
    simpa using this
  · exact ⟨.int _,H,I.tok _,⟨_,rfl⟩,q⟩
theorem zkv (K:PySem.W.Frag) {apos:Pos} (ho:PE X o to) (ha:PE X a ta) (hs:starEach [a] X.env=[(false,eval a X.env)]:=by rfl)
    (hbase:attributeBase o "count" X.env (eval o X.env)=eval o X.env:=by rfl) (hline:(apos.endLine==pos.line)=true:=by rfl) (hK:X.K=K:=by rfl)
    (hfew:((backTo pos (starEach [a] X.env)).all (fun x=>!x.1)&&(backToKw pos (keywordEach [] X.env)).all (fun x=>x.1.isSome)
      && decide ([a].length+([]:List Keyword).length+(if ([]:List Keyword).isEmpty then 0 else 1)<30))=true:=by rfl) :
    PE X (.Call (.Attribute o "count" apos) [a] [] pos) (tBM K "list" zgt to (z8q ta zji)):=by
  subst hK
  exact znf PySem.F.plainAttrs_list PySem.F.slot_list_count PySem.F.type_list_count zhc ho (z0r ha z2v hs) hbase hfew hline hs
theorem zku (K:PySem.W.Frag) {apos:Pos} (ho:PE X o to) (ha:PE X a ta) (hs:starEach [a] X.env=[(false,eval a X.env)]:=by rfl)
    (hbase:attributeBase o "index" X.env (eval o X.env)=eval o X.env:=by rfl) (hline:(apos.endLine==pos.line)=true:=by rfl) (hK:X.K=K:=by rfl)
    (hfew:((backTo pos (starEach [a] X.env)).all (fun x=>!x.1)&&(backToKw pos (keywordEach [] X.env)).all (fun x=>x.1.isSome)
      && decide ([a].length+([]:List Keyword).length+(if ([]:List Keyword).isEmpty then 0 else 1)<30))=true:=by rfl) :
    PE X (.Call (.Attribute o "index" apos) [a] [] pos) (tBM K "list" zgs to (z8q ta zji)):=by
  subst hK
  exact znf PySem.F.plainAttrs_list PySem.F.slot_list_index PySem.F.type_list_index zhb ho (z0r ha z2v hs) hbase hfew hline hs
end
end L2
namespace L3
open PySem PySem.Spec L2
section
variable {X:Cx} {K:PySem.W.Frag} {a:Expr} {ea:EV} {p pos:Pos}
noncomputable def zrd:D→D→Option Bool
  | .int a,.int b=>some (a==b)
  | .bl a,.bl b=>some (a==b)
  | _,_=>none
theorem zo2 {W:Wd} {d e:D} {v u:V} {b:Bool} (h:zrd d e=some b) (r:DR K W d v) (r2:DR K W e u):zo1 v u=some b:=by
  unfold zrd at h
  split at h
  · cases r;cases r2;exact h
  · cases r;cases r2;exact h
  · cases h
theorem zaw {W:Wd} {e:D} {u:V} (r2:DR K W e u):∀ {ds:List D} {vs:List V} {bs:List Bool},DRs K W ds vs→optAll (fun y=>zrd y e) ds=some bs→optAll (fun y=>zo1 y u) vs=some bs
  | _,_,_,.nil,h=>h
  | _,_,_,.cons r t,h=>by
    refine z02 h fun b e1 h=>?_
    refine z02 h fun bs e2 h=>?_
    cases h
    simp only [optAll,zo2 e1 r r2,zaw r2 t e2,Option.bind_some]
noncomputable def zbx (x y:D) (μ:M):Option (D×M):=(zcm μ x).bind fun ds=>(optAll (fun d=>zrd d y) ds).bind fun bs=>some (.int (bs.countP id:Nat),μ)
noncomputable def zbw (x y:D) (μ:M):Option (D×M):=(zcm μ x).bind fun ds=>(optAll (fun d=>zrd d y) ds).bind fun bs=>(bs.findIdx? id).bind fun j=>some (.int (j:Nat),μ)
theorem zme {o:Expr} {eo:EV} {apos:Pos} (ho:PE X o (tD K eo)) (ha:PE X a (tD K ea)) (hs:starEach [a] X.env=[(false,eval a X.env)]:=by rfl)
    (hbase:attributeBase o "count" X.env (eval o X.env)=eval o X.env:=by rfl) (hline:(apos.endLine==pos.line)=true:=by rfl) (hK:X.K=K:=by rfl)
    (hfew:((backTo pos (starEach [a] X.env)).all (fun x=>!x.1)&&(backToKw pos (keywordEach [] X.env)).all (fun x=>x.1.isSome)
      && decide ([a].length+([]:List Keyword).length+(if ([]:List Keyword).isEmpty then 0 else 1)<30))=true:=by rfl) :
    PE X (.Call (.Attribute o "count" apos) [a] [] pos) (tD K (v2l zbx eo ea)):=z0f (zkv K ho ha hs hbase hline hK hfew) (zgc (by
  intro W x y d e z μ' Q ok r1 r2 hf q
  refine z02 hf fun ds h1 hf=>?_
  refine z02 hf fun bs h2 hf=>?_
  cases hf
  obtain ⟨a,vs,rfl,hh,hs⟩:=z62 ok h1 r1
  exact ⟨a,vs,y,bs,rfl,rfl,hh,zaw r2 hs h2,q _ W rfl ok .refl (.int _)⟩))
theorem zmd {o:Expr} {eo:EV} {apos:Pos} (ho:PE X o (tD K eo)) (ha:PE X a (tD K ea)) (hs:starEach [a] X.env=[(false,eval a X.env)]:=by rfl)
    (hbase:attributeBase o "index" X.env (eval o X.env)=eval o X.env:=by rfl) (hline:(apos.endLine==pos.line)=true:=by rfl) (hK:X.K=K:=by rfl)
    (hfew:((backTo pos (starEach [a] X.env)).all (fun x=>!x.1)&&(backToKw pos (keywordEach [] X.env)).all (fun x=>x.1.isSome)
      && decide ([a].length+([]:List Keyword).length+(if ([]:List Keyword).isEmpty then 0 else 1)<30))=true:=by rfl) :
    PE X (.Call (.Attribute o "index" apos) [a] [] pos) (tD K (v2l zbw eo ea)):=z0f (zku K ho ha hs hbase hline hK hfew) (zgc (by
  intro W x y d e z μ' Q ok r1 r2 hf q
  refine z02 hf fun ds h1 hf=>?_
  refine z02 hf fun bs h2 hf=>?_
  refine z02 hf fun j h3 hf=>?_
  cases hf
  obtain ⟨a,vs,rfl,hh,hs⟩:=z62 ok h1 r1
  exact ⟨a,vs,y,bs,j,rfl,rfl,hh,zaw r2 hs h2,h3,q _ W rfl ok .refl (.int _)⟩))
end
class Enc (α:Type) where
  d:α→D
  p:α→PyData
  k:Nat
  py_eq:∀ (a:α) (μ:M) (n:Nat),k<n→py n μ (d a)=some (p a)
  lay:∀ a,(p a).canLay0=true
  dep:∀ a,(p a).depth≤k
  eqv:∀ a b,PyData.eqv (p a) (p b)=true↔a=b
noncomputable instance encInt:Enc Int where
  d i:=.int i
  p i:=.int i
  k:=0
  py_eq a μ n h:=by cases n with | zero=>omega | succ n=>rfl
  lay a:=rfl
  dep a:=by simp [PyData.depth]
  eqv a b:=by simp [PyData.eqv]
noncomputable instance encBool:Enc Bool where
  d i:=.bl i
  p i:=.bool i
  k:=0
  py_eq a μ n h:=by cases n with | zero=>omega | succ n=>rfl
  lay a:=rfl
  dep a:=by simp [PyData.depth]
  eqv a b:=by cases a <;> cases b <;> simp [PyData.eqv]
section
variable {α β γ:Type} [Enc α] [Enc β] [Enc γ]
theorem z8b {μ:M} {n:Nat} (h:Enc.k α<n):∀ l:List α,optAll (py n μ) (l.map Enc.d)=some (l.map Enc.p)
  | []=>rfl
  | a::r=>by simp only [List.map_cons,optAll,Enc.py_eq a μ n h,z8b h r,Option.bind_some]
theorem zhl:∀ l:List α,PyData.canLayAll0 (l.map Enc.p)=true
  | []=>rfl
  | a::r=>by simp only [List.map_cons,PyData.canLayAll0,Enc.lay a,zhl r,Bool.and_self]
theorem zi9:∀ l:List α,PyData.depthAll (l.map Enc.p)≤Enc.k α
  | []=>by simp [PyData.depthAll]
  | a::r=>by
    have h1:=Enc.dep a
    have h2:=zi9 r
    simp only [List.map_cons,PyData.depthAll]
    omega
theorem zi6:∀ l m:List α,PyData.eqvAll (l.map Enc.p) (m.map Enc.p)=true↔l=m
  | [],[]=>by simp [PyData.eqvAll]
  | [],_::_=>by simp [PyData.eqvAll]
  | _::_,[]=>by simp [PyData.eqvAll]
  | a::r,b::s=>by
    have h1:=Enc.eqv a b
    have h2:=zi6 r s
    simp only [List.map_cons,PyData.eqvAll,Bool.and_eq_true,h1,h2,List.cons.injEq]
noncomputable instance encList:Enc (List α) where
  d l:=.lst (l.map Enc.d)
  p l:=.list (l.map Enc.p)
  k:=Enc.k α+1
  py_eq l μ n h:=by
    cases n with
    | zero=>omega
    | succ n=>rw [zpu,z8b (by omega)];rfl
  lay l:=by simp only [PyData.canLay0];exact zhl l
  dep l:=by
    have:=zi9 l
    simp only [PyData.depth];omega
  eqv l m:=by simp only [PyData.eqv];exact zi6 l m
structure Tri (α β γ:Type) where
  a:α
  b:β
  c:γ
  deriving DecidableEq
noncomputable instance encTri:Enc (Tri α β γ) where
  d t:=.tup [Enc.d t.a,Enc.d t.b,Enc.d t.c]
  p t:=.tuple [Enc.p t.a,Enc.p t.b,Enc.p t.c]
  k:=max (Enc.k α) (max (Enc.k β) (Enc.k γ))+1
  py_eq a μ n h:=by
    cases n with
    | zero=>exact absurd h (Nat.not_lt_zero _)
    | succ n =>
      have h:=Nat.lt_of_succ_lt_succ h
      have h1:=Nat.lt_of_le_of_lt (Nat.le_max_left (Enc.k α) _) h
      have h0:=Nat.lt_of_le_of_lt (Nat.le_max_right (Enc.k α) _) h
      have h2:=Nat.lt_of_le_of_lt (Nat.le_max_left (Enc.k β) _) h0
      have h3:=Nat.lt_of_le_of_lt (Nat.le_max_right (Enc.k β) _) h0
      rw [zps,optAll,Enc.py_eq a.a μ n h1,bs,optAll,Enc.py_eq a.b μ n h2,bs,optAll,Enc.py_eq a.c μ n h3]
      rfl
  lay a:=by
    show ((Enc.p a.a).canLay0&&((Enc.p a.b).canLay0&&((Enc.p a.c).canLay0&&true)))=true
    rw [Enc.lay,Enc.lay,Enc.lay];rfl
  dep a:=Nat.succ_le_succ (Nat.max_le.mpr ⟨Nat.le_trans (Enc.dep a.a) (Nat.le_max_left _ _),Nat.max_le.mpr ⟨Nat.le_trans (Enc.dep a.b) (Nat.le_trans (Nat.le_max_left _ _) (Nat.le_max_right _ _)),Nat.max_le.mpr ⟨Nat.le_trans (Enc.dep a.c) (Nat.le_trans (Nat.le_max_right _ _) (Nat.le_max_right _ _)),Nat.zero_le _⟩⟩⟩)
  eqv a b:=by
    obtain ⟨a1,a2,a3⟩:=a
    obtain ⟨b1,b2,b3⟩:=b
    show (PyData.eqv (Enc.p a1) (Enc.p b1)&&(PyData.eqv (Enc.p a2) (Enc.p b2)&&(PyData.eqv (Enc.p a3) (Enc.p b3)&&true)))=true↔_
    rw [Bool.and_true,Bool.and_eq_true,Bool.and_eq_true,Enc.eqv,Enc.eqv,Enc.eqv,Tri.mk.injEq]
end
section
variable {μ:M} {x y:D} {a b:PyData}
noncomputable def isInt:D→Bool
  | .int _=>true
  | _=>false
noncomputable def zfc:D→Bool
  | .str _=>true
  | _=>false
theorem zre (h:(isInt x&&isInt y)=false) (h2:(zfc x&&zfc y)=false):eqD x y μ=(py 65 μ x).bind fun d=>(py 65 μ y).bind fun e=>if (d.canLay0&&e.canLay0&&decide (d.depth≤64))=true then some (PyData.eqv d e) else none:=by
  cases x <;> cases y <;> first | rfl | (simp [isInt] at h;done) | (simp [zfc] at h2;done)
def Rds (μ:M) (x:D) (α:Type) [Enc α] (a:α):Prop:=py 65 μ x=some (Enc.p a)
variable {α:Type} [Enc α] [DecidableEq α] {s t:α}
theorem zax (hk:Enc.k α≤64) (h1:Rds μ x α s) (h2:Rds μ y α t) (h:(isInt x&&isInt y)=false) (h':(zfc x&&zfc y)=false):eqD x y μ=some (decide (s=t)):=by
  rw [zre h h',h1,h2]
  have l1:=Enc.lay s
  have l2:=Enc.lay t
  have l3:=Enc.dep s
  simp only [Option.bind_some,l1,l2,Bool.and_self,Bool.true_and]
  rw [if_pos (by simp;omega)]
  congr 1
  have:=Enc.eqv s t
  by_cases e:s=t
  · rw [this.mpr e,decide_eq_true e]
  · rw [decide_eq_false e]
    cases hq:PyData.eqv (Enc.p s) (Enc.p t) with
    | false=>rfl
    | true=>exact absurd (this.mp hq) e
end
theorem zgr {α:Type} [Enc α] {μ:M} (hk:Enc.k α≤64) (a:α):Rds μ (Enc.d a) α a:=Enc.py_eq a μ 65 (by omega)
theorem zgy {n:Nat} {μ:M} {k:Nat} {ds:List D} (h:μ[k]?=some (some (.lst ds))):py (n+1) μ (.ref k)=(optAll (py n μ) ds).bind fun ys=>some (.list ys):=by
  simp only [py,h]
theorem zpt {n:Nat} {μ:M} {ds:List D}:py (n+1) μ (.scr ds)=(optAll (py n μ) ds).bind fun ys=>some (.list ys):=rfl
theorem zgq {α:Type} [Enc α] {μ:M} {k:Nat} {l:List α} (hk:Enc.k α≤63) (h:μ[k]?=some (some (.lst (l.map Enc.d)))):Rds μ (.ref k) (List α) l:=by
  unfold Rds
  rw [zgy h,z8b (by omega)];rfl
theorem zkt {α:Type} [Enc α] [DecidableEq α] {μ:M} {k:Nat} {l m:List α} (hk:Enc.k α≤63) (h:μ[k]?=some (some (.lst (l.map Enc.d)))):eqD (.ref k) (.lst (m.map Enc.d)) μ=some (decide (l=m)) :=
  zax (α:=List α) (by show Enc.k α+1≤64;omega) (zgq hk h) (zgr (α:=List α) (by show Enc.k α+1≤64;omega) m) rfl rfl
theorem zo4 {α:Type} [Enc α] [DecidableEq α] {μ:M} {l m:List α} (hk:Enc.k α≤63):eqD (.lst (l.map Enc.d)) (.lst (m.map Enc.d)) μ=some (decide (l=m)) :=
  zax (α:=List α) (by show Enc.k α+1≤64;omega) (zgr (α:=List α) (by show Enc.k α+1≤64;omega) l) (zgr (α:=List α) (by show Enc.k α+1≤64;omega) m) rfl rfl
section
variable {Γ:G} {μ:M}
@[simp] theorem up_s {ev:EV} {d:D} {μ1:M} (h:ev Γ μ=some (d,μ1)):up ev Γ μ=some (.ok d,μ1):=by unfold up;rw [h];rfl
end
structure Gr (μ μ':M):Prop where
  len:μ.length≤μ'.length
  at_:∀ j,j<μ.length→μ'[j]?=μ[j]?
theorem Gr.refl {μ:M}:Gr μ μ:=⟨Nat.le_refl _,fun _ _=>rfl⟩
theorem Gr.trans {μ μ1 μ2:M} (h:Gr μ μ1) (g:Gr μ1 μ2):Gr μ μ2:=⟨Nat.le_trans h.len g.len,fun j hj=>(g.at_ j (Nat.lt_of_lt_of_le hj h.len)).trans (h.at_ j hj)⟩
theorem Gr.get {j:Nat} {μ μ':M} {o:Option O} (h:Gr μ μ') (e:μ[j]?=some o):μ'[j]?=some o:=(h.at_ j (List.getElem?_eq_some_iff.mp e).1).trans e
theorem gr_app {μ ex:M}:Gr μ (μ++ex):=⟨by simp,fun j hj=>List.getElem?_append_left hj⟩
open Classical in
noncomputable def qOf (K:PySem.W.Frag) (cv:Value) (C:Addr):Option Bool:=if ExcIn K C then PySem.W.kitOne K (.ref C) cv else none
theorem zar {K:PySem.W.Frag} {c:V} {cv:Value} (h:clV c=some cv):IsX K c (qOf K cv):=⟨cv,h,fun C b e=>by
  unfold qOf at e
  split at e
  · rename_i hC;exact ⟨hC,e⟩
  · cases e⟩
theorem z6t {K:PySem.W.Frag} {cv:Value} {C:Addr} {b:Bool} (h:ExcIn K C) (k:PySem.W.kitOne K (.ref C) cv=some b):qOf K cv C=some b:=by unfold qOf;rw [if_pos h];exact k
theorem zi3 {K:PySem.W.Frag} {C T:Addr} {cd:ClassData} (h1:PySem.W.subIn K (.ref T) (.type "BaseException")=some true) (h2:PySem.W.clsIn K T=some cd) (h3:PySem.W.typeIn K (.ref T)=some (.type "type")) (h4:PySem.W.subIn K (.ref C) (.ref T)=some true):PySem.W.exmOne K (.ref C) (.ref T)=some true:=by
  unfold PySem.W.exmOne PySem.W.kitCls
  rw [h1]
  simp only [h2,h3,h4,Option.isSome_some,Bool.true_and,beq_self_eq_true,if_true]
end L3
namespace L2
open PySem PySem.Spec PyProof.Rows
end L2
namespace L3
open PySem PySem.Spec L2
noncomputable def zpy (f:Str) (d:D):List (Str×D)→List (Str×D)
  | []=>[(f,d)]
  | (g,e)::r=>if g=f then (g,d)::r else (g,e)::zpy f d r
section
variable {K:PySem.W.Frag} {W:Wd}
end
section
variable {X:Cx} {K:PySem.W.Frag} {o e value:Expr} {es:List Expr} {f m:Str} {pos pos' tpos apos p:Pos} {eo ev:EV} {el:LV} {C:Addr}
end
noncomputable def dn (f:FX):List D→M→Option (D×M):=fun ds μ=>(f ds μ).bind fun p=>match p.1 with
  | .ok d=>some (d,p.2)
  | .ex _=>none
section
variable {P:Program} {w:World} {K:PySem.W.Frag} {mg:Str→Option Value} {base:Heap} {k:Nat} {f:Addr} {fd:FuncData} {ps:List Str} {g:FX}
theorem zld:∀ vs H Q E E',spM K (dn g) vs H Q E→spX K g vs H Q E':=fun vs H Q E E' h=>by
  obtain ⟨W,ds,d,μ',h1,h2,h3,e,q⟩:=h
  obtain ⟨⟨r,μ1⟩,e1,e⟩:=bnd e
  cases r with
  | ok d' =>
    have e:some (d',μ1)=some (d,μ'):=e
    obtain ⟨rfl,rfl⟩:d'=d∧μ1=μ':=by cases e;exact ⟨rfl,rfl⟩
    exact ⟨W,ds,.ok d',μ1,h1,h2,h3,e1,fun W' a b c v rv=>q v W' a b c rv⟩
  | ex C=>cases e
theorem ztf (F:FnOk P w K mg base (CXr P w) k f fd ps (spX K g)):FnOk P w K mg base CX0 k f fd ps (spM K (dn g)):=by
  refine ⟨fun vs H Q E h=>F.len vs H Q E (zld vs H Q E E h),fun A outer s H args us vs Q E hr he hb hv hs=>?_⟩
  refine codeAny_mono (F.run A outer s H args us vs Q (fun _ _ _=>False) hr he hb hv (zld vs H Q E _ hs)) fun r s' h=>?_
  cases r with
  | ok fl=>cases fl <;> exact h
  | error e =>
    refine bq fun bG=>?_
    obtain ⟨a,C,H',B,_,_,z⟩:=h
    exact bG (z.elim)
theorem Df.dn {x:Str} (D:DfX P w K mg base k x ps (spX K g)):Df P w K mg base k x ps (spM K (L3.dn g)):=let ⟨f,fd,F,r⟩:=D;⟨f,fd,ztf F,r⟩
end
section
variable {X:Cx} {E:St→XK} {K:PySem.W.Frag} {o e:Expr} {es:List Expr} {m:Str} {pos apos:Pos} {eo:EX} {el:LX} {C:Addr} {g:FX} {k:Nat} {ps:List Str}
end
end L3
namespace L2
open PySem PySem.W PySem.Spec PyProof.Rows
section
variable {X:Cx} {a o:Expr} {ta to:TE} {p pos:Pos}
end
end L2
namespace L3
open PySem PySem.Spec L2
section
variable {X:Cx} {K:PySem.W.Frag} {a b o:Expr} {ea eb eo:EV} {p pos apos:Pos}
end
end L3
namespace L2
open PySem PySem.W PySem.Spec PyProof.Rows
section
variable {prog:Program} {w:World} {A:Around} {R:Result→Shared→Prop} {I:Addr} {fp wr:List Addr} {n:Nat} {P:Nat→Value→Prop} {St:Nat→Heap→Prop}
end
section
variable {prog:Program} {w:World} {A:Around} {E:Value→Shared→Prop} {s:Shared}
end
section
variable {X:Cx} {a b:Expr} {ta tb:TE} {p pos:Pos}
end
end L2
namespace L3
open PySem PySem.Spec L2
section
variable {X:Cx} {K:PySem.W.Frag} {a b:Expr} {ea eb:EV} {p pos:Pos}
end
noncomputable def Wd.reg (W:Wd) (p:Addr) (x:O) (h:Addr→Prop):Wd:={ W with ρ:=W.ρ++[p],μ:=W.μ++[some x],hid:=h }
section
variable {K:PySem.W.Frag} {W W1 W':Wd} {p:Addr} {x:O} {h:Addr→Prop}
theorem zlf (ok:Ok K W) {a:Addr} (z:RL (W.reg p x h) a):RL W a∨a=p:=by
  obtain ⟨k,o,h1,h2⟩:=z
  have h1:(W.μ++[some x])[k]?=some (some o):=h1
  have h2:(W.ρ++[p])[k]?=some a:=h2
  by_cases hk:k<W.μ.length
  · rw [List.getElem?_append_left hk] at h1
    rw [List.getElem?_append_left (by rw [ok.len];exact hk)] at h2
    exact .inl ⟨k,o,h1,h2⟩
  · rw [List.getElem?_append_right (by rw [ok.len];omega)] at h2
    have:k - W.ρ.length=0:=by
      by_cases e:k - W.ρ.length=0
      · exact e
      · rw [List.getElem?_eq_none (by simp;omega)] at h2;cases h2
    rw [this] at h2
    cases h2
    exact .inr rfl
mutual
theorem DR.reg (ok:Ok K W) (hp:W.hid p) (hs:∀ a,h a→W.hid a):∀ {d:D} {v:V},DR K W d v→DR K (W.reg p x h) d v
  | _,_,.non=>.non
  | _,_,.bl b=>.bl b
  | _,_,.int i=>.int i
  | _,_,.str s=>.str s
  | _,_,.ref e=>.ref (by
      show (W.ρ++[p])[_]?=_
      rw [List.getElem?_append_left (List.getElem?_eq_some_iff.mp e).1];exact e)
  | _,_,.lst r n e=>.lst r (fun z=>z.elim (fun z=>(zlf ok z).elim (fun z=>n (.inl z)) (fun z=>n (.inr (z ▸ hp)))) (fun z=>n (.inr (hs _ z)))) (DRs.reg ok hp hs e)
  | _,_,.scr r e=>.scr r (DRs.reg ok hp hs e)
  | _,_,.tup r e=>.tup r (DRs.reg ok hp hs e)
  | _,_,.gt r e=>.gt r (DRs.reg ok hp hs e)
theorem DRs.reg (ok:Ok K W) (hp:W.hid p) (hs:∀ a,h a→W.hid a):∀ {ds:List D} {vs:List V},DRs K W ds vs→DRs K (W.reg p x h) ds vs
  | _,_,.nil=>.nil
  | _,_,.cons e t=>.cons (e.reg ok hp hs) (DRs.reg ok hp hs t)
end
theorem zqm {rs:List D} {ys:List V} (ok:Ok K W) (hp:W.hid p) (hs:∀ a,h a→W.hid a) (hn:¬ h p) (hy:W.H p=some (.lst ys)) (r:DRs K W rs ys):Ok K (W.reg p (.lst rs) h) where
  len:=by show (W.ρ++[p]).length=(W.μ++[_]).length;simp [ok.len]
  nd:=by
    show (W.ρ++[p]).Nodup
    rw [List.nodup_append]
    refine ⟨ok.nd,by simp,fun a ha b hb e=>?_⟩
    simp at hb
    subst hb e
    exact (ok.hd0 _ hp).2 ha
  rs a m:=by
    have m:a∈W.ρ++[p]:=m
    rcases List.mem_append.mp m with m | m
    · exact ok.rs a m
    · simp at m
      subst m
      show W.H a≠none
      rw [hy];simp
  at_ k u e:=by
    have e:(W.μ++[some (.lst rs)])[k]?=some (some u):=e
    by_cases hk:k<W.μ.length
    · rw [List.getElem?_append_left hk] at e
      obtain ⟨a,ho,h1,h2,h3⟩:=ok.at_ k u e
      refine ⟨a,ho,by show (W.ρ++[p])[k]?=_;rw [List.getElem?_append_left (by rw [ok.len];exact hk)];exact h1,h2,?_⟩
      cases u with
      | lst ds=>obtain ⟨vs,e,q⟩:=h3;exact ⟨vs,e,q.reg ok hp hs⟩
      | dK kvs=>obtain ⟨vs,e,q⟩:=h3;exact ⟨vs,e,Paired.mapP q fun _ _ ⟨e,q⟩=>⟨e,q.reg ok hp hs⟩⟩
      | dN kvs=>obtain ⟨vs,e,q⟩:=h3;exact ⟨vs,e,Paired.mapP q fun _ _ ⟨e,q⟩=>⟨e,q.reg ok hp hs⟩⟩
      | ins C fs=>obtain ⟨vs,e,q⟩:=h3;exact ⟨vs,e,Paired.mapP q fun _ _ ⟨e,q⟩=>⟨e,q.reg ok hp hs⟩⟩
      | exc C=>exact h3
    · rw [List.getElem?_append_right (by omega)] at e
      have h0:k - W.μ.length=0:=by
        by_cases z:k - W.μ.length=0
        · exact z
        · rw [List.getElem?_eq_none (by simp;omega)] at e;cases e
      rw [h0] at e
      cases e
      refine ⟨p,_,?_,hy,ys,rfl,r.reg ok hp hs⟩
      show (W.ρ++[p])[k]?=_
      have:k=W.ρ.length:=by rw [ok.len];omega
      rw [this];simp
  hd0 a z:=by
    refine ⟨(ok.hd0 a (hs a z)).1,fun m=>?_⟩
    have m:a∈W.ρ++[p]:=m
    rcases List.mem_append.mp m with m | m
    · exact (ok.hd0 a (hs a z)).2 m
    · simp at m
      subst m
      exact hn z
theorem zjj {o:HO} {x:O} (ok':Ok K W') (hp:W1.H p=none) (s:StepB p (W1.hide p o) W'):Step W1 (W'.reg p x W1.hid) where
  ρ k a e:=by
    show (W'.ρ++[p])[k]?=_
    have:=s.ρ k a e
    rw [List.getElem?_append_left (List.getElem?_eq_some_iff.mp this).1];exact this
  live a z:=by
    rcases zlf ok' z with z | rfl
    · exact (z51 hp s).live a z
    · exact .inr hp
  keep a u e n:=(z51 hp s).keep a u e n
  hid:=rfl
  still a n:=(z51 hp s).still a n
end
section
variable {X:Cx} {K:PySem.W.Frag} {N' own:List Str} {cap:List (Str×Nat)} {scope:Scope} {tg iter elt:Expr} {ifs:List Expr} {pos:Pos} {iv:IV} {g:GV} {tc:BV} {te:EV}
noncomputable def zb8 (own:List Str) (cap:List (Str×Nat)) (iv:IV) (g:GV) (tc:BV) (te:EV):EV:=fun Γ μ=>(iv Γ μ).bind fun s=>if s.1.1.length≤1000000 then (z1q s.1.2 g tc te s.1.1 (z8k own cap Γ) s.2).bind fun q=>some (.ref q.2.length,q.2++[some (.lst q.1)]) else none
theorem zfx (S:CompScope X N' own cap scope) (hi:PI X tg iter (tDI K iv))
    (hg:∀ cl C s₀ H₀ ex,PG (z1i X N' scope cl C s₀ H₀ ex) tg (tDG K g)) (ht:∀ cl C s₀ H₀ ex,PIf (z1i X N' scope cl C s₀ H₀ ex) ifs (tDB K tc)) (he:∀ cl C s₀ H₀ ex,PE (z1i X N' scope cl C s₀ H₀ ex) elt (tD K te))
    (hx:∀ e s,X.xe e s→False:=by exact fun _ _ z=>z) (hc:X.calm=true:=by rfl) (hs:∀ x,foldedSetIterable iter X.env x=pure x:=by intro _;rfl) :
    PE X (.ListComp elt [⟨tg,iter,ifs,0⟩] scope pos) (tD K (zb8 own cap iv g tc te)):=z0f (zh5 S hi hg ht he hx hc hs) fun σ H Q h=>by
  refine el4 h fun W Γ d μ' eH ok en e q=>?_;subst eH
  refine bq fun bG=>?_
  obtain ⟨⟨⟨its,c⟩,μ1⟩,e1,e⟩:=bnd e
  refine bG (⟨W,Γ,its,c,μ1,rfl,ok,en,e1,fun J W1 hμ1 ok1 s1 jr p hp=>?_⟩)
  split at e
  · rename_i hl
    obtain ⟨⟨rs,μ2⟩,e2,e⟩:=bnd e
    cases e
    refine za9 ok1 hp jr ((en.step ok s1).cap own cap) hl (by rw [hμ1];exact e2) fun W' ys hμ' ok' s' hp' hy r=>?_
    have hs:∀ a,W1.hid a→W'.hid a:=fun a z=>by rw [s'.hid];exact .inr z
    have rr:DR K (W'.reg p (.lst rs) W1.hid) (.ref μ2.length) (.ref p):=.ref (by
      show (W'.ρ++[p])[μ2.length]?=_
      have:μ2.length=W'.ρ.length:=by rw [ok'.len,hμ']
      rw [this];simp)
    exact q _ (W'.reg p (.lst rs) W1.hid) (by show W'.μ++_=_;rw [hμ']) (zqm ok' hp' hs (z6x ok1 hp) hy r) (s1.trans (zjj ok' hp s')) rr
  · cases e
end
end L3
namespace L2
open PySem PySem.W PySem.Spec PyProof.Rows
section
variable {X:Cx} {k:Nat} {x:Str} {ps:List Str} {sp:Sp} {e:Expr} {es:List Expr} {t:TA} {p pos:Pos} {f:Addr} {fd:FuncData}
end
end L2
namespace L3
open PySem PySem.Spec L2
open PyProof.Rows (envOfC)
section
variable {P:Program} {w:World} {K:PySem.W.Frag} {mg:Str→Option Value} {base:Heap}
end
section
variable {X:Cx} {K:PySem.W.Frag} {e:Expr} {es:List Expr} {p pos:Pos}
end
end L3
namespace L2
open PySem PyProof.Rows
section
open PySem.SeqAt
open PySem.AutoSeq1 (wpAny_loadPart')
open PySem.MeetsSeq PySem.MeetsSeq2 PySem.MeetsSeq3
end
end L2
namespace L3
open PySem PySem.Spec L2
section
variable {X:Cx} {K:PySem.W.Frag} {a b:Expr} {ea eb:EV} {pos p p2 pos2:Pos} {k:Nat} {P:Program} {w:World} {mg:Str→Option Value} {base:Heap}
noncomputable def zkr (x y:D) (μ:M):Option (D×M):=(zcm μ x).bind fun xs=>(zcm μ y).bind fun ys=>if xs.length+ys.length≤1000000 then some (.ref μ.length,μ++[some (.lst (xs++ys))]) else none
theorem zos (ha:PE X a (tD K ea)) (hb:PE X b (tD K eb)) (hK:X.K=K:=by rfl):PE X (.BinOp a .Add b pos) (tD K (v2 zkr ea eb)):=by
  subst hK
  exact zma op_cat (by
    intro W x y d e z μ' Q ok r1 r2 hf q
    refine z02 hf fun xs hx hf=>?_
    refine z02 hf fun ys hy hf=>?_
    split at hf
    · rename_i hl
      cases hf
      obtain ⟨a,vs,rfl,ha,hv⟩:=z62 ok hx r1
      obtain ⟨b,us,rfl,hb,hu⟩:=z62 ok hy r2
      exact ⟨a,b,vs,us,rfl,rfl,ha,hb,z55 (by rw [← hv.length,← hu.length];omega),fun p hp=>q _ (W.new p (.lst (vs++us)) (.lst (xs++ys))) rfl (ze1 ok hp ⟨_,rfl,hv.append hu⟩) (z3a ok hp) (zeh ok)⟩
    · cases hf) ha hb
end
end L3
namespace L2
open PySem PySem.Spec PyProof.Rows
section
variable {prog:Program} {w:World} {A:Around} {E:Value→Shared→Prop} {s:Shared}
end
section
variable {X:Cx} {tg:Expr}
end
end L2
namespace L3
open PySem PySem.Spec L2
section
variable {X:Cx} {K:PySem.W.Frag} {ea:EV} {pos:Pos}
end
section
variable {K:PySem.W.Frag} {W:Wd} {k:Nat} {d:Addr} {x:O} {u:HO}
end
section
variable {X:Cx} {K:PySem.W.Frag} {N' own:List Str} {cap:List (Str×Nat)} {scope:Scope} {kx vx o:Expr} {ifs elts:List Expr} {pos apos cpos tpos:Pos} {eo:EV} {g:GV} {tc:BV} {tk tv:EV} {n:Nat}
end
end L3
namespace L2
open PySem PySem.Spec PyProof.Rows
section
open PySem.SeqAt
open PySem.AutoSeq1 (wpAny_loadPart')
open PySem.MeetsSeq PySem.MeetsSeq2 PySem.MeetsSeq3 PySem.SeqRoads2
end
section
variable {X:Cx} {N' own:List Str} {cap:List (Str×Nat)} {scope:Scope} {tg iter elt:Expr} {ifs:List Expr} {pos:Pos} {wi:TI} {g:TG} {tc:TT} {te:TE}
end
end L2
namespace L3
open PySem PySem.Spec L2
section
variable {X:Cx} {K:PySem.W.Frag} {a b:Expr} {ea eb:EV} {pos p:Pos} {k:Nat}
end
section
variable {X:Cx} {E:St→XK} {K:PySem.W.Frag} {N' own:List Str} {cap:List (Str×Nat)} {scope:Scope} {tg iter elt:Expr} {ifs:List Expr} {pos:Pos} {ex:EX} {g:GV} {tc:BV} {te:EV}
end
section
variable {X:Cx} {K:PySem.W.Frag} {a b:Expr} {ea eb:EV} {pos p p2 pos2:Pos} {k:Nat}
end
section
variable {X:Cx} {K:PySem.W.Frag} {a b:Expr} {ea eb:EV} {pos p:Pos} {k:Nat}
end
end L3
namespace L2
open PySem PySem.Spec PyProof.Rows
section
variable {prog:Program} {w:World} {A:Around} {E:Value→Shared→Prop} {s:Shared}
end
section
variable {prog:Program} {w:World} {A:Around} {E:Value→Shared→Prop} {s:Shared}
end
section
variable {X:Cx} {pins:List (Addr×Obj)} {σ:St} {H:Hp} {s:Shared}
end
section
variable {X:Cx}
end
end L2
namespace L3
open PySem PySem.Spec L2
section
variable {X:Cx} {K:PySem.W.Frag} {ea eb:EV} {p pos:Pos}
end
noncomputable def zut (kvs:List (NK×D)) (k:NK) (v:D):List (NK×D) :=
  if (kvs.any fun kv=>decide (kv.1=k))=true then kvs.map (fun kv=>if kv.1=k then (kv.1,v) else kv) else kvs++[(k,v)]
noncomputable def zuw:D→Option NK
  | .tup [.tup ds,.int n]=>(optAll inI ds).bind fun ns=>some (ns,n)
  | _=>none
noncomputable def zvb (μ:M):D→Option (List (NK×D))
  | .ref k=>match μ[k]? with
    | some (some (.dN kvs))=>some kvs
    | _=>none
  | _=>none
section
variable {K:PySem.W.Frag} {W:Wd}
end
section
variable {X:Cx} {K:PySem.W.Frag} {a b c e o i value:Expr} {ea eb eo ei:EV} {pos p apos pos' pos1:Pos} {k:Nat}
end
end L3
namespace L2
open PySem PySem.Spec PyProof.Rows
section
variable {prog:Program} {w:World} {A:Around} {E:Value→Shared→Prop} {s:Shared}
end
section
variable {X:Cx} {a:Expr} {ta:TE} {p pos:Pos}
end
end L2
namespace L3
open PySem PySem.Spec L2
section
variable {X:Cx} {K:PySem.W.Frag} {a b:Expr} {ea eb:EV} {pos p p2 pos2:Pos} {k:Nat}
end
end L3
namespace L3
open PySem L2
section
variable {X:Cx} {K:PySem.W.Frag} {pos p1 p2 p3 q1 q2 q3:Pos} {k1 k2 k3:Str} {i1 i2 i3:Int}
end
end L3
namespace L2
open PySem PySem.Spec PyProof.Rows
end L2
namespace L3
open PySem L2
section
variable {X:Cx} {K:PySem.W.Frag} {a b:Expr} {ea eb:EV} {pos:Pos}
end
section
variable {X:Cx} {K:PySem.W.Frag} {a b:Expr} {ea eb:EV} {pos p p2 pos2:Pos} {k:Nat}
end
end L3
namespace Ts
open PySem PyProof.Rows Tim
structure Od (R:Keyed→Keyed→Bool):Prop where
  asym:∀ a b,R a b=true→R b a=false
  ntr:∀ a b c,R a b=false→R b c=false→R a c=false
def Le (R:Keyed→Keyed→Bool) (a b:Keyed):Prop:=R b a=false
section
variable {R:Keyed→Keyed→Bool}
theorem Od.refl (o:Od R) (a:Keyed):Le R a a:=by
  unfold Le
  cases h:R a a with
  | false=>rfl
  | true=>rw [← h];exact o.asym a a h
theorem Od.trans (o:Od R) {a b c:Keyed} (h:Le R a b) (g:Le R b c):Le R a c:=o.ntr c b a g h
theorem Od.lt (o:Od R) {a b:Keyed} (h:R a b=true):Le R a b:=o.asym a b h
theorem Od.lt_le (o:Od R) {a b c:Keyed} (h:R a b=true) (g:Le R b c):R a c=true:=by
  cases z:R a c with
  | true=>rfl
  | false=>rw [o.ntr a c b z g] at h;cases h
theorem Od.le_lt (o:Od R) {a b c:Keyed} (h:Le R a b) (g:R b c=true):R a c=true:=by
  cases z:R a c with
  | true=>rfl
  | false=>rw [o.ntr b a c h z] at g;cases g
def Seg (R:Keyed→Keyed→Bool) (x:Array Keyed) (i j:Nat):Prop:=∀ p q a b,i≤p→p≤q→q<j→x[p]?=some a→x[q]?=some b→Le R a b
def Dsc (R:Keyed→Keyed→Bool) (x:Array Keyed) (i j:Nat):Prop:=∀ p q a b,i≤p→p≤q→q<j→x[p]?=some a→x[q]?=some b→Le R b a
def Eqs (R:Keyed→Keyed→Bool) (x:Array Keyed) (i j:Nat):Prop:=∀ p q a b,i≤p→p<j→i≤q→q<j→x[p]?=some a→x[q]?=some b→Le R a b
theorem Seg.one (o:Od R) {x:Array Keyed} {i:Nat}:Seg R x i (i+1):=fun p q a b h1 h2 h3 e1 e2=>by
  have:p=q:=by omega
  subst this
  rw [e1] at e2;cases e2
  exact o.refl a
theorem Seg.snoc (o:Od R) {x:Array Keyed} {i j:Nat} (h:Seg R x i j) (hij:i<j) (hl:∀ a b,x[j - 1]?=some a→x[j]?=some b→Le R a b) (hj:j - 1<x.size):Seg R x i (j+1):=fun p q a b h1 h2 h3 e1 e2=>by
  by_cases hq:q<j
  · exact h p q a b h1 h2 hq e1 e2
  · have:q=j:=by omega
    subst this
    by_cases hp:p=q
    · subst hp;rw [e1] at e2;cases e2;exact o.refl a
    · have ec:x[q - 1]?=some x[q - 1]:=Array.getElem?_eq_getElem hj
      exact o.trans (h p (q - 1) a _ h1 (by omega) (by omega) e1 ec) (hl _ _ ec e2)
theorem Dsc.snoc (o:Od R) {x:Array Keyed} {i j:Nat} (h:Dsc R x i j) (hij:i<j) (hl:∀ a b,x[j - 1]?=some a→x[j]?=some b→Le R b a) (hj:j - 1<x.size):Dsc R x i (j+1):=fun p q a b h1 h2 h3 e1 e2=>by
  by_cases hq:q<j
  · exact h p q a b h1 h2 hq e1 e2
  · have:q=j:=by omega
    subst this
    by_cases hp:p=q
    · subst hp;rw [e1] at e2;cases e2;exact o.refl a
    · have ec:x[q - 1]?=some x[q - 1]:=Array.getElem?_eq_getElem hj
      exact o.trans (hl _ _ ec e2) (h p (q - 1) a _ h1 (by omega) (by omega) e1 ec)
theorem Eqs.one (o:Od R) {x:Array Keyed} {i j:Nat} (h:j≤i+1):Eqs R x i j:=fun p q a b h1 h2 h3 h4 e1 e2=>by
  have:p=q:=by omega
  subst this
  rw [e1] at e2;cases e2
  exact o.refl a
theorem Eqs.snoc (o:Od R) {x:Array Keyed} {i j:Nat} (h:Eqs R x i j) (hij:i<j) (h1:∀ a b,x[j - 1]?=some a→x[j]?=some b→Le R a b∧Le R b a) (hj:j - 1<x.size):Eqs R x i (j+1):=fun p q a b g1 g2 g3 g4 e1 e2=>by
  have ec:x[j - 1]?=some x[j - 1]:=Array.getElem?_eq_getElem hj
  by_cases hp:p<j
  · by_cases hq:q<j
    · exact h p q a b g1 hp g3 hq e1 e2
    · have:q=j:=by omega
      subst this
      exact o.trans (h p (q - 1) a _ g1 hp (by omega) (by omega) e1 ec) (h1 _ _ ec e2).1
  · have:p=j:=by omega
    subst this
    by_cases hq:q<p
    · exact o.trans (h1 _ _ ec e1).2 (h (p - 1) q _ b (by omega) (by omega) g3 hq ec e2)
    · have:p=q:=by omega
      subst this
      rw [e1] at e2;cases e2
      exact o.refl a
theorem Eqs.dsc {x:Array Keyed} {i j:Nat} (h:Eqs R x i j):Dsc R x i j:=fun p q a b h1 h2 h3 e1 e2=>h q p b a (by omega) h3 h1 (by omega) e2 e1
theorem Dsc.mirror {x:Array Keyed} {lo hi i j:Nat} (h:Dsc R x lo hi) (he:Eqs R x i j) (hj:j≤x.size) (h1:lo≤i) (h2:j≤hi):Dsc R (mirror x i j ((j - i) / 2)) lo hi:=fun p q a b g1 g2 g3 e1 e2=>by
  rw [getElem?_mirror_all hj] at e1 e2
  by_cases hp:i≤p∧p<j
  · rw [if_pos hp] at e1
    by_cases hq:i≤q∧q<j
    · rw [if_pos hq] at e2
      exact he _ _ b a (by omega) (by omega) (by omega) (by omega) e2 e1
    · rw [if_neg hq] at e2
      exact h _ _ a b (by omega) (by omega) g3 e1 e2
  · rw [if_neg hp] at e1
    by_cases hq:i≤q∧q<j
    · rw [if_pos hq] at e2
      exact h _ _ a b g1 (by omega) (by omega) e1 e2
    · rw [if_neg hq] at e2
      exact h _ _ a b g1 g2 g3 e1 e2
theorem Dsc.turn {x:Array Keyed} {i j:Nat} (h:Dsc R x i j) (hj:j≤x.size):Seg R (PyProof.Rows.mirror x i j ((j - i) / 2)) i j:=fun p q a b g1 g2 g3 e1 e2=>by
  rw [getElem?_mirror_all hj] at e1 e2
  rw [if_pos (by omega)] at e1 e2
  exact h _ _ b a (by omega) (by omega) (by omega) e2 e1
end
def Same (x y:Array Keyed) (i j:Nat):Prop:=∀ k,(k<i∨j≤k)→y[k]?=x[k]?
theorem Same.refl {x:Array Keyed} {i j:Nat}:Same x x i j:=fun _ _=>rfl
theorem Same.trans {x y z:Array Keyed} {i j:Nat} (h:Same x y i j) (g:Same y z i j):Same x z i j:=fun k hk=>(g k hk).trans (h k hk)
theorem Same.mono {x y:Array Keyed} {i j i' j':Nat} (h:Same x y i j) (h1:i'≤i) (h2:j≤j'):Same x y i' j':=fun k hk=>h k (by omega)
theorem z52 {x:Array Keyed} {i j:Nat} (hj:j≤x.size):Same x (mirror x i j ((j - i) / 2)) i j:=fun k hk=>by
  rw [getElem?_mirror_all hj,if_neg (by omega)]
theorem Seg.same {R:Keyed→Keyed→Bool} {x y:Array Keyed} {i j i' j':Nat} (h:Seg R x i j) (g:Same x y i' j') (hd:j≤i'∨j'≤i):Seg R y i j:=fun p q a b h1 h2 h3 e1 e2=>by
  rw [g p (by omega)] at e1
  rw [g q (by omega)] at e2
  exact h p q a b h1 h2 h3 e1 e2
structure TWG (kd:SortKind) (a0:List Keyed) (pe:Array (Nat×Nat×Nat)) (st:SortSt):Prop where
  perm:(arrOf st).toList.Perm a0
  kind:kindOf st=kd
  failed:failedOf st=none
  pend:pendingOf st=pe
section
variable {prog:Program} {w:World} {A:Around} {E:Value→Shared→Prop} {s:Shared} {kd:SortKind} {a0:List Keyed} {pe:Array (Nat×Nat×Nat)} {st:SortSt} {Gd:Keyed→Prop} {R:Keyed→Keyed→Bool}
theorem TWG.size (h:TWG kd a0 pe st):(arrOf st).size=a0.length:=by rw [← Array.length_toList];exact h.perm.length_eq
theorem TWG.setArr (h:TWG kd a0 pe st) {xs:Array Keyed} (hp:xs.Perm (arrOf st)):TWG kd a0 pe (setArr st xs) :=
  ⟨(Array.perm_iff_toList_perm.mp hp).trans h.perm,h.kind,h.failed,h.pend⟩
theorem TWG.at_ (h:TWG kd a0 pe st) {i:Nat} {a:Keyed} (e:(arrOf st)[i]?=some a):a∈a0:=by
  have:a∈(arrOf st).toList:=by
    obtain ⟨hi,e⟩:=Array.getElem?_eq_some_iff.mp e
    rw [← e];simp
  exact h.perm.mem_iff.mp this
noncomputable def LtOk (prog:Program) (w:World) (A:Around) (E:Value→Shared→Prop) (s:Shared) (kd:SortKind) (Gd:Keyed→Prop) (R:Keyed→Keyed→Bool):Prop :=
  ∀ (st:SortSt) (x y:Keyed) (Q:Option Bool→SortSt→Prop),kindOf st=kd→Gd x→Gd y→Q (some (R x y)) st→wpS (model prog w) A E s (lt' x y) Q st
theorem z0q {arr:Array Keyed} {i:Nat} {Q:Keyed→SortSt→Prop} (hi:i<arr.size) (h:∀ p,arr[i]?=some p→Q p st):wpS (model prog w) A E s (elem' arr i) Q st:=by
  rw [elem'_eq,Array.getElem?_eq_getElem hi]
  exact wpS_pure (h _ (Array.getElem?_eq_getElem hi))
theorem z6o (L:LtOk prog w A E s kd Gd R) (hg:∀ p∈a0,Gd p) {i j:Nat} {Q:Option Bool→SortSt→Prop} (hW:TWG kd a0 pe st) (hi:i<a0.length) (hj:j<a0.length) (h:∀ a b,(arrOf st)[i]?=some a→(arrOf st)[j]?=some b→Q (some (R a b)) st):wpS (model prog w) A E s (ltAt' i j) Q st:=by
  rw [ltAt'_eq]
  refine wpS_bind (wpS_get ?_)
  show wpS _ _ _ _ (do let x ← elem' (arrOf st) i;let y ← elem' (arrOf st) j;lt' x y) Q st
  refine wpS_bind (z0q (by rw [hW.size];exact hi) fun p hp=>wpS_bind (z0q (by rw [hW.size];exact hj) fun q hq=>?_))
  exact L st p q Q hW.kind (hg _ (hW.at_ hp)) (hg _ (hW.at_ hq)) (h p q hp hq)
theorem zp6 (o:Od R) (L:LtOk prog w A E s kd Gd R) (hg:∀ p∈a0,Gd p) {lo m ok:Nat} {Q:Bool→SortSt→Prop} (hW:TWG kd a0 pe st) (hm:lo+m≤a0.length) (hok:ok≤m) (hs:Seg R (arrOf st) lo (lo+ok))
    (h:∀ st',TWG kd a0 pe st'→Seg R (arrOf st') lo (lo+m)→Same (arrOf st) (arrOf st') lo (lo+m)→Q true st'):wpS (model prog w) A E s (binarySort' lo m ok) Q st:=by
  rw [binarySort'_eq]
  refine wpS_bind (wpS_mono (wpS_forRange (I:=fun k c st'=>c=(none,())∧TWG kd a0 pe st'∧Seg R (arrOf st') lo (lo+min k m)∧Same (arrOf st) (arrOf st') lo (lo+m)) (Q:=fun c st'=>c=(none,())∧TWG kd a0 pe st'∧Seg R (arrOf st') lo (lo+m)∧Same (arrOf st) (arrOf st') lo (lo+m)) ?step ?fin ?init) ?post)
  case post =>
    rintro c st' ⟨rfl,hW',h1,h2⟩
    exact wpS_pure (h st' hW' h1 h2)
  case init =>
    refine ⟨rfl,hW,?_,Same.refl⟩
    by_cases h1:ok=0
    · intro p q a b g1 g2 g3 e1 e2
      exact Seg.one o (i:=lo) p q a b g1 g2 (by omega) e1 e2
    · rw [show min (max ok 1) m=ok by omega];exact hs
  case fin =>
    rintro c st' ⟨hc,hW',h1,h2⟩
    rw [show min (max (max ok 1) m) m=m by omega] at h1
    exact ⟨hc,hW',h1,h2⟩
  case step =>
    rintro k c st' hak hkn ⟨rfl,hW',hs',hsm⟩
    rw [show min k m=k by omega] at hs'
    have hsz:=hW'.size
    obtain ⟨key,hkey⟩:∃ key,(arrOf st')[lo+k]?=some key:=⟨_,Array.getElem?_eq_getElem (by omega)⟩
    refine wpS_bind (wpS_mono (wpS_forRange (I:=fun x c st''=>st''=st'∧∃ l r,c=(none,l,r)∧l≤r∧r≤k∧r - l≤k - x∧(∀ i a,i<l→(arrOf st')[lo+i]?=some a→Le R a key)∧(∀ i a,r≤i→i<k→(arrOf st')[lo+i]?=some a→R key a=true))
      (Q:=fun c st''=>st''=st'∧∃ l r,c=(none,l,r)∧l≤k∧(∀ i a,i<l→(arrOf st')[lo+i]?=some a→Le R a key)∧(∀ i a,l≤i→i<k→(arrOf st')[lo+i]?=some a→R key a=true)) ?istep ?ifin ⟨rfl,0,k,rfl,by omega,by omega,by omega,fun i a hi=>by omega,fun i a h1 h2=>by omega⟩) ?ipost)
    case ifin =>
      rintro c st'' ⟨rfl,l,r,rfl,hlr,hrk,hmm,hlo,hhi⟩
      have:l=r:=by omega
      subst this
      exact ⟨rfl,l,l,rfl,hrk,hlo,hhi⟩
    case istep =>
      rintro x c st'' _ hxk ⟨rfl,l,r,rfl,hlr,hrk,hmm,hlo,hhi⟩
      dsimp only
      by_cases hge:l≥r
      · rw [if_pos hge]
        have:l=r:=by omega
        subst this
        exact wpS_pure ⟨rfl,l,l,rfl,hrk,hlo,hhi⟩
      · rw [if_neg hge]
        refine wpS_bind (z6o L hg hW' (by omega) (by omega) fun a b ea eb=>?_)
        rw [hkey] at ea;cases ea
        cases hb:R key b with
        | true =>
          refine wpS_pure ⟨rfl,l,(l+r) / 2,rfl,by omega,by omega,by omega,hlo,fun i a h1 h2 e=>?_⟩
          exact o.lt_le hb (hs' _ _ b a (by omega) (by omega) (by omega) eb e)
        | false =>
          refine wpS_pure ⟨rfl,(l+r) / 2+1,r,rfl,by omega,by omega,by omega,fun i a h1 e=>?_,hhi⟩
          exact o.trans (hs' _ _ a b (by omega) (by omega) (by omega) e eb) hb
    case ipost =>
      rintro c st'' ⟨rfl,l,r,rfl,hlk,hlo,hhi⟩
      show wpS _ _ _ _ (do moveDown' (lo+k) (lo+l);pure (ForInStep.yield (none,()))) _ _
      rw [moveDown'_eq]
      refine wpS_bind (wpS_modify (wpS_pure ⟨rfl,hW'.setArr (bubble_perm _ _ _),?_,?_⟩))
      · rw [show min (k+1) m=k+1 by omega]
        intro p q a b g1 g2 g3 e1 e2
        have e1:(bubble (arrOf st'') (lo+k) (lo+k - (lo+l)))[p]?=some a:=e1
        have e2:(bubble (arrOf st'') (lo+k) (lo+k - (lo+l)))[q]?=some b:=e2
        rw [getElem?_bubble (by omega) _ (by omega)] at e1 e2
        rw [show lo+k - (lo+k - (lo+l))=lo+l by omega] at e1 e2
        by_cases p1:p=lo+l
        · rw [if_pos p1,hkey] at e1
          cases e1
          by_cases q1:q=lo+l
          · rw [if_pos q1,hkey] at e2;cases e2;exact o.refl _
          · rw [if_neg q1,if_pos (by omega)] at e2
            exact o.lt (hhi (q - 1 - lo) b (by omega) (by omega) (by rw [show lo+(q - 1 - lo)=q - 1 by omega];exact e2))
        · rw [if_neg p1] at e1
          by_cases q1:q=lo+l
          · rw [if_pos q1,hkey] at e2
            cases e2
            rw [if_neg (by omega)] at e1
            exact hlo (p - lo) a (by omega) (by rw [show lo+(p - lo)=p by omega];exact e1)
          · rw [if_neg q1] at e2
            by_cases p2:lo+l<p∧p≤lo+k
            · rw [if_pos p2] at e1
              rw [if_pos (by omega)] at e2
              exact hs' _ _ a b (by omega) (by omega) (by omega) e1 e2
            · rw [if_neg p2] at e1
              by_cases q2:lo+l<q∧q≤lo+k
              · rw [if_pos q2] at e2
                exact hs' _ _ a b (by omega) (by omega) (by omega) e1 e2
              · rw [if_neg q2] at e2
                exact hs' _ _ a b (by omega) (by omega) (by omega) e1 e2
      · refine hsm.trans fun j hj=>?_
        show (bubble (arrOf st'') (lo+k) (lo+k - (lo+l)))[j]?=_
        rw [getElem?_bubble (by omega) _ (by omega),if_neg (by omega),if_neg (by omega)]
end
section
variable {prog:Program} {w:World} {A:Around} {E:Value→Shared→Prop} {s:Shared} {kd:SortKind} {a0:List Keyed} {pe:Array (Nat×Nat×Nat)} {st:SortSt} {Gd:Keyed→Prop} {R:Keyed→Keyed→Bool}
theorem zdq {i j:Nat} {Q:Unit→SortSt→Prop} (h:Q () (setArr st (mirror (arrOf st) i j ((j - i) / 2)))):wpS (model prog w) A E s (reverseSlice' i j) Q st:=by
  rw [reverseSlice'_eq];exact wpS_modify h
theorem zg8 (o:Od R) (L:LtOk prog w A E s kd Gd R) (hg:∀ p∈a0,Gd p) {lo m nrem:Nat} {Q:Option Nat→SortSt→Prop} (hW:TWG kd a0 pe st) (hn:lo+nrem≤a0.length) (h1:1≤m) (hm:m≤nrem) (hd:Dsc R (arrOf st) lo (lo+m))
    (h:∀ k st',TWG kd a0 pe st'→1≤k→k≤nrem→Seg R (arrOf st') lo (lo+k)→Same (arrOf st) (arrOf st') lo (lo+nrem)→Q (some k) st') :
    wpS (model prog w) A E s (do
      reverseSlice' lo (lo+m)
      let mut n:=m
      for _ in [n:nrem] do
        let some smaller ← ltAt' (lo+n) (lo+n - 1) | return none
        if smaller then break
        n:=n+1
      return some n) Q st:=by
  have hz:=hW.size
  refine wpS_bind (zdq ?_)
  have hW1:=hW.setArr (mirror_perm (arrOf st) lo (lo+m) ((lo+m - lo) / 2))
  have hs1:Seg R (arrOf (setArr st (mirror (arrOf st) lo (lo+m) ((lo+m - lo) / 2)))) lo (lo+m):=hd.turn (by omega)
  have hsm:Same (arrOf st) (arrOf (setArr st (mirror (arrOf st) lo (lo+m) ((lo+m - lo) / 2)))) lo (lo+nrem):=(z52 (x:=arrOf st) (i:=lo) (j:=lo+m) (by omega)).mono (by omega) (by omega)
  generalize setArr st (mirror (arrOf st) lo (lo+m) ((lo+m - lo) / 2))=st1 at hW1 hs1 hsm
  have hz1:=hW1.size
  refine wpS_bind (wpS_mono (wpS_forRange (I:=fun x c st'=>st'=st1∧c=(none,x)∧Seg R (arrOf st1) lo (lo+x)) (Q:=fun c st'=>st'=st1∧∃ k,c=(none,k)∧1≤k∧k≤nrem∧Seg R (arrOf st1) lo (lo+k)) ?step ?fin ⟨rfl,rfl,hs1⟩) ?post)
  case fin =>
    rintro c st' ⟨rfl,rfl,hs⟩
    rw [show max m nrem=nrem by omega] at hs
    exact ⟨rfl,_,rfl,by omega,by omega,by rw [show max m nrem=nrem by omega];exact hs⟩
  case post =>
    rintro c st' ⟨rfl,k,rfl,a,b,hs⟩
    exact wpS_pure (h k _ hW1 a b hs hsm)
  case step =>
    rintro x c st' hax hxn ⟨rfl,rfl,hs⟩
    dsimp only
    refine wpS_bind (z6o L hg hW1 (by omega) (by omega) fun a b ea eb=>?_)
    cases hb:R a b with
    | true=>exact wpS_pure ⟨rfl,x,rfl,by omega,by omega,hs⟩
    | false =>
      refine wpS_pure ⟨rfl,rfl,?_⟩
      refine hs.snoc o (by omega) (fun a' b' e1 e2=>?_) (by omega)
      rw [ea] at e2;cases e2
      rw [eb] at e1;cases e1
      exact hb
theorem zg9 (o:Od R) (L:LtOk prog w A E s kd Gd R) (hg:∀ p∈a0,Gd p) {lo m nrem:Nat} {Q:Option Nat→SortSt→Prop} (hW:TWG kd a0 pe st) (hn:lo+nrem≤a0.length) (hm:m+1≤nrem) (hd:Dsc R (arrOf st) lo (lo+(m+1)))
    (h:∀ k st',TWG kd a0 pe st'→1≤k→k≤nrem→Seg R (arrOf st') lo (lo+k)→Same (arrOf st) (arrOf st') lo (lo+nrem)→Q (some k) st') :
    wpS (model prog w) A E s (Tim.descPart lo m nrem) Q st:=by
  unfold Tim.descPart
  refine wpS_bind (wpS_lift (wpAny_rule ⟨rfl,?_⟩))
  refine wpS_bind (wpS_mono (wpS_forRange (I:=fun x c st'=>∃ q,c=(none,x,q)∧TWG kd a0 pe st'∧Dsc R (arrOf st') lo (lo+x)∧q+1≤x∧Eqs R (arrOf st') (lo+x - (q+1)) (lo+x)∧Same (arrOf st) (arrOf st') lo (lo+nrem))
    (Q:=fun c st'=>∃ k q,c=(none,k,q)∧TWG kd a0 pe st'∧1≤k∧k≤nrem∧Dsc R (arrOf st') lo (lo+k)∧q+1≤k∧Eqs R (arrOf st') (lo+k - (q+1)) (lo+k)∧Same (arrOf st) (arrOf st') lo (lo+nrem)) ?step ?fin ⟨0,rfl,hW,hd,by omega,Eqs.one o (by omega),Same.refl⟩) ?post)
  case fin =>
    rintro c st' ⟨q,rfl,hW',g1,g2,g3,g4⟩
    rw [show max (m+1) nrem=nrem by omega] at g1 g2 g3
    exact ⟨_,q,rfl,hW',by omega,by omega,by rw [show max (m+1) nrem=nrem by omega];exact g1,by omega,by rw [show max (m+1) nrem=nrem by omega];exact g3,g4⟩
  case post =>
    rintro c st' ⟨k,q,rfl,hW',a,b,g1,g2,g3,g4⟩
    have hz:=hW'.size
    dsimp only
    by_cases hq:q > 0
    · rw [if_pos hq]
      refine wpS_bind (zdq ?_)
      have hW2:=hW'.setArr (mirror_perm (arrOf st') (lo+k - (q+1)) (lo+k) ((lo+k - (lo+k - (q+1))) / 2))
      refine zg8 o L hg hW2 hn a b (g1.mirror g3 (by omega) (by omega) (by omega)) fun k2 st2 w1 w2 w3 w4 w5=>h k2 st2 w1 w2 w3 w4 ?_
      exact (g4.trans ((z52 (x:=arrOf st') (i:=lo+k - (q+1)) (j:=lo+k) (by omega)).mono (by omega) (by omega))).trans w5
    · rw [if_neg hq]
      exact zg8 o L hg hW' hn a b g1 fun k2 st2 w1 w2 w3 w4 w5=>h k2 st2 w1 w2 w3 w4 (g4.trans w5)
  case step =>
    rintro x c st' hax hxn ⟨q,rfl,hW',g1,g2,g3,g4⟩
    have hz:=hW'.size
    dsimp only
    refine wpS_bind (z6o L hg hW' (by omega) (by omega) fun a b ea eb=>?_)
    cases hb:R a b with
    | true =>
      have d1:Dsc R (arrOf st') lo (lo+x+1):=g1.snoc o (by omega) (fun a' b' e1 e2=>by
        rw [ea] at e2;cases e2
        rw [eb] at e1;cases e1
        exact o.lt hb) (by omega)
      dsimp only
      rw [if_pos rfl]
      by_cases hq:q > 0
      · rw [if_pos hq]
        refine wpS_bind (zdq (wpS_pure ⟨0,rfl,hW'.setArr (mirror_perm _ _ _ _),d1.mirror g3 (by omega) (by omega) (by omega),by omega,Eqs.one o (by omega),?_⟩))
        exact g4.trans ((z52 (x:=arrOf st') (i:=lo+x - (q+1)) (j:=lo+x) (by omega)).mono (by omega) (by omega))
      · rw [if_neg hq]
        exact wpS_pure ⟨0,rfl,hW',d1,by omega,Eqs.one o (by omega),g4⟩
    | false =>
      dsimp only
      rw [if_neg Bool.false_ne_true]
      refine wpS_bind (z6o L hg hW' (by omega) (by omega) fun a2 b2 ea2 eb2=>?_)
      rw [eb] at ea2;cases ea2
      rw [ea] at eb2;cases eb2
      cases hb2:R b a with
      | true=>exact wpS_pure ⟨x,q,rfl,hW',by omega,by omega,g1,g2,g3,g4⟩
      | false =>
        refine wpS_pure ⟨q+1,rfl,hW',g1.snoc o (by omega) (fun a' b' e1 e2=>by
          rw [ea] at e2;cases e2
          rw [eb] at e1;cases e1
          exact hb2) (by omega),by omega,?_,g4⟩
        rw [show lo+(x+1) - (q+1+1)=lo+x - (q+1) by omega]
        exact g3.snoc o (by omega) (fun a' b' e1 e2=>by
          rw [ea] at e2;cases e2
          rw [eb] at e1;cases e1
          exact ⟨hb,hb2⟩) (by omega)
theorem zje (o:Od R) (L:LtOk prog w A E s kd Gd R) (hg:∀ p∈a0,Gd p) {lo nrem:Nat} {Q:Option Nat→SortSt→Prop} (hW:TWG kd a0 pe st) (hn:lo+nrem≤a0.length) (h1:1≤nrem)
    (h:∀ k st',TWG kd a0 pe st'→1≤k→k≤nrem→Seg R (arrOf st') lo (lo+k)→Same (arrOf st) (arrOf st') lo (lo+nrem)→Q (some k) st') :
    wpS (model prog w) A E s (countRun' lo nrem) Q st:=by
  have hz:=hW.size
  rw [countRun'_eq]
  refine wpS_bind (wpS_mono (wpS_forRange (I:=fun x c st'=>st'=st∧c=(none,x)∧Seg R (arrOf st) lo (lo+x)) (Q:=fun c st'=>st'=st∧∃ k,c=(none,k)∧1≤k∧k≤nrem∧Seg R (arrOf st) lo (lo+k)∧(k=nrem∨∀ a b,(arrOf st)[lo+k]?=some a→(arrOf st)[lo+k - 1]?=some b→R a b=true)) ?step ?fin ⟨rfl,rfl,Seg.one o⟩) ?post)
  case fin =>
    rintro c st' ⟨rfl,rfl,hs⟩
    rw [show max 1 nrem=nrem by omega] at hs
    exact ⟨rfl,_,rfl,by omega,by omega,by rw [show max 1 nrem=nrem by omega];exact hs,.inl (by omega)⟩
  case step =>
    rintro x c st' hax hxn ⟨rfl,rfl,hs⟩
    dsimp only
    refine wpS_bind (z6o L hg hW (by omega) (by omega) fun a b ea eb=>?_)
    cases hb:R a b with
    | true =>
      refine wpS_pure ⟨rfl,x,rfl,by omega,by omega,hs,.inr fun a' b' e1 e2=>?_⟩
      rw [ea] at e1;cases e1
      rw [eb] at e2;cases e2
      exact hb
    | false =>
      refine wpS_pure ⟨rfl,rfl,hs.snoc o (by omega) (fun a' b' e1 e2=>?_) (by omega)⟩
      rw [ea] at e2;cases e2
      rw [eb] at e1;cases e1
      exact hb
  case post =>
    rintro c st' ⟨rfl,k,rfl,a,b,hs,hor⟩
    dsimp only
    by_cases hk:k=nrem
    · rw [if_pos (by simpa using hk)]
      exact wpS_pure (h k _ hW a b hs Same.refl)
    · rw [if_neg (by simpa using hk)]
      have hlt:=hor.resolve_left hk
      have ek:∃ y,(arrOf st')[lo+k]?=some y:=⟨_,Array.getElem?_eq_getElem (by omega)⟩
      have el:∃ y,(arrOf st')[lo+k - 1]?=some y:=⟨_,Array.getElem?_eq_getElem (by omega)⟩
      obtain ⟨yk,ek⟩:=ek
      obtain ⟨yl,el⟩:=el
      have hR:=hlt _ _ ek el
      by_cases hgt:k > 1
      · rw [if_pos hgt]
        refine wpS_bind (z6o L hg hW (by omega) (by omega) fun a1 b1 ea1 eb1=>?_)
        rw [el] at eb1;cases eb1
        cases hb:R a1 yl with
        | true=>exact wpS_pure (h k _ hW a b hs Same.refl)
        | false =>
          have he:Eqs R (arrOf st') lo (lo+k):=fun p q x y g1 g2 g3 g4 e1 e2 =>
            o.trans (o.trans (hs p (lo+k - 1) x yl g1 (by omega) (by omega) e1 el) hb) (hs lo q a1 y (by omega) g3 g4 ea1 e2)
          have hd:Dsc R (arrOf st') lo (lo+k+1):=he.dsc.snoc o (by omega) (fun a' b' e1 e2=>by
            rw [ek] at e2;cases e2
            rw [el] at e1;cases e1
            exact o.lt hR) (by omega)
          dsimp only
          rw [if_neg Bool.false_ne_true]
          refine wpS_bind (zdq ?_)
          refine zg9 o L hg (hW.setArr (mirror_perm _ _ _ _)) hn (by omega) (hd.mirror he (by omega) (by omega) (by omega)) fun k2 st2 w1 w2 w3 w4 w5=>h k2 st2 w1 w2 w3 w4 ?_
          exact ((z52 (x:=arrOf st') (i:=lo) (j:=lo+k) (by omega)).mono (by omega) (by omega)).trans w5
      · rw [if_neg hgt]
        have hk1:k=1:=by omega
        subst hk1
        refine zg9 o L hg hW hn (by omega) ?_ h
        refine Dsc.snoc o (j:=lo+1) (fun p q x y g1 g2 g3 e1 e2=>?_) (by omega) (fun a' b' e1 e2=>by
            rw [ek] at e2;cases e2
            rw [el] at e1;cases e1
            exact o.lt hR) (by omega)
        have:p=q:=by omega
        subst this
        rw [e1] at e2;cases e2
        exact o.refl x
end
noncomputable def By (R:Keyed→Keyed→Bool) (z31:Bool) (key a:Keyed):Bool:=if z31=true then R a key else !R key a
section
variable {prog:Program} {w:World} {A:Around} {E:Value→Shared→Prop} {s:Shared} {kd:SortKind} {st:SortSt} {Gd:Keyed→Prop} {R:Keyed→Keyed→Bool}
theorem By.down (o:Od R) {z31:Bool} {key a b:Keyed} (h:Le R a b) (hb:By R z31 key b=true):By R z31 key a=true:=by
  unfold By at *
  cases z31 with
  | true=>exact o.le_lt h hb
  | false =>
    simp only [Bool.false_eq_true,if_false,Bool.not_eq_true'] at *
    exact o.ntr key b a hb h
theorem z6a (L:LtOk prog w A E s kd Gd R) {z31:Bool} {key:Keyed} {arr:Array Keyed} {base i:Nat} {Q:Option Bool→SortSt→Prop} (hk:kindOf st=kd) (hkey:Gd key) (harr:∀ p∈arr.toList,Gd p) (hi:base+i<arr.size) (h:∀ a,arr[base+i]?=some a→Q (some (By R z31 key a)) st) :
    wpS (model prog w) A E s (z8f z31 key arr base i) Q st:=by
  unfold z8f
  refine wpS_bind (z0q hi fun p hp=>?_)
  have hm:p∈arr.toList:=by
    obtain ⟨_,e⟩:=Array.getElem?_eq_some_iff.mp hp
    rw [← e];simp
  have hq:=h p hp
  cases z31 with
  | true=>exact L st p key Q hk (harr p hm) hkey hq
  | false=>exact wpS_bind (L st key p _ hk hkey (harr p hm) (wpS_pure hq))
theorem z4c (o:Od R) (L:LtOk prog w A E s kd Gd R) {z31:Bool} {key:Keyed} {arr:Array Keyed} {base m hint:Nat} {Q:Option Nat→SortSt→Prop} (hk:kindOf st=kd) (hkey:Gd key) (harr:∀ p∈arr.toList,Gd p) (hb:base+m≤arr.size) (hh:hint<m) (hs:Seg R arr base (base+m))
    (h:∀ k,k≤m→(∀ i a,i<k→arr[base+i]?=some a→By R z31 key a=true)→(∀ i a,k≤i→i<m→arr[base+i]?=some a→By R z31 key a=false)→Q (some k) st):wpS (model prog w) A E s (z34 z31 key arr base m hint) Q st:=by
  have dn:∀ i j a b,i≤j→j<m→arr[base+i]?=some a→arr[base+j]?=some b→By R z31 key b=true→By R z31 key a=true:=fun i j a b h1 h2 e1 e2 hb=>By.down o (hs _ _ a b (by omega) (by omega) (by omega) e1 e2) hb
  have up:∀ i j a b,i≤j→j<m→arr[base+i]?=some a→arr[base+j]?=some b→By R z31 key a=false→By R z31 key b=false:=fun i j a b h1 h2 e1 e2 ha=>by
    cases z:By R z31 key b with
    | false=>rfl
    | true=>rw [dn i j a b h1 h2 e1 e2 z] at ha;cases ha
  have at_:∀ i,i<m→∃ a,arr[base+i]?=some a:=fun i hi=>⟨_,Array.getElem?_eq_getElem (by omega)⟩
  have last:∀ lo hi,lo≤hi→hi≤m→(∀ i a,i<lo→arr[base+i]?=some a→By R z31 key a=true)→(∀ i a,hi≤i→i<m→arr[base+i]?=some a→By R z31 key a=false)→wpS (model prog w) A E s (do
      let mut lo:=lo
      let mut hi:=hi
      for _ in [0:m] do
        if lo≥hi then break
        let mm:=lo+(hi - lo) / 2
        let some za4 ← z8f z31 key arr base mm | return none
        if za4 then lo:=mm+1 else hi:=mm
      return some hi) Q st:=by
    intro lo hi hlh hhi hl hr
    refine wpS_bind (wpS_mono (wpS_forRange (I:=fun x c st'=>st'=st∧∃ l r,c=(none,l,r)∧l≤r∧r≤m∧r - l≤m - x∧(∀ i a,i<l→arr[base+i]?=some a→By R z31 key a=true)∧(∀ i a,r≤i→i<m→arr[base+i]?=some a→By R z31 key a=false))
      (Q:=fun c st'=>st'=st∧∃ l r,c=(none,l,r)∧r≤m∧(∀ i a,i<r→arr[base+i]?=some a→By R z31 key a=true)∧(∀ i a,r≤i→i<m→arr[base+i]?=some a→By R z31 key a=false)) ?step ?fin ⟨rfl,lo,hi,rfl,hlh,hhi,by omega,hl,hr⟩) ?post)
    case fin =>
      rintro c st' ⟨rfl,l,r,rfl,g1,g2,g3,g4,g5⟩
      have:l=r:=by omega
      subst this
      exact ⟨rfl,l,l,rfl,g2,g4,g5⟩
    case post =>
      rintro c st' ⟨rfl,l,r,rfl,g2,g4,g5⟩
      exact wpS_pure (h r g2 g4 g5)
    case step =>
      rintro x c st' _ hx ⟨rfl,l,r,rfl,g1,g2,g3,g4,g5⟩
      dsimp only
      by_cases hge:l≥r
      · rw [if_pos hge]
        have:l=r:=by omega
        subst this
        exact wpS_pure ⟨rfl,l,l,rfl,g2,g4,g5⟩
      · rw [if_neg hge]
        refine wpS_bind (z6a L hk hkey harr (by omega) fun a ea=>?_)
        cases hb:By R z31 key a with
        | true =>
          refine wpS_pure ⟨rfl,_,r,rfl,by omega,g2,by omega,fun i a' hi e=>?_,g5⟩
          exact dn i (l+(r - l) / 2) a' a (by omega) (by omega) e ea hb
        | false =>
          refine wpS_pure ⟨rfl,l,_,rfl,by omega,by omega,by omega,g4,fun i a' h1 h2 e=>?_⟩
          exact up (l+(r - l) / 2) i a a' h1 h2 ea e hb
  rw [zfh]
  refine wpS_bind (z6a L hk hkey harr (by omega) fun ah eh=>?_)
  cases hb0:By R z31 key ah with
  | true =>
    dsimp only
    rw [if_pos rfl]
    refine wpS_bind (wpS_mono (wpS_forRange (I:=fun x c st'=>st'=st∧∃ l f,c=(none,l,f)∧x+1≤f∧l<f∧hint+l<m∧(∀ a,arr[base+(hint+l)]?=some a→By R z31 key a=true))
      (Q:=fun c st'=>st'=st∧∃ l f,c=(none,l,f)∧l<f∧hint+l<m∧(∀ a,arr[base+(hint+l)]?=some a→By R z31 key a=true)∧(f≥m - hint∨(f<m - hint∧∀ a,arr[base+(hint+f)]?=some a→By R z31 key a=false))) ?step ?fin ⟨rfl,0,1,rfl,by omega,by omega,by omega,fun a e=>by rw [Nat.add_zero] at e;rw [eh] at e;cases e;exact hb0⟩) ?post)
    case fin =>
      rintro c st' ⟨rfl,l,f,rfl,g0,g1,g2,g3⟩
      exact ⟨rfl,l,f,rfl,g1,g2,g3,.inl (by omega)⟩
    case post =>
      rintro c st' ⟨rfl,l,f,rfl,g1,g2,g3,g4⟩
      refine last (hint+l+1) (hint+min f (m - hint)) (by omega) (by omega) (fun i a hi e=>?_) (fun i a h1 h2 e=>?_)
      · obtain ⟨a',e'⟩:=at_ (hint+l) g2
        exact dn i (hint+l) a a' (by omega) g2 e e' (g3 a' e')
      · rcases g4 with g4 | ⟨g4,g5⟩
        · omega
        · obtain ⟨a',e'⟩:=at_ (hint+f) (by omega)
          exact up (hint+f) i a' a (by omega) h2 e' e (g5 a' e')
    case step =>
      rintro x c st' _ hx ⟨rfl,l,f,rfl,g0,g1,g2,g3⟩
      dsimp only
      by_cases hge:f≥m - hint
      · rw [if_pos hge]
        exact wpS_pure ⟨rfl,l,f,rfl,g1,g2,g3,.inl hge⟩
      · rw [if_neg hge]
        refine wpS_bind (z6a L hk hkey harr (by omega) fun a ea=>?_)
        cases hb:By R z31 key a with
        | true=>exact wpS_pure ⟨rfl,_,_,rfl,by omega,by omega,by omega,fun a' e=>by rw [ea] at e;cases e;exact hb⟩
        | false=>exact wpS_pure ⟨rfl,l,f,rfl,g1,g2,g3,.inr ⟨by omega,fun a' e=>by rw [ea] at e;cases e;exact hb⟩⟩
  | false =>
    dsimp only
    rw [if_neg Bool.false_ne_true]
    refine wpS_bind (wpS_mono (wpS_forRange (I:=fun x c st'=>st'=st∧∃ l f,c=(none,l,f)∧x+1≤f∧l<f∧l≤hint∧(∀ a,arr[base+(hint - l)]?=some a→By R z31 key a=false))
      (Q:=fun c st'=>st'=st∧∃ l f,c=(none,l,f)∧l<f∧l≤hint∧(∀ a,arr[base+(hint - l)]?=some a→By R z31 key a=false)∧(f≥hint+1∨(f≤hint∧∀ a,arr[base+(hint - f)]?=some a→By R z31 key a=true))) ?step2 ?fin2 ⟨rfl,0,1,rfl,by omega,by omega,by omega,fun a e=>by rw [Nat.sub_zero] at e;rw [eh] at e;cases e;exact hb0⟩) ?post2)
    case fin2 =>
      rintro c st' ⟨rfl,l,f,rfl,g0,g1,g2,g3⟩
      exact ⟨rfl,l,f,rfl,g1,g2,g3,.inl (by omega)⟩
    case post2 =>
      rintro c st' ⟨rfl,l,f,rfl,g1,g2,g3,g4⟩
      refine last (hint+1 - min f (hint+1)) (hint - l) (by omega) (by omega) (fun i a hi e=>?_) (fun i a h1 h2 e=>?_)
      · rcases g4 with g4 | ⟨g4,g5⟩
        · omega
        · obtain ⟨a',e'⟩:=at_ (hint - f) (by omega)
          exact dn i (hint - f) a a' (by omega) (by omega) e e' (g5 a' e')
      · obtain ⟨a',e'⟩:=at_ (hint - l) (by omega)
        exact up (hint - l) i a' a (by omega) h2 e' e (g3 a' e')
    case step2 =>
      rintro x c st' _ hx ⟨rfl,l,f,rfl,g0,g1,g2,g3⟩
      dsimp only
      by_cases hge:f≥hint+1
      · rw [if_pos hge]
        exact wpS_pure ⟨rfl,l,f,rfl,g1,g2,g3,.inl hge⟩
      · rw [if_neg hge]
        refine wpS_bind (z6a L hk hkey harr (by omega) fun a ea=>?_)
        cases hb:By R z31 key a with
        | true=>exact wpS_pure ⟨rfl,l,f,rfl,g1,g2,g3,.inr ⟨by omega,fun a' e=>by rw [ea] at e;cases e;exact hb⟩⟩
        | false=>exact wpS_pure ⟨rfl,_,_,rfl,by omega,by omega,by omega,fun a' e=>by rw [ea] at e;cases e;exact hb⟩
end
structure MI (R:Keyed→Keyed→Bool) (al bl out:List Keyed) (ia ib:Nat):Prop where
  perm:(out++(al.drop ia++bl.drop ib)).Perm (al++bl)
  srt:out.Pairwise (Le R)
  la:∀ x∈out,∀ y∈al.drop ia,Le R x y
  lb:∀ x∈out,∀ y∈bl.drop ib,Le R x y
def Mg (R:Keyed→Keyed→Bool) (al bl:List Keyed) (r:Array Keyed):Prop:=r.toList.Perm (al++bl)∧r.toList.Pairwise (Le R)
section
variable {R:Keyed→Keyed→Bool} {al bl out:List Keyed} {ia ib k:Nat}
theorem z9x {l:List Keyed} (h:l.Pairwise (Le R)):(l.drop ia).Pairwise (Le R):=h.sublist (List.drop_sublist ia l)
theorem MI.zero:MI R al bl [] 0 0:=⟨by simp,.nil,fun _ h=>(nomatch h),fun _ h=>(nomatch h)⟩
theorem MI.blockA (h:MI R al bl out ia ib) (sa:al.Pairwise (Le R)) (hk:∀ x∈(al.drop ia).take k,∀ y∈bl.drop ib,Le R x y):MI R al bl (out++(al.drop ia).take k) (ia+k) ib:=by
  have e:(al.drop ia).take k++al.drop (ia+k)=al.drop ia:=by rw [← List.drop_drop];exact List.take_append_drop k _
  have hp:=z9x (ia:=ia) sa
  rw [← e,List.pairwise_append] at hp
  refine ⟨?_,?_,?_,?_⟩
  · have:=h.perm
    rw [← e] at this
    simpa [List.append_assoc] using this
  · rw [List.pairwise_append]
    exact ⟨h.srt,hp.1,fun x hx y hy=>h.la x hx y (by rw [← e];exact List.mem_append_left _ hy)⟩
  · intro x hx y hy
    rcases List.mem_append.mp hx with hx | hx
    · exact h.la x hx y (by rw [← e];exact List.mem_append_right _ hy)
    · exact hp.2.2 x hx y hy
  · intro x hx y hy
    rcases List.mem_append.mp hx with hx | hx
    · exact h.lb x hx y hy
    · exact hk x hx y hy
theorem MI.blockB (h:MI R al bl out ia ib) (sb:bl.Pairwise (Le R)) (hk:∀ x∈(bl.drop ib).take k,∀ y∈al.drop ia,Le R x y):MI R al bl (out++(bl.drop ib).take k) ia (ib+k):=by
  have e:(bl.drop ib).take k++bl.drop (ib+k)=bl.drop ib:=by rw [← List.drop_drop];exact List.take_append_drop k _
  have hp:=z9x (ia:=ib) sb
  rw [← e,List.pairwise_append] at hp
  refine ⟨?_,?_,?_,?_⟩
  · have:=h.perm
    rw [← e] at this
    refine List.Perm.trans ?_ this
    rw [List.append_assoc]
    refine List.Perm.append_left out ?_
    rw [← List.append_assoc,← List.append_assoc]
    exact List.Perm.append_right _ List.perm_append_comm
  · rw [List.pairwise_append]
    exact ⟨h.srt,hp.1,fun x hx y hy=>h.lb x hx y (by rw [← e];exact List.mem_append_left _ hy)⟩
  · intro x hx y hy
    rcases List.mem_append.mp hx with hx | hx
    · exact h.la x hx y hy
    · exact hk x hx y hy
  · intro x hx y hy
    rcases List.mem_append.mp hx with hx | hx
    · exact h.lb x hx y (by rw [← e];exact List.mem_append_right _ hy)
    · exact hp.2.2 x hx y hy
theorem z5l {l:List Keyed} {i:Nat} {x:Keyed} (h:l[i]?=some x):(l.drop i).take 1=[x]:=by
  obtain ⟨hi,e⟩:=List.getElem?_eq_some_iff.mp h
  rw [List.drop_eq_getElem_cons hi]
  simp [e]
theorem z8a (o:Od R) {l:List Keyed} (s:l.Pairwise (Le R)) {i:Nat} {x y:Keyed} (h:l[i]?=some x) (hy:y∈l.drop i):Le R x y:=by
  obtain ⟨hi,e⟩:=List.getElem?_eq_some_iff.mp h
  have hp:=z9x (ia:=i) s
  rw [List.drop_eq_getElem_cons hi] at hp hy
  rw [← e]
  rcases List.mem_cons.mp hy with rfl | hy
  · exact o.refl _
  · exact (List.pairwise_cons.mp hp).1 y hy
theorem ze5 {l:List Keyed} {i k:Nat} {x:Keyed} (h:x∈(l.drop i).take k):∃ j,j<k∧l[i+j]?=some x:=by
  obtain ⟨j,hj,e⟩:=List.mem_iff_getElem.mp h
  rw [List.length_take] at hj
  refine ⟨j,by omega,?_⟩
  rw [List.getElem_take,List.getElem_drop] at e
  rw [← e]
  exact List.getElem?_eq_getElem _
theorem MI.pushB (o:Od R) (h:MI R al bl out ia ib) (sa:al.Pairwise (Le R)) (sb:bl.Pairwise (Le R)) {p:Keyed} (ep:bl[ib]?=some p) (hq:∀ q,al[ia]?=some q→R p q=true):MI R al bl (out++[p]) ia (ib+1):=by
  rw [← z5l ep]
  refine h.blockB sb fun x hx y hy=>?_
  rw [z5l ep] at hx
  have:x=p:=by simpa using hx
  subst this
  cases eq:al[ia]? with
  | none =>
    rw [List.getElem?_eq_none_iff] at eq
    rw [List.drop_eq_nil_of_le eq] at hy;cases hy
  | some q=>exact o.trans (o.lt (hq q eq)) (z8a o sa eq hy)
theorem MI.pushA (o:Od R) (h:MI R al bl out ia ib) (sa:al.Pairwise (Le R)) (sb:bl.Pairwise (Le R)) {q:Keyed} (eq:al[ia]?=some q) (hp:∀ p,bl[ib]?=some p→Le R q p):MI R al bl (out++[q]) (ia+1) ib:=by
  rw [← z5l eq]
  refine h.blockA sa fun x hx y hy=>?_
  rw [z5l eq] at hx
  have:x=q:=by simpa using hx
  subst this
  cases ep:bl[ib]? with
  | none =>
    rw [List.getElem?_eq_none_iff] at ep
    rw [List.drop_eq_nil_of_le ep] at hy;cases hy
  | some p=>exact o.trans (hp p ep) (z8a o sb ep hy)
theorem MI.galA (o:Od R) (h:MI R al bl out ia ib) (sa:al.Pairwise (Le R)) (sb:bl.Pairwise (Le R)) {p:Keyed} (ep:bl[ib]?=some p) (hk:∀ i a,i<k→al[ia+i]?=some a→Le R a p):MI R al bl (out++(al.drop ia).take k) (ia+k) ib :=
  h.blockA sa fun x hx y hy=>by
    obtain ⟨j,hj,e⟩:=ze5 hx
    exact o.trans (hk j x hj e) (z8a o sb ep hy)
theorem MI.galB (o:Od R) (h:MI R al bl out ia ib) (sa:al.Pairwise (Le R)) (sb:bl.Pairwise (Le R)) {q:Keyed} (eq:al[ia]?=some q) (hk:∀ i b,i<k→bl[ib+i]?=some b→R b q=true):MI R al bl (out++(bl.drop ib).take k) ia (ib+k) :=
  h.blockB sb fun x hx y hy=>by
    obtain ⟨j,hj,e⟩:=ze5 hx
    exact o.trans (o.lt (hk j x hj e)) (z8a o sa eq hy)
theorem MI.done (h:MI R al bl out ia ib) (sa:al.Pairwise (Le R)) (sb:bl.Pairwise (Le R)) (hd:al.length≤ia∨bl.length≤ib):(out++al.drop ia++bl.drop ib).Perm (al++bl)∧(out++al.drop ia++bl.drop ib).Pairwise (Le R):=by
  refine ⟨by rw [List.append_assoc];exact h.perm,?_⟩
  rcases hd with hd | hd
  · rw [List.drop_eq_nil_of_le hd,List.append_nil,List.pairwise_append]
    exact ⟨h.srt,z9x sb,h.lb⟩
  · rw [List.drop_eq_nil_of_le hd,List.append_nil,List.pairwise_append]
    exact ⟨h.srt,z9x sa,h.la⟩
theorem MI.last (h:MI R al bl out ia ib) (sb:bl.Pairwise (Le R)) (h1:ia+1=al.length) (hl:∀ x,al[ia]?=some x→∀ y∈bl,Le R y x):(out++bl.drop ib++al.drop ia).Perm (al++bl)∧(out++bl.drop ib++al.drop ia).Pairwise (Le R):=by
  obtain ⟨x,ex⟩:∃ x,al[ia]?=some x:=⟨_,List.getElem?_eq_getElem (by omega)⟩
  have hx:al.drop ia=[x]:=by
    rw [← z5l ex]
    exact (List.take_of_length_le (by simp;omega)).symm
  refine ⟨?_,?_⟩
  · refine List.Perm.trans ?_ h.perm
    rw [List.append_assoc]
    exact List.Perm.append_left _ List.perm_append_comm
  · rw [List.pairwise_append,List.pairwise_append]
    refine ⟨⟨h.srt,z9x sb,h.lb⟩,by rw [hx];simp,fun y hy z hz=>?_⟩
    rcases List.mem_append.mp hy with hy | hy
    · exact h.la y hy z hz
    · rw [hx] at hz
      have:z=x:=by simpa using hz
      subst this
      exact hl z ex y (List.mem_of_mem_drop hy)
theorem z7y (o:Od R) {x:Array Keyed} (h:x.toList.Pairwise (Le R)) {i j:Nat}:Seg R x i j:=fun p q a b h1 h2 h3 e1 e2=>by
  by_cases hpq:p=q
  · subst hpq;rw [e1] at e2;cases e2;exact o.refl a
  · obtain ⟨hp,e1⟩:=Array.getElem?_eq_some_iff.mp e1
    obtain ⟨hq,e2⟩:=Array.getElem?_eq_some_iff.mp e2
    have:=List.pairwise_iff_getElem.mp h p q (by simpa using hp) (by simpa using hq) (by omega)
    simpa [e1,e2] using this
end
structure Ke (st st':SortSt):Prop where
  arr:arrOf st'=arrOf st
  kind:kindOf st'=kindOf st
  failed:failedOf st'=failedOf st
  pend:pendingOf st'=pendingOf st
theorem Ke.refl {st:SortSt}:Ke st st:=⟨rfl,rfl,rfl,rfl⟩
section
variable {prog:Program} {w:World} {A:Around} {E:Value→Shared→Prop} {s:Shared} {kd:SortKind} {st st0:SortSt} {Gd:Keyed→Prop} {R:Keyed→Keyed→Bool}
theorem zac {g:Nat} {Q:Unit→SortSt→Prop} (hK:Ke st0 st) (h:∀ st',Ke st0 st'→Q () st'):wpS (model prog w) A E s (z0j g) Q st:=by
  rw [z7a]
  exact wpS_modify (h _ ⟨hK.arr,hK.kind,hK.failed,hK.pend⟩)
theorem z3n {x:Array Keyed} {i:Nat} {p:Keyed} (h:x[i]?=some p):p∈x.toList:=by
  obtain ⟨hi,e⟩:=Array.getElem?_eq_some_iff.mp h
  rw [← e];simp
theorem z8p {x:Array Keyed} {i:Nat} {p:Keyed} (h:x[i]?=some p):x.toList[i]?=some p:=by rw [Array.getElem?_toList];exact h
theorem z7f {x:Array Keyed} {i:Nat} {p:Keyed} (h:x.toList[i]?=some p):x[i]?=some p:=by rw [Array.getElem?_toList] at h;exact h
theorem zlb {x:Array Keyed} {i k:Nat}:(x.extract i (i+k)).toList=(x.toList.drop i).take k:=by
  rw [Array.toList_extract,List.extract_eq_take_drop,Nat.add_sub_cancel_left]
theorem zdt {x:Array Keyed} {i:Nat}:(x.extract i x.size).toList=x.toList.drop i:=by
  rw [Array.toList_extract,List.extract_eq_take_drop]
  exact List.take_of_length_le (by simp)
noncomputable abbrev zrl:=ForInStep (Option (Array Keyed)×Array Keyed×Nat×Nat×Nat×Nat×Nat)
noncomputable def zja (a b:Array Keyed) (mg k:Nat) (out:Array Keyed) (ia ib k2:Nat):StateT SortSt Sem zrl:=elem' a ia >>= fun q =>
  if (ia+1+1==a.size)=true then pure (.done (some (out.push q++b.extract ib b.size++a.extract (ia+1) a.size),out.push q,ia+1,ib,mg,k,k2))
  else if (decide (k<7)&&decide (k2<7))=true then pure (.done (none,out.push q,ia+1,ib,mg,k,k2)) else pure (.yield (none,out.push q,ia+1,ib,mg,k,k2))
noncomputable def zjb (a b:Array Keyed) (mg k bc:Nat) (out:Array Keyed) (ia ib:Nat):StateT SortSt Sem zrl:=elem' b ib >>= fun p =>
  if (ib+1==b.size)=true then pure (.done (some (out.push p++a.extract ia a.size++b.extract (ib+1) b.size),out.push p,ia,ib+1,mg,k,bc))
  else elem' a ia >>= fun q=>z34 true q b (ib+1) (b.size - (ib+1)) 0 >>= fun x=>match x with
    | some k2=>if k2 > 0 then (if (ib+1+k2==b.size)=true then pure (.done (some (out.push p++b.extract (ib+1) (ib+1+k2)++a.extract ia a.size++b.extract (ib+1+k2) b.size),out.push p++b.extract (ib+1) (ib+1+k2),ia,ib+1+k2,mg,k,k2))
        else zja a b mg k (out.push p++b.extract (ib+1) (ib+1+k2)) ia (ib+1+k2) k2)
      else zja a b mg k (out.push p) ia (ib+1) k2
    | _=>pure (.done (some (out.push p++a.extract ia a.size++b.extract (ib+1) b.size),out.push p,ia,ib+1,mg,k,bc))
noncomputable def zb9 (a b:Array Keyed) (out:Array Keyed) (ia ib ac bc mg:Nat):StateT SortSt Sem zrl:=z0j mg >>= fun _=>elem' b ib >>= fun p=>z34 false p a ia (a.size - ia) 0 >>= fun x=>match x with
  | some k=>if k > 0 then (if (ia+k+1==a.size)=true then pure (.done (some (out++a.extract ia (ia+k)++b.extract ib b.size++a.extract (ia+k) a.size),out++a.extract ia (ia+k),ia+k,ib,mg,k,bc))
      else if (ia+k==a.size)=true then pure (.done (some (out++a.extract ia (ia+k)++a.extract (ia+k) a.size++b.extract ib b.size),out++a.extract ia (ia+k),ia+k,ib,mg,k,bc))
      else zjb a b mg k bc (out++a.extract ia (ia+k)) (ia+k) ib)
    else zjb a b mg k bc out ia ib
  | _=>pure (.done (some (out++a.extract ia a.size++b.extract ib b.size),out,ia,ib,mg,ac,bc))
noncomputable abbrev zve:=ForInStep (Option (Array Keyed)×Array Keyed×Nat×Nat×Nat×Nat)
noncomputable abbrev zub:=Option (Array Keyed)×Array Keyed×Nat×Nat×Nat
noncomputable def zoz (a b:Array Keyed) (mg:Nat) (out:Array Keyed) (ia ib ac bc:Nat):StateT SortSt Sem zve:=elem' b ib >>= fun p=>elem' a ia >>= fun q=>lt' p q >>= fun x=>match x with
  | some bw=>if bw=true then (elem' b ib >>= fun p=>if (ib+1==b.size)=true then pure (.done (some (out.push p++a.extract ia a.size++b.extract (ib+1) b.size),out.push p,ia,ib+1,0,bc+1))
        else if bc+1≥mg then pure (.done (none,out.push p,ia,ib+1,0,bc+1)) else pure (.yield (none,out.push p,ia,ib+1,0,bc+1)))
      else (elem' a ia >>= fun q=>if (ia+1+1==a.size)=true then pure (.done (some (out.push q++b.extract ib b.size++a.extract (ia+1) a.size),out.push q,ia+1,ib,ac+1,0))
        else if ac+1≥mg then pure (.done (none,out.push q,ia+1,ib,ac+1,0)) else pure (.yield (none,out.push q,ia+1,ib,ac+1,0)))
  | _=>pure (.done (some (out++a.extract ia a.size++b.extract ib b.size),out,ia,ib,ac,bc))
noncomputable def zoy (a b:Array Keyed) (mg:Nat) (r:Option (Array Keyed)×Array Keyed×Nat×Nat×Nat×Nat):StateT SortSt Sem (ForInStep zub):=match r.1 with
  | some x=>pure (.done (some x,r.2.1,r.2.2.1,r.2.2.2.1,mg))
  | none=>liftM (rule "list.sort.gallop") >>= fun _=>forIn [:a.size+b.size] (none,r.2.1,r.2.2.1,r.2.2.2.1,mg+1,r.2.2.2.2.1,r.2.2.2.2.2) (fun _ t=>if t.2.2.2.2.1 > 1 then zb9 a b t.2.1 t.2.2.1 t.2.2.2.1 t.2.2.2.2.2.1 t.2.2.2.2.2.2 (t.2.2.2.2.1 - 1) else zb9 a b t.2.1 t.2.2.1 t.2.2.2.1 t.2.2.2.2.2.1 t.2.2.2.2.2.2 t.2.2.2.2.1) >>= fun u=>match u.1 with
    | some x=>pure (.done (some x,u.2.1,u.2.2.1,u.2.2.2.1,u.2.2.2.2.1))
    | none=>z0j (u.2.2.2.2.1+1) >>= fun _=>pure (.yield (none,u.2.1,u.2.2.1,u.2.2.2.1,u.2.2.2.2.1+1))
noncomputable def zow (a b:Array Keyed) (out:Array Keyed) (ia ib mg:Nat):StateT SortSt Sem (ForInStep zub):=forIn [:a.size+b.size] (none,out,ia,ib,0,0) (fun _ r=>zoz a b mg r.2.1 r.2.2.1 r.2.2.2.1 r.2.2.2.2.1 r.2.2.2.2.2) >>= fun r=>zoy a b mg r
noncomputable def zox (a b:Array Keyed):StateT SortSt Sem (Array Keyed):=liftM (rule "list.sort.merge-lo") >>= fun _=>elem' b 0 >>= fun q=>if (1==b.size)=true then pure (#[q]++a.extract 0 a.size++b.extract 1 b.size)
  else if (0+1==a.size)=true then pure (#[q]++b.extract 1 b.size++a.extract 0 a.size)
  else get >>= fun g=>forIn [:a.size+b.size] (none,#[q],0,1,gallopOf g) (fun _ r=>zow a b r.2.1 r.2.2.1 r.2.2.2.1 r.2.2.2.2) >>= fun r=>match r.1 with
    | some x=>pure x
    | none=>liftM (unsupported "internal:list.sort.merge-bound")
theorem z2q {α β:Type} {x x':StateT SortSt Sem α} {f f':α→StateT SortSt Sem β} (h:x=x') (h2:∀ u,f u=f' u):(x >>= f)=(x' >>= f'):=by rw [h,funext h2]
theorem zdr {β:Type} {r:Std.Legacy.Range} {i:β} {f f':Nat→β→StateT SortSt Sem (ForInStep β)} (h:∀ x u,f x u=f' x u):forIn r i f=forIn r i f':=by rw [funext fun x=>funext (h x)]
theorem zhe (a b:Array Keyed):z7j a b=zox a b:=by
  rw [zd5]
  refine z2q rfl fun _=>z2q rfl fun q=>?_
  refine ite_congr rfl (fun _=>rfl) fun _=>ite_congr rfl (fun _=>rfl) fun _=>z2q rfl fun g=>z2q (zdr fun x r=>?_) fun u=>?_
  · refine z2q rfl fun r2=>?_
    rcases r2 with ⟨_ | x,y⟩
    · refine z2q rfl fun _=>z2q rfl fun u=>?_
      rcases u with ⟨_ | x,y⟩ <;> rfl
    · rfl
  · rcases u with ⟨_ | x,y⟩ <;> rfl
structure LoH (R:Keyed→Keyed→Bool) (a b:Array Keyed):Prop where
  dn:∀ (out:Array Keyed) (i j:Nat),MI R a.toList b.toList out.toList i j→(a.size≤i∨b.size≤j)→Mg R a.toList b.toList (out++a.extract i a.size++b.extract j b.size)
  la:∀ (out:Array Keyed) (i j:Nat),MI R a.toList b.toList out.toList i j→i+1=a.size→Mg R a.toList b.toList (out++b.extract j b.size++a.extract i a.size)
  pB:∀ {out:Array Keyed} {ia ib:Nat} {p:Keyed},MI R a.toList b.toList out.toList ia ib→b[ib]?=some p→(∀ q,a[ia]?=some q→R p q=true)→MI R a.toList b.toList (out.push p).toList ia (ib+1)
  pA:∀ {out:Array Keyed} {ia ib:Nat} {q:Keyed},MI R a.toList b.toList out.toList ia ib→a[ia]?=some q→(∀ p,b[ib]?=some p→Le R q p)→MI R a.toList b.toList (out.push q).toList (ia+1) ib
  gA:∀ {out:Array Keyed} {ia ib k:Nat} {p:Keyed},MI R a.toList b.toList out.toList ia ib→b[ib]?=some p→(∀ i x,i<k→a[ia+i]?=some x→By R false p x=true)→MI R a.toList b.toList (out++a.extract ia (ia+k)).toList (ia+k) ib
  gB:∀ {out:Array Keyed} {ia ib k:Nat} {q:Keyed},MI R a.toList b.toList out.toList ia ib→a[ia]?=some q→(∀ i x,i<k→b[ib+i]?=some x→By R true q x=true)→MI R a.toList b.toList (out++b.extract ib (ib+k)).toList ia (ib+k)
structure LoQ (R:Keyed→Keyed→Bool) (a b:Array Keyed) (st0:SortSt) (z:Nat) (Q:zrl→SortSt→Prop):Prop where
  d:∀ r y st',Ke st0 st'→Mg R a.toList b.toList r→Q (.done (some r,y)) st'
  n:∀ out ia ib mg ac bc st',Ke st0 st'→MI R a.toList b.toList out.toList ia ib→ia+2≤a.size→ib+1≤b.size→z+1≤ia+ib→Q (.done (none,out,ia,ib,mg,ac,bc)) st'
  y:∀ out ia ib mg ac bc st',Ke st0 st'→MI R a.toList b.toList out.toList ia ib→ia+2≤a.size→ib+1≤b.size→z+1≤ia+ib→Q (.yield (none,out,ia,ib,mg,ac,bc)) st'
section
variable {a b out:Array Keyed} {ia ib mg k k2 ac bc z:Nat} {Q:zrl→SortSt→Prop}
theorem zl5 (H:LoH R a b) (K:LoQ R a b st0 z Q) {q:Keyed} (hK:Ke st0 st) (hq:a[ia]?=some q) (ho:MI R a.toList b.toList out.toList ia ib) (hle:∀ p,b[ib]?=some p→Le R q p) (i1:ia+2≤a.size) (i2:ib+1≤b.size) (i3:z≤ia+ib):wpS (model prog w) A E s (zja a b mg k out ia ib k2) Q st:=by
  unfold zja
  refine wpS_bind (z0q (by omega) fun p4 hp4=>?_)
  rw [hq] at hp4;cases hp4
  have ho4:=H.pA ho hq hle
  refine z0d (fun e5=>wpS_pure (K.d _ _ _ hK (H.la _ _ _ ho4 (by simpa using e5)))) (fun e5=>?_)
  simp only [beq_iff_eq] at e5
  have j1:ia+1+2≤a.size:=by omega
  have j2:z+1≤ia+1+ib:=by omega
  exact z0d (fun e6=>wpS_pure (K.n _ _ _ _ _ _ _ hK ho4 j1 i2 j2)) (fun e6=>wpS_pure (K.y _ _ _ _ _ _ _ hK ho4 j1 i2 j2))
theorem zl6 (o:Od R) (L:LtOk prog w A E s kd Gd R) (hk0:kindOf st0=kd) (ga:∀ p∈a.toList,Gd p) (gb:∀ p∈b.toList,Gd p) (sb:b.toList.Pairwise (Le R)) (H:LoH R a b) (K:LoQ R a b st0 z Q) {p:Keyed} (hK:Ke st0 st) (hp:b[ib]?=some p) (ho:MI R a.toList b.toList out.toList ia ib) (hR:∀ q,a[ia]?=some q→R p q=true) (i1:ia+2≤a.size) (i2:ib+1≤b.size) (i3:z≤ia+ib):wpS (model prog w) A E s (zjb a b mg k bc out ia ib) Q st:=by
  unfold zjb
  refine wpS_bind (z0q (by omega) fun p2 hp2=>?_)
  rw [hp] at hp2;cases hp2
  have ho2:=H.pB ho hp hR
  refine z0d (fun e2=>wpS_pure (K.d _ _ _ hK (H.dn _ _ _ ho2 (.inr (by simp only [beq_iff_eq] at e2;omega))))) (fun e2=>?_)
  simp only [beq_iff_eq] at e2
  refine wpS_bind (z0q (by omega) fun p3 hp3=>?_)
  refine wpS_bind (z4c o L (hK.kind.trans hk0) (ga p3 (z3n hp3)) gb (by omega) (by omega) (z7y o sb) fun k2 hk2 kt2 kf2=>?_)
  dsimp only
  refine z0d (fun ek2=>?_) (fun ek2=>?_)
  · have ho3:=H.gB ho2 hp3 kt2
    refine z0d (fun e3=>wpS_pure (K.d _ _ _ hK (H.dn _ _ _ ho3 (.inr (by simp only [beq_iff_eq] at e3;omega))))) (fun e3=>?_)
    simp only [beq_iff_eq] at e3
    exact zl5 H K hK hp3 ho3 (fun b' e=>by
      have:=kf2 k2 b' (Nat.le_refl _) (by omega) e
      simpa [By,Le] using this) i1 (by omega) (by omega)
  · have hk20:k2=0:=by omega
    subst hk20
    exact zl5 H K hK hp3 ho2 (fun b' e=>by
      have:=kf2 0 b' (Nat.le_refl _) (by omega) e
      simpa [By,Le] using this) i1 (by omega) (by omega)
theorem zl7 (o:Od R) (L:LtOk prog w A E s kd Gd R) (hk0:kindOf st0=kd) (ga:∀ p∈a.toList,Gd p) (gb:∀ p∈b.toList,Gd p) (sa:a.toList.Pairwise (Le R)) (sb:b.toList.Pairwise (Le R)) (H:LoH R a b) (K:LoQ R a b st0 z Q) (hK:Ke st0 st) (ho:MI R a.toList b.toList out.toList ia ib) (i1:ia+2≤a.size) (i2:ib+1≤b.size) (i3:z≤ia+ib):wpS (model prog w) A E s (zb9 a b out ia ib ac bc mg) Q st:=by
  unfold zb9
  refine wpS_bind (zac hK fun st4 hK4=>?_)
  refine wpS_bind (z0q (by omega) fun p hp=>?_)
  refine wpS_bind (z4c o L (hK4.kind.trans hk0) (gb p (z3n hp)) ga (by omega) (by omega) (z7y o sa) fun k hk kt kf=>?_)
  dsimp only
  refine z0d (fun ek=>?_) (fun ek=>?_)
  · have ho1:=H.gA ho hp kt
    refine z0d (fun e1=>wpS_pure (K.d _ _ _ hK4 (H.la _ _ _ ho1 (by simpa using e1)))) (fun e1=>?_)
    refine z0d (fun e0=>wpS_pure (K.d _ _ _ hK4 (H.dn _ _ _ ho1 (.inl (by simp only [beq_iff_eq] at e0;omega))))) (fun e0=>?_)
    simp only [beq_iff_eq] at e1 e0
    exact zl6 o L hk0 ga gb sb H K hK4 hp ho1 (fun q e=>by
      have:=kf k q (Nat.le_refl _) (by omega) e
      simpa [By] using this) (by omega) i2 (by omega)
  · have hk0':k=0:=by omega
    subst hk0'
    exact zl6 o L hk0 ga gb sb H K hK4 hp ho (fun q e=>by
      have:=kf 0 q (Nat.le_refl _) (by omega) e
      simpa [By] using this) i1 i2 i3
theorem zp4 (o:Od R) (L:LtOk prog w A E s kd Gd R) (hk0:kindOf st0=kd) (ga:∀ p∈a.toList,Gd p) (gb:∀ p∈b.toList,Gd p) (sa:a.toList.Pairwise (Le R)) (sb:b.toList.Pairwise (Le R)) (H:LoH R a b) (K:LoQ R a b st0 z Q) (hK:Ke st0 st) (ho:MI R a.toList b.toList out.toList ia ib) (i1:ia+2≤a.size) (i2:ib+1≤b.size) (i3:z≤ia+ib):wpS (model prog w) A E s (if mg > 1 then zb9 a b out ia ib ac bc (mg - 1) else zb9 a b out ia ib ac bc mg) Q st :=
  z0d (fun _=>zl7 o L hk0 ga gb sa sb H K hK ho i1 i2 i3) (fun _=>zl7 o L hk0 ga gb sa sb H K hK ho i1 i2 i3)
end
set_option maxHeartbeats 8000000 in
theorem zew (o:Od R) (L:LtOk prog w A E s kd Gd R) {a b:Array Keyed} {Q:Array Keyed→SortSt→Prop} (hk0:kindOf st=kd) (ga:∀ p∈a.toList,Gd p) (gb:∀ p∈b.toList,Gd p) (h1:1≤a.size) (h2:1≤b.size) (sa:a.toList.Pairwise (Le R)) (sb:b.toList.Pairwise (Le R))
    (h0:∀ p q,b[0]?=some p→a[0]?=some q→R p q=true) (hl:∀ x,a[a.size - 1]?=some x→∀ y∈b.toList,Le R y x)
    (h:∀ r st',Ke st st'→Mg R a.toList b.toList r→Q r st'):wpS (model prog w) A E s (z7j a b) Q st:=by
  rw [zhe]
  unfold zox
  refine wpS_bind (wpS_lift (wpAny_rule ⟨rfl,?_⟩))
  refine wpS_bind (z0q (by omega) fun q0 hq0=>?_)
  have dn:∀ (out:Array Keyed) (i j:Nat),MI R a.toList b.toList out.toList i j→(a.size≤i∨b.size≤j)→Mg R a.toList b.toList (out++a.extract i a.size++b.extract j b.size):=fun out i j hm hd=>by
    unfold Mg
    rw [Array.toList_append,Array.toList_append,zdt,zdt]
    exact hm.done sa sb (by simpa using hd)
  have la:∀ (out:Array Keyed) (i j:Nat),MI R a.toList b.toList out.toList i j→i+1=a.size→Mg R a.toList b.toList (out++b.extract j b.size++a.extract i a.size):=fun out i j hm hd=>by
    unfold Mg
    rw [Array.toList_append,Array.toList_append,zdt,zdt]
    exact hm.last sb (by simpa using hd) fun x ex=>hl x (by rw [show a.size - 1=i by omega];exact z7f ex)
  have g0:MI R a.toList b.toList (#[q0]:Array Keyed).toList 0 1:=(MI.zero (R:=R)).pushB o sa sb (z8p hq0) fun q eq=>h0 q0 q hq0 (z7f eq)
  have pB:∀ {out:Array Keyed} {ia ib:Nat} {p:Keyed},MI R a.toList b.toList out.toList ia ib→b[ib]?=some p→(∀ q,a[ia]?=some q→R p q=true)→MI R a.toList b.toList (out.push p).toList ia (ib+1):=fun hm e hq=>by
    rw [Array.toList_push]
    exact hm.pushB o sa sb (z8p e) fun q eq=>hq q (z7f eq)
  have pA:∀ {out:Array Keyed} {ia ib:Nat} {q:Keyed},MI R a.toList b.toList out.toList ia ib→a[ia]?=some q→(∀ p,b[ib]?=some p→Le R q p)→MI R a.toList b.toList (out.push q).toList (ia+1) ib:=fun hm e hp=>by
    rw [Array.toList_push]
    exact hm.pushA o sa sb (z8p e) fun p ep=>hp p (z7f ep)
  have gA:∀ {out:Array Keyed} {ia ib k:Nat} {p:Keyed},MI R a.toList b.toList out.toList ia ib→b[ib]?=some p→(∀ i x,i<k→a[ia+i]?=some x→By R false p x=true)→MI R a.toList b.toList (out++a.extract ia (ia+k)).toList (ia+k) ib:=fun hm e hk=>by
    rw [Array.toList_append,zlb]
    exact hm.galA o sa sb (z8p e) fun i x hi ex=>by
      have:=hk i x hi (z7f ex)
      simpa [By,Le] using this
  have gB:∀ {out:Array Keyed} {ia ib k:Nat} {q:Keyed},MI R a.toList b.toList out.toList ia ib→a[ia]?=some q→(∀ i x,i<k→b[ib+i]?=some x→By R true q x=true)→MI R a.toList b.toList (out++b.extract ib (ib+k)).toList ia (ib+k):=fun hm e hk=>by
    rw [Array.toList_append,zlb]
    exact hm.galB o sa sb (z8p e) fun i x hi ex=>by
      have:=hk i x hi (z7f ex)
      simpa [By] using this
  by_cases e1:1=b.size
  · rw [if_pos (by simpa using e1)]
    exact wpS_pure (h _ _ .refl (dn _ _ _ g0 (.inr (by omega))))
  rw [if_neg (by simpa using e1)]
  by_cases e2:0+1=a.size
  · rw [if_pos (by simpa using e2)]
    exact wpS_pure (h _ _ .refl (la _ _ _ g0 e2))
  rw [if_neg (by simpa using e2)]
  refine wpS_bind (wpS_get ?_)
  refine wpS_bind (wpS_mono (wpS_forRange (I:=fun x c st'=>∃ out ia ib mg,c=(none,out,ia,ib,mg)∧Ke st st'∧MI R a.toList b.toList out.toList ia ib∧ia+2≤a.size∧ib+1≤b.size∧1+x≤ia+ib)
    (Q:=fun c st'=>∃ r y,c=(some r,y)∧Ke st st'∧Mg R a.toList b.toList r) ?step ?fin ⟨_,_,_,_,rfl,.refl,g0,by omega,by omega,by omega⟩) ?post)
  case post =>
    rintro c st' ⟨r,y,rfl,hK,hr⟩
    exact wpS_pure (h r st' hK hr)
  case fin =>
    rintro c st' ⟨out,ia,ib,mg,rfl,hK,ho,i1,i2,i3⟩
    omega
  case step =>
    rintro x c st1 _ hx ⟨out,ia,ib,mg,rfl,hK1,ho,i1,i2,i3⟩
    dsimp only
    unfold zow
    refine wpS_bind (wpS_mono (wpS_forRange (I:=fun y c st'=>∃ out ia ib ac bc,c=(none,out,ia,ib,ac,bc)∧Ke st st'∧MI R a.toList b.toList out.toList ia ib∧ia+2≤a.size∧ib+1≤b.size∧1+x≤ia+ib)
      (Q:=fun c st'=>(∃ r y,c=(some r,y)∧Ke st st'∧Mg R a.toList b.toList r)∨(∃ out ia ib ac bc,c=(none,out,ia,ib,ac,bc)∧Ke st st'∧MI R a.toList b.toList out.toList ia ib∧ia+2≤a.size∧ib+1≤b.size∧1+x≤ia+ib)) ?istep ?ifin ⟨_,_,_,_,_,rfl,hK1,ho,i1,i2,i3⟩) ?ipost)
    case ifin=>exact fun c st' z=>.inr z
    case istep =>
      rintro y c st2 _ hy ⟨out,ia,ib,ac,bc,rfl,hK2,ho,i1,i2,i3⟩
      dsimp only
      unfold zoz
      refine wpS_bind (z0q (by omega) fun p hp=>wpS_bind (z0q (by omega) fun q hq=>wpS_bind (L st2 p q _ (hK2.kind.trans hk0) (gb _ (z3n hp)) (ga _ (z3n hq)) ?_)))
      cases hR:R p q with
      | true =>
        dsimp only
        rw [if_pos rfl]
        refine wpS_bind (z0q (by omega) fun p2 hp2=>?_)
        rw [hp] at hp2;cases hp2
        have go:=pB ho hp (fun q' e=>by rw [hq] at e;cases e;exact hR)
        by_cases e3:ib+1=b.size
        · rw [if_pos (by simpa using e3)]
          exact wpS_pure (.inl ⟨_,_,rfl,hK2,dn _ _ _ go (.inr (by omega))⟩)
        rw [if_neg (by simpa using e3)]
        have jj:ia+2≤a.size∧ib+1+1≤b.size∧1+x≤ia+(ib+1):=⟨i1,by omega,Nat.le_trans i3 (Nat.le_succ _)⟩
        exact z0d (fun _=>wpS_pure (.inr ⟨_,_,_,_,_,rfl,hK2,go,jj⟩)) (fun _=>wpS_pure ⟨_,_,_,_,_,rfl,hK2,go,jj⟩)
      | false =>
        dsimp only
        rw [if_neg Bool.false_ne_true]
        refine wpS_bind (z0q (by omega) fun q2 hq2=>?_)
        rw [hq] at hq2;cases hq2
        have go:=pA ho hq (fun p' e=>by rw [hp] at e;cases e;exact hR)
        by_cases e3:ia+1+1=a.size
        · rw [if_pos (by simpa using e3)]
          exact wpS_pure (.inl ⟨_,_,rfl,hK2,la _ _ _ go e3⟩)
        rw [if_neg (by simpa using e3)]
        have jj:ia+1+2≤a.size∧ib+1≤b.size∧1+x≤ia+1+ib:=⟨by omega,i2,by omega⟩
        exact z0d (fun _=>wpS_pure (.inr ⟨_,_,_,_,_,rfl,hK2,go,jj⟩)) (fun _=>wpS_pure ⟨_,_,_,_,_,rfl,hK2,go,jj⟩)
    case ipost =>
      rintro c st2 (⟨r,y,rfl,hK2,hr⟩ | ⟨out,ia,ib,ac,bc,rfl,hK2,ho,i1,i2,i3⟩)
      · exact wpS_pure ⟨_,_,rfl,hK2,hr⟩
      unfold zoy
      dsimp only
      refine wpS_bind (wpS_lift (wpAny_rule ⟨rfl,?_⟩))
      refine wpS_bind (wpS_mono (wpS_forRange (I:=fun y c st'=>∃ out ia ib mg ac bc,c=(none,out,ia,ib,mg,ac,bc)∧Ke st st'∧MI R a.toList b.toList out.toList ia ib∧ia+2≤a.size∧ib+1≤b.size∧1+x+y≤ia+ib)
        (Q:=fun c st'=>(∃ r y,c=(some r,y)∧Ke st st'∧Mg R a.toList b.toList r)∨(∃ out ia ib mg ac bc,c=(none,out,ia,ib,mg,ac,bc)∧Ke st st'∧MI R a.toList b.toList out.toList ia ib∧ia+2≤a.size∧ib+1≤b.size∧1+(x+1)≤ia+ib)) ?jstep ?jfin ⟨_,_,_,_,_,_,rfl,hK2,ho,i1,i2,i3⟩) ?jpost)
      case jfin =>
        rintro c st' ⟨out,ia,ib,mg,ac,bc,rfl,q1,q2,q3,q4,q5⟩
        exact .inr ⟨_,_,_,_,_,_,rfl,q1,q2,q3,q4,by omega⟩
      case jpost =>
        rintro c st3 (⟨r,y,rfl,hK3,hr⟩ | ⟨out,ia,ib,mg,ac,bc,rfl,hK3,ho,i1,i2,i3⟩)
        · exact wpS_pure ⟨_,_,rfl,hK3,hr⟩
        dsimp only
        exact wpS_bind (zac hK3 fun st4 hK4=>wpS_pure ⟨_,_,_,_,rfl,hK4,ho,i1,i2,by omega⟩)
      case jstep =>
        rintro y c st3 _ hy ⟨out,ia,ib,mg,ac,bc,rfl,hK3,ho,i1,i2,i3⟩
        change wpS (model prog w) A E s (if mg > 1 then zb9 a b out ia ib ac bc (mg - 1) else zb9 a b out ia ib ac bc mg) _ _
        refine zp4 (z:=1+x+y) o L hk0 ga gb sa sb ⟨dn,la,pB,pA,gA,gB⟩ ?_ hK3 ho i1 i2 i3
        exact ⟨fun r y st' hK hr=>.inl ⟨_,_,rfl,hK,hr⟩,fun _ _ _ _ _ _ _ hK ho i1 i2 i3=>.inr ⟨_,_,_,_,_,_,rfl,hK,ho,i1,i2,by omega⟩,fun _ _ _ _ _ _ _ hK ho i1 i2 i3=>⟨_,_,_,_,_,_,rfl,hK,ho,i1,i2,by omega⟩⟩
end
structure MH (R:Keyed→Keyed→Bool) (al bl out:List Keyed) (na nb:Nat):Prop where
  perm:(al.take na++bl.take nb++out.reverse).Perm (al++bl)
  srt:out.reverse.Pairwise (Le R)
  la:∀ x∈out,∀ y∈al.take na,Le R y x
  lb:∀ x∈out,∀ y∈bl.take nb,Le R y x
section
variable {R:Keyed→Keyed→Bool} {al bl out:List Keyed} {na nb k:Nat}
theorem MH.zero:MH R al bl [] al.length bl.length:=⟨by simp,.nil,fun _ h=>(nomatch h),fun _ h=>(nomatch h)⟩
theorem zm1 {l:List Keyed} (h:k≤na):l.take k++(l.take na).drop k=l.take na:=by
  have:=List.take_append_drop k (l.take na)
  rw [List.take_take,Nat.min_eq_left h] at this
  exact this
theorem MH.blockA (h:MH R al bl out na nb) (sa:al.Pairwise (Le R)) (hk':k≤na) (hk:∀ x∈(al.take na).drop k,∀ y∈bl.take nb,Le R y x):MH R al bl (out++((al.take na).drop k).reverse) k nb:=by
  have e:=zm1 (l:=al) hk'
  have hp:(al.take na).Pairwise (Le R):=sa.sublist (List.take_sublist na al)
  rw [← e,List.pairwise_append] at hp
  refine ⟨?_,?_,?_,?_⟩
  · have:=h.perm
    rw [← e] at this
    refine List.Perm.trans ?_ this
    rw [List.reverse_append,List.reverse_reverse,← List.append_assoc]
    refine List.Perm.append_right _ ?_
    rw [List.append_assoc,List.append_assoc]
    exact List.Perm.append_left _ List.perm_append_comm
  · rw [List.reverse_append,List.reverse_reverse,List.pairwise_append]
    exact ⟨hp.2.1,h.srt,fun x hx y hy=>h.la y (by simpa using hy) x (by rw [← e];exact List.mem_append_right _ hx)⟩
  · intro x hx y hy
    rcases List.mem_append.mp hx with hx | hx
    · exact h.la x hx y (by rw [← e];exact List.mem_append_left _ hy)
    · exact hp.2.2 y hy x (by simpa using hx)
  · intro x hx y hy
    rcases List.mem_append.mp hx with hx | hx
    · exact h.lb x hx y hy
    · exact hk x (by simpa using hx) y hy
theorem MH.blockB (h:MH R al bl out na nb) (sb:bl.Pairwise (Le R)) (hk':k≤nb) (hk:∀ x∈(bl.take nb).drop k,∀ y∈al.take na,Le R y x):MH R al bl (out++((bl.take nb).drop k).reverse) na k:=by
  have e:=zm1 (l:=bl) hk'
  have hp:(bl.take nb).Pairwise (Le R):=sb.sublist (List.take_sublist nb bl)
  rw [← e,List.pairwise_append] at hp
  refine ⟨?_,?_,?_,?_⟩
  · have:=h.perm
    rw [← e] at this
    rw [List.reverse_append,List.reverse_reverse]
    simpa [List.append_assoc] using this
  · rw [List.reverse_append,List.reverse_reverse,List.pairwise_append]
    exact ⟨hp.2.1,h.srt,fun x hx y hy=>h.lb y (by simpa using hy) x (by rw [← e];exact List.mem_append_right _ hx)⟩
  · intro x hx y hy
    rcases List.mem_append.mp hx with hx | hx
    · exact h.la x hx y hy
    · exact hk x (by simpa using hx) y hy
  · intro x hx y hy
    rcases List.mem_append.mp hx with hx | hx
    · exact h.lb x hx y (by rw [← e];exact List.mem_append_left _ hy)
    · exact hp.2.2 y hy x (by simpa using hx)
theorem z7o {l:List Keyed} {x:Keyed} (h:l[k]?=some x):(l.take (k+1)).drop k=[x]:=by
  obtain ⟨hk,e⟩:=List.getElem?_eq_some_iff.mp h
  rw [List.drop_take]
  have:k+1 - k=1:=by omega
  rw [this]
  exact z5l h
theorem ztt (o:Od R) {l:List Keyed} (s:l.Pairwise (Le R)) {x y:Keyed} (h:l[k]?=some x) (hy:y∈l.take (k+1)):Le R y x:=by
  obtain ⟨hk,e⟩:=List.getElem?_eq_some_iff.mp h
  obtain ⟨j,hj,ej⟩:=List.mem_iff_getElem.mp hy
  rw [List.length_take] at hj
  rw [List.getElem_take] at ej
  by_cases hjk:j=k
  · subst hjk;rw [← e,← ej];exact o.refl _
  · have:=List.pairwise_iff_getElem.mp s j k (by omega) hk (by omega)
    rw [ej,e] at this
    exact this
theorem zd8 {l:List Keyed} {i j:Nat} {x:Keyed} (h:x∈(l.take j).drop i):∃ m,i≤m∧m<j∧l[m]?=some x:=by
  obtain ⟨m,hm,e⟩:=List.mem_iff_getElem.mp h
  rw [List.length_drop,List.length_take] at hm
  rw [List.getElem_drop,List.getElem_take] at e
  exact ⟨i+m,by omega,by omega,by rw [← e];exact List.getElem?_eq_getElem _⟩
theorem zd9 {l:List Keyed} {j:Nat} {x:Keyed} (h:x∈l.take j):∃ m,m<j∧l[m]?=some x:=by
  obtain ⟨m,hm,e⟩:=List.mem_iff_getElem.mp h
  rw [List.length_take] at hm
  rw [List.getElem_take] at e
  exact ⟨m,by omega,by rw [← e];exact List.getElem?_eq_getElem _⟩
theorem MH.pushA (h:MH R al bl out (na+1) nb) (sa:al.Pairwise (Le R)) {q:Keyed} (eq:al[na]?=some q) (hp:∀ y∈bl.take nb,Le R y q):MH R al bl (out++[q]) na nb:=by
  have:=h.blockA sa (k:=na) (by omega) (by
    rw [z7o eq]
    intro x hx y hy
    have:x=q:=by simpa using hx
    subst this
    exact hp y hy)
  rw [z7o eq] at this
  exact this
theorem MH.pushB (h:MH R al bl out na (nb+1)) (sb:bl.Pairwise (Le R)) {p:Keyed} (ep:bl[nb]?=some p) (hq:∀ y∈al.take na,Le R y p):MH R al bl (out++[p]) na nb:=by
  have:=h.blockB sb (k:=nb) (by omega) (by
    rw [z7o ep]
    intro x hx y hy
    have:x=p:=by simpa using hx
    subst this
    exact hq y hy)
  rw [z7o ep] at this
  exact this
theorem MH.done (h:MH R al bl out na nb) (sa:al.Pairwise (Le R)) (sb:bl.Pairwise (Le R)) (hd:na=0∨nb=0):(al.take na++bl.take nb++out.reverse).Perm (al++bl)∧(al.take na++bl.take nb++out.reverse).Pairwise (Le R):=by
  refine ⟨h.perm,?_⟩
  rcases hd with rfl | rfl
  · rw [List.take_zero,List.nil_append,List.pairwise_append]
    exact ⟨sb.sublist (List.take_sublist _ _),h.srt,fun y hy x hx=>h.lb x (by simpa using hx) y hy⟩
  · rw [List.take_zero,List.append_nil,List.pairwise_append]
    exact ⟨sa.sublist (List.take_sublist _ _),h.srt,fun y hy x hx=>h.la x (by simpa using hx) y hy⟩
theorem MH.first (h:MH R al bl out na 1) (sa:al.Pairwise (Le R)) (hf:∀ p,bl[0]?=some p→∀ y∈al,Le R p y):(bl.take 1++al.take na++out.reverse).Perm (al++bl)∧(bl.take 1++al.take na++out.reverse).Pairwise (Le R):=by
  refine ⟨?_,?_⟩
  · refine List.Perm.trans ?_ h.perm
    exact List.Perm.append_right _ List.perm_append_comm
  · rw [List.pairwise_append,List.pairwise_append]
    refine ⟨⟨?_,sa.sublist (List.take_sublist _ _),fun p hp y hy=>?_⟩,h.srt,fun y hy x hx=>?_⟩
    · cases bl with
      | nil=>simp
      | cons b r=>simp
    · obtain ⟨m,hm,e⟩:=zd9 hp
      have:m=0:=by omega
      subst this
      exact hf p e y (List.mem_of_mem_take hy)
    · rcases List.mem_append.mp hy with hy | hy
      · exact h.lb x (by simpa using hx) y hy
      · exact h.la x (by simpa using hx) y hy
end
section
variable {prog:Program} {w:World} {A:Around} {E:Value→Shared→Prop} {s:Shared} {kd:SortKind} {st st0:SortSt} {Gd:Keyed→Prop} {R:Keyed→Keyed→Bool}
theorem z9i {x:Array Keyed} {i j:Nat}:(x.extract i j).toList=(x.toList.take j).drop i:=by
  rw [Array.toList_extract,List.extract_eq_take_drop,List.drop_take]
theorem zds {x:Array Keyed} {j:Nat}:(x.extract 0 j).toList=x.toList.take j:=by
  rw [z9i,List.drop_zero]
noncomputable abbrev zrm:=ForInStep (Option (Array Keyed)×Nat×Nat×Array Keyed×Nat×Nat×Nat)
noncomputable abbrev zvf:=ForInStep (Option (Array Keyed)×Nat×Nat×Array Keyed×Nat×Nat)
noncomputable abbrev zuc:=Option (Array Keyed)×Nat×Nat×Array Keyed×Nat
noncomputable def zjc (a b:Array Keyed) (mg k:Nat) (na nb:Nat) (out:Array Keyed) (k2:Nat):StateT SortSt Sem zrm:=elem' a (na - 1) >>= fun q =>
  if (na - 1==0)=true then pure (.done (some (a.extract 0 (na - 1)++b.extract 0 nb++(out.push q).reverse),na - 1,nb,out.push q,mg,k,k2))
  else if (decide (k<7)&&decide (k2<7))=true then pure (.done (none,na - 1,nb,out.push q,mg,k,k2)) else pure (.yield (none,na - 1,nb,out.push q,mg,k,k2))
noncomputable def zjd (a b:Array Keyed) (mg k bc:Nat) (na nb:Nat) (out:Array Keyed):StateT SortSt Sem zrm:=elem' b (nb - 1) >>= fun p =>
  if (nb - 1==1)=true then pure (.done (some (b.extract 0 (nb - 1)++a.extract 0 na++(out.push p).reverse),na,nb - 1,out.push p,mg,k,bc))
  else elem' a (na - 1) >>= fun q=>z34 true q b 0 (nb - 1) (nb - 1 - 1) >>= fun x=>match x with
    | some t=>if nb - 1 - t > 0 then (if (t==1)=true then pure (.done (some (b.extract 0 t++a.extract 0 na++(out.push p++(b.extract t (nb - 1)).reverse).reverse),na,t,out.push p++(b.extract t (nb - 1)).reverse,mg,k,nb - 1 - t))
        else if (t==0)=true then pure (.done (some (a.extract 0 na++b.extract 0 t++(out.push p++(b.extract t (nb - 1)).reverse).reverse),na,t,out.push p++(b.extract t (nb - 1)).reverse,mg,k,nb - 1 - t))
        else zjc a b mg k na t (out.push p++(b.extract t (nb - 1)).reverse) (nb - 1 - t))
      else zjc a b mg k na (nb - 1) (out.push p) (nb - 1 - t)
    | _=>pure (.done (some (a.extract 0 na++b.extract 0 (nb - 1)++(out.push p).reverse),na,nb - 1,out.push p,mg,k,bc))
noncomputable def zev (a b:Array Keyed) (na nb:Nat) (out:Array Keyed) (ac bc mg:Nat):StateT SortSt Sem zrm:=z0j mg >>= fun _=>elem' b (nb - 1) >>= fun p=>z34 false p a 0 na (na - 1) >>= fun x=>match x with
  | some t=>if na - t > 0 then (if (t==0)=true then pure (.done (some (a.extract 0 t++b.extract 0 nb++(out++(a.extract t na).reverse).reverse),t,nb,out++(a.extract t na).reverse,mg,na - t,bc))
      else zjd a b mg (na - t) bc t nb (out++(a.extract t na).reverse))
    else zjd a b mg (na - t) bc na nb out
  | _=>pure (.done (some (a.extract 0 na++b.extract 0 nb++out.reverse),na,nb,out,mg,ac,bc))
noncomputable def zp3 (a b:Array Keyed) (mg:Nat) (na nb:Nat) (out:Array Keyed) (ac bc:Nat):StateT SortSt Sem zvf:=elem' b (nb - 1) >>= fun p=>elem' a (na - 1) >>= fun q=>lt' p q >>= fun x=>match x with
  | some aw=>if aw=true then (elem' a (na - 1) >>= fun q=>if (na - 1==0)=true then pure (.done (some (a.extract 0 (na - 1)++b.extract 0 nb++(out.push q).reverse),na - 1,nb,out.push q,ac+1,0))
        else if ac+1≥mg then pure (.done (none,na - 1,nb,out.push q,ac+1,0)) else pure (.yield (none,na - 1,nb,out.push q,ac+1,0)))
      else (elem' b (nb - 1) >>= fun p=>if (nb - 1==1)=true then pure (.done (some (b.extract 0 (nb - 1)++a.extract 0 na++(out.push p).reverse),na,nb - 1,out.push p,0,bc+1))
        else if bc+1≥mg then pure (.done (none,na,nb - 1,out.push p,0,bc+1)) else pure (.yield (none,na,nb - 1,out.push p,0,bc+1)))
  | _=>pure (.done (some (a.extract 0 na++b.extract 0 nb++out.reverse),na,nb,out,ac,bc))
noncomputable def zp2 (a b:Array Keyed) (mg:Nat) (r:Option (Array Keyed)×Nat×Nat×Array Keyed×Nat×Nat):StateT SortSt Sem (ForInStep zuc):=match r.1 with
  | some x=>pure (.done (some x,r.2.1,r.2.2.1,r.2.2.2.1,mg))
  | none=>liftM (rule "list.sort.gallop") >>= fun _=>forIn [:a.size+b.size] (none,r.2.1,r.2.2.1,r.2.2.2.1,mg+1,r.2.2.2.2.1,r.2.2.2.2.2) (fun _ t=>if t.2.2.2.2.1 > 1 then zev a b t.2.1 t.2.2.1 t.2.2.2.1 t.2.2.2.2.2.1 t.2.2.2.2.2.2 (t.2.2.2.2.1 - 1) else zev a b t.2.1 t.2.2.1 t.2.2.2.1 t.2.2.2.2.2.1 t.2.2.2.2.2.2 t.2.2.2.2.1) >>= fun u=>match u.1 with
    | some x=>pure (.done (some x,u.2.1,u.2.2.1,u.2.2.2.1,u.2.2.2.2.1))
    | none=>z0j (u.2.2.2.2.1+1) >>= fun _=>pure (.yield (none,u.2.1,u.2.2.1,u.2.2.2.1,u.2.2.2.2.1+1))
noncomputable def zp0 (a b:Array Keyed) (na nb:Nat) (out:Array Keyed) (mg:Nat):StateT SortSt Sem (ForInStep zuc):=forIn [:a.size+b.size] (none,na,nb,out,0,0) (fun _ r=>zp3 a b mg r.2.1 r.2.2.1 r.2.2.2.1 r.2.2.2.2.1 r.2.2.2.2.2) >>= fun r=>zp2 a b mg r
noncomputable def zp1 (a b:Array Keyed):StateT SortSt Sem (Array Keyed):=liftM (rule "list.sort.merge-hi") >>= fun _=>elem' a (a.size - 1) >>= fun q=>if (a.size - 1==0)=true then pure (a.extract 0 (a.size - 1)++b.extract 0 b.size++(#[q]:Array Keyed).reverse)
  else if (b.size==1)=true then pure (b.extract 0 b.size++a.extract 0 (a.size - 1)++(#[q]:Array Keyed).reverse)
  else get >>= fun g=>forIn [:a.size+b.size] (none,a.size - 1,b.size,#[q],gallopOf g) (fun _ r=>zp0 a b r.2.1 r.2.2.1 r.2.2.2.1 r.2.2.2.2) >>= fun r=>match r.1 with
    | some x=>pure x
    | none=>liftM (unsupported "internal:list.sort.merge-bound")
theorem zhf (a b:Array Keyed):z7k a b=zp1 a b:=by
  rw [zd6]
  refine z2q rfl fun _=>z2q rfl fun q=>?_
  refine ite_congr rfl (fun _=>rfl) fun _=>ite_congr rfl (fun _=>rfl) fun _=>z2q rfl fun g=>z2q (zdr fun x r=>?_) fun u=>?_
  · refine z2q rfl fun r2=>?_
    rcases r2 with ⟨_ | x,y⟩
    · refine z2q rfl fun _=>z2q rfl fun u=>?_
      rcases u with ⟨_ | x,y⟩ <;> rfl
    · rfl
  · rcases u with ⟨_ | x,y⟩ <;> rfl
structure HiH (R:Keyed→Keyed→Bool) (a b:Array Keyed):Prop where
  dn:∀ (out:Array Keyed) (i j:Nat),MH R a.toList b.toList out.toList i j→(i=0∨j=0)→Mg R a.toList b.toList (a.extract 0 i++b.extract 0 j++out.reverse)
  la:∀ (out:Array Keyed) (i j:Nat),MH R a.toList b.toList out.toList i j→j=1→Mg R a.toList b.toList (b.extract 0 j++a.extract 0 i++out.reverse)
  pA:∀ {out:Array Keyed} {i j:Nat} {q:Keyed},MH R a.toList b.toList out.toList (i+1) j→a[i]?=some q→(∀ m y,m<j→b[m]?=some y→Le R y q)→MH R a.toList b.toList (out.push q).toList i j
  pB:∀ {out:Array Keyed} {i j:Nat} {p:Keyed},MH R a.toList b.toList out.toList i (j+1)→b[j]?=some p→(∀ m y,m<i→a[m]?=some y→Le R y p)→MH R a.toList b.toList (out.push p).toList i j
  gA:∀ {out:Array Keyed} {i j k:Nat} {p:Keyed},MH R a.toList b.toList out.toList i (j+1)→k≤i→b[j]?=some p→(∀ m x,k≤m→m<i→a[0+m]?=some x→By R false p x=false)→MH R a.toList b.toList (out++(a.extract k i).reverse).toList k (j+1)
  gB:∀ {out:Array Keyed} {i j k:Nat} {q:Keyed},MH R a.toList b.toList out.toList (i+1) j→k≤j→a[i]?=some q→(∀ m x,k≤m→m<j→b[0+m]?=some x→By R true q x=false)→MH R a.toList b.toList (out++(b.extract k j).reverse).toList (i+1) k
structure HiQ (R:Keyed→Keyed→Bool) (a b:Array Keyed) (st0:SortSt) (z:Nat) (Q:zrm→SortSt→Prop):Prop where
  d:∀ r y st',Ke st0 st'→Mg R a.toList b.toList r→Q (.done (some r,y)) st'
  n:∀ na nb out mg ac bc st',Ke st0 st'→MH R a.toList b.toList out.toList na nb→1≤na→na≤a.size→2≤nb→nb≤b.size→na+nb+z+1≤a.size+b.size→Q (.done (none,na,nb,out,mg,ac,bc)) st'
  y:∀ na nb out mg ac bc st',Ke st0 st'→MH R a.toList b.toList out.toList na nb→1≤na→na≤a.size→2≤nb→nb≤b.size→na+nb+z+1≤a.size+b.size→Q (.yield (none,na,nb,out,mg,ac,bc)) st'
section
variable {a b out:Array Keyed} {na nb mg k k2 ac bc z:Nat} {Q:zrm→SortSt→Prop}
theorem zl8 (H:HiH R a b) (K:HiQ R a b st0 z Q) {q:Keyed} (hK:Ke st0 st) (hq:a[na]?=some q) (ho:MH R a.toList b.toList out.toList (na+1) nb) (hle:∀ m y,m<nb→b[m]?=some y→Le R y q) (i2:na+1≤a.size) (i3:2≤nb) (i4:nb≤b.size) (i5:na+1+nb+z≤a.size+b.size):wpS (model prog w) A E s (zjc a b mg k (na+1) nb out k2) Q st:=by
  unfold zjc
  simp only [Nat.add_sub_cancel]
  refine wpS_bind (z0q (by omega) fun p4 hp4=>?_)
  rw [hq] at hp4;cases hp4
  have ho4:=H.pA ho hq hle
  refine z0d (fun e5=>wpS_pure (K.d _ _ _ hK (H.dn _ _ _ ho4 (.inl (by simpa using e5))))) (fun e5=>?_)
  simp only [beq_iff_eq] at e5
  have j1:1≤na:=Nat.pos_of_ne_zero e5
  have j2:=Nat.le_of_succ_le i2
  have j3:na+nb+z+1≤a.size+b.size:=by omega
  exact z0d (fun e6=>wpS_pure (K.n _ _ _ _ _ _ _ hK ho4 j1 j2 i3 i4 j3)) (fun e6=>wpS_pure (K.y _ _ _ _ _ _ _ hK ho4 j1 j2 i3 i4 j3))
theorem zl9 (o:Od R) (L:LtOk prog w A E s kd Gd R) (hk0:kindOf st0=kd) (ga:∀ p∈a.toList,Gd p) (gb:∀ p∈b.toList,Gd p) (sb:b.toList.Pairwise (Le R)) (H:HiH R a b) (K:HiQ R a b st0 z Q) {p:Keyed} (hK:Ke st0 st) (hp:b[nb]?=some p) (ho:MH R a.toList b.toList out.toList (na+1) (nb+1)) (hle:∀ m y,m<na+1→a[m]?=some y→Le R y p) (i2:na+1≤a.size) (i3:2≤nb+1) (i4:nb+1≤b.size) (i5:na+1+(nb+1)+z≤a.size+b.size):wpS (model prog w) A E s (zjd a b mg k bc (na+1) (nb+1) out) Q st:=by
  unfold zjd
  simp only [Nat.add_sub_cancel]
  refine wpS_bind (z0q (by omega) fun p2 hp2=>?_)
  rw [hp] at hp2;cases hp2
  have ho2:=H.pB ho hp hle
  refine z0d (fun e2=>wpS_pure (K.d _ _ _ hK (H.la _ _ _ ho2 (by simpa using e2)))) (fun e2=>?_)
  simp only [beq_iff_eq] at e2
  refine wpS_bind (z0q (by omega) fun p3 hp3=>?_)
  refine wpS_bind (z4c o L (hK.kind.trans hk0) (ga p3 (z3n hp3)) gb (by omega) (by omega) (z7y o sb) fun k2 hk2 kt2 kf2=>?_)
  dsimp only
  have kt2':∀ m y,m<k2→b[m]?=some y→Le R y p3:=fun m y hm ey=>by
    have:=kt2 m y hm (by rw [Nat.zero_add];exact ey)
    exact o.lt (by simpa [By] using this)
  refine z0d (fun ek2=>?_) (fun ek2=>?_)
  · have ho3:=H.gB ho2 hk2 hp3 kf2
    refine z0d (fun e3=>wpS_pure (K.d _ _ _ hK (H.la _ _ _ ho3 (by simpa using e3)))) (fun e3=>?_)
    refine z0d (fun e4=>wpS_pure (K.d _ _ _ hK (H.dn _ _ _ ho3 (.inr (by simpa using e4))))) (fun e4=>?_)
    simp only [beq_iff_eq] at e3 e4
    exact zl8 H K hK hp3 ho3 kt2' i2 (by omega) (by omega) (by omega)
  · have hk20:k2=nb:=by omega
    subst hk20
    exact zl8 H K hK hp3 ho2 kt2' i2 (by omega) (by omega) (by omega)
theorem zla (o:Od R) (L:LtOk prog w A E s kd Gd R) (hk0:kindOf st0=kd) (ga:∀ p∈a.toList,Gd p) (gb:∀ p∈b.toList,Gd p) (sa:a.toList.Pairwise (Le R)) (sb:b.toList.Pairwise (Le R)) (H:HiH R a b) (K:HiQ R a b st0 z Q) (hK:Ke st0 st) (ho:MH R a.toList b.toList out.toList na (nb+1)) (i1:1≤na) (i2:na≤a.size) (i3:2≤nb+1) (i4:nb+1≤b.size) (i5:na+(nb+1)+z≤a.size+b.size):wpS (model prog w) A E s (zev a b na (nb+1) out ac bc mg) Q st:=by
  unfold zev
  simp only [Nat.add_sub_cancel]
  refine wpS_bind (zac hK fun st4 hK4=>?_)
  refine wpS_bind (z0q (by omega) fun p hp=>?_)
  refine wpS_bind (z4c o L (hK4.kind.trans hk0) (gb p (z3n hp)) ga (by omega) (by omega) (z7y o sa) fun k hk kt kf=>?_)
  dsimp only
  have kt':∀ m y,m<k→a[m]?=some y→Le R y p:=fun m y hm ey=>by
    have:=kt m y hm (by rw [Nat.zero_add];exact ey)
    simpa [By,Le] using this
  refine z0d (fun ek=>?_) (fun ek=>?_)
  · have ho1:=H.gA ho hk hp kf
    refine z0d (fun e1=>wpS_pure (K.d _ _ _ hK4 (H.dn _ _ _ ho1 (.inl (by simpa using e1))))) (fun e1=>?_)
    simp only [beq_iff_eq] at e1
    generalize na - k=kk
    obtain ⟨k,rfl⟩:∃ n,k=n+1:=⟨k - 1,by omega⟩
    exact zl9 o L hk0 ga gb sb H K hK4 hp ho1 kt' (by omega) i3 i4 (by omega)
  · have hk0':k=na:=by omega
    subst hk0'
    generalize k - k=kk
    obtain ⟨k,rfl⟩:∃ n,k=n+1:=⟨k - 1,by omega⟩
    exact zl9 o L hk0 ga gb sb H K hK4 hp ho kt' i2 i3 i4 (by omega)
theorem zp5 (o:Od R) (L:LtOk prog w A E s kd Gd R) (hk0:kindOf st0=kd) (ga:∀ p∈a.toList,Gd p) (gb:∀ p∈b.toList,Gd p) (sa:a.toList.Pairwise (Le R)) (sb:b.toList.Pairwise (Le R)) (H:HiH R a b) (K:HiQ R a b st0 z Q) (hK:Ke st0 st) (ho:MH R a.toList b.toList out.toList na (nb+1)) (i1:1≤na) (i2:na≤a.size) (i3:2≤nb+1) (i4:nb+1≤b.size) (i5:na+(nb+1)+z≤a.size+b.size):wpS (model prog w) A E s (if mg > 1 then zev a b na (nb+1) out ac bc (mg - 1) else zev a b na (nb+1) out ac bc mg) Q st :=
  z0d (fun _=>zla o L hk0 ga gb sa sb H K hK ho i1 i2 i3 i4 i5) (fun _=>zla o L hk0 ga gb sa sb H K hK ho i1 i2 i3 i4 i5)
end
set_option maxHeartbeats 8000000 in
theorem zex (o:Od R) (L:LtOk prog w A E s kd Gd R) {a b:Array Keyed} {Q:Array Keyed→SortSt→Prop} (hk0:kindOf st=kd) (ga:∀ p∈a.toList,Gd p) (gb:∀ p∈b.toList,Gd p) (h1:1≤a.size) (h2:1≤b.size) (sa:a.toList.Pairwise (Le R)) (sb:b.toList.Pairwise (Le R))
    (h0:∀ p q,b[0]?=some p→a[0]?=some q→R p q=true) (hl:∀ x,a[a.size - 1]?=some x→∀ y∈b.toList,Le R y x)
    (h:∀ r st',Ke st st'→Mg R a.toList b.toList r→Q r st'):wpS (model prog w) A E s (z7k a b) Q st:=by
  rw [zhf]
  unfold zp1
  refine wpS_bind (wpS_lift (wpAny_rule ⟨rfl,?_⟩))
  refine wpS_bind (z0q (by omega) fun q0 hq0=>?_)
  have la0:a.toList.length=a.size:=by simp
  have lb0:b.toList.length=b.size:=by simp
  have dn:∀ (out:Array Keyed) (i j:Nat),MH R a.toList b.toList out.toList i j→(i=0∨j=0)→Mg R a.toList b.toList (a.extract 0 i++b.extract 0 j++out.reverse):=fun out i j hm hd=>by
    unfold Mg
    rw [Array.toList_append,Array.toList_append,zds,zds,Array.toList_reverse]
    exact hm.done sa sb hd
  have la:∀ (out:Array Keyed) (i j:Nat),MH R a.toList b.toList out.toList i j→j=1→Mg R a.toList b.toList (b.extract 0 j++a.extract 0 i++out.reverse):=fun out i j hm hd=>by
    subst hd
    unfold Mg
    rw [Array.toList_append,Array.toList_append,zds,zds,Array.toList_reverse]
    refine hm.first sa fun p ep y hy=>?_
    obtain ⟨q,eq⟩:∃ q,a[0]?=some q:=⟨_,Array.getElem?_eq_getElem (by omega)⟩
    exact o.trans (o.lt (h0 p q (z7f ep) eq)) (z8a o sa (z8p eq) (by rw [List.drop_zero];exact hy))
  have pA:∀ {out:Array Keyed} {i j:Nat} {q:Keyed},MH R a.toList b.toList out.toList (i+1) j→a[i]?=some q→(∀ m y,m<j→b[m]?=some y→Le R y q)→MH R a.toList b.toList (out.push q).toList i j:=fun hm e hq=>by
    rw [Array.toList_push]
    exact hm.pushA sa (z8p e) fun y hy=>let ⟨m,h1,h2⟩:=zd9 hy;hq m y h1 (z7f h2)
  have pB:∀ {out:Array Keyed} {i j:Nat} {p:Keyed},MH R a.toList b.toList out.toList i (j+1)→b[j]?=some p→(∀ m y,m<i→a[m]?=some y→Le R y p)→MH R a.toList b.toList (out.push p).toList i j:=fun hm e hq=>by
    rw [Array.toList_push]
    exact hm.pushB sb (z8p e) fun y hy=>let ⟨m,h1,h2⟩:=zd9 hy;hq m y h1 (z7f h2)
  have gA:∀ {out:Array Keyed} {i j k:Nat} {p:Keyed},MH R a.toList b.toList out.toList i (j+1)→k≤i→b[j]?=some p→(∀ m x,k≤m→m<i→a[0+m]?=some x→By R false p x=false)→MH R a.toList b.toList (out++(a.extract k i).reverse).toList k (j+1):=fun hm hki e hk=>by
    rw [Array.toList_append,Array.toList_reverse,z9i]
    refine hm.blockA sa hki fun x hx y hy=>?_
    obtain ⟨m,m1,m2,ex⟩:=zd8 hx
    have:=hk m x m1 m2 (by rw [Nat.zero_add];exact z7f ex)
    exact o.trans (ztt o sb (z8p e) hy) (o.lt (by simpa [By] using this))
  have gB:∀ {out:Array Keyed} {i j k:Nat} {q:Keyed},MH R a.toList b.toList out.toList (i+1) j→k≤j→a[i]?=some q→(∀ m x,k≤m→m<j→b[0+m]?=some x→By R true q x=false)→MH R a.toList b.toList (out++(b.extract k j).reverse).toList (i+1) k:=fun hm hkj e hk=>by
    rw [Array.toList_append,Array.toList_reverse,z9i]
    refine hm.blockB sb hkj fun x hx y hy=>?_
    obtain ⟨m,m1,m2,ex⟩:=zd8 hx
    have:=hk m x m1 m2 (by rw [Nat.zero_add];exact z7f ex)
    exact o.trans (ztt o sa (z8p e) hy) (by simpa [By,Le] using this)
  have g0:MH R a.toList b.toList (#[q0]:Array Keyed).toList (a.size - 1) b.size:=by
    have z:MH R a.toList b.toList (#[]:Array Keyed).toList (a.size - 1+1) b.size:=by
      have:=MH.zero (R:=R) (al:=a.toList) (bl:=b.toList)
      rw [la0,lb0,show a.size=a.size - 1+1 by omega] at this
      exact this
    exact pA z hq0 fun m y _ ey=>hl q0 hq0 y (z3n ey)
  by_cases e1:a.size - 1=0
  · rw [if_pos (by simpa using e1)]
    exact wpS_pure (h _ _ .refl (dn _ _ _ g0 (.inl e1)))
  rw [if_neg (by simpa using e1)]
  by_cases e2:b.size=1
  · rw [if_pos (by simpa using e2)]
    exact wpS_pure (h _ _ .refl (la _ _ _ g0 e2))
  rw [if_neg (by simpa using e2)]
  refine wpS_bind (wpS_get ?_)
  refine wpS_bind (wpS_mono (wpS_forRange (I:=fun x c st'=>∃ na nb out mg,c=(none,na,nb,out,mg)∧Ke st st'∧MH R a.toList b.toList out.toList na nb∧1≤na∧na≤a.size∧2≤nb∧nb≤b.size∧na+nb+1+x≤a.size+b.size)
    (Q:=fun c st'=>∃ r y,c=(some r,y)∧Ke st st'∧Mg R a.toList b.toList r) ?step ?fin ⟨_,_,_,_,rfl,.refl,g0,by omega,by omega,by omega,by omega,by omega⟩) ?post)
  case post =>
    rintro c st' ⟨r,y,rfl,hK,hr⟩
    exact wpS_pure (h r st' hK hr)
  case fin =>
    rintro c st' ⟨na,nb,out,mg,rfl,hK,ho,i1,i2,i3,i4,i5⟩
    omega
  case step =>
    rintro x c st1 _ hx ⟨na,nb,out,mg,rfl,hK1,ho,i1,i2,i3,i4,i5⟩
    dsimp only
    unfold zp0
    refine wpS_bind (wpS_mono (wpS_forRange (I:=fun y c st'=>∃ na nb out ac bc,c=(none,na,nb,out,ac,bc)∧Ke st st'∧MH R a.toList b.toList out.toList na nb∧1≤na∧na≤a.size∧2≤nb∧nb≤b.size∧na+nb+1+x≤a.size+b.size)
      (Q:=fun c st'=>(∃ r y,c=(some r,y)∧Ke st st'∧Mg R a.toList b.toList r)∨(∃ na nb out ac bc,c=(none,na,nb,out,ac,bc)∧Ke st st'∧MH R a.toList b.toList out.toList na nb∧1≤na∧na≤a.size∧2≤nb∧nb≤b.size∧na+nb+1+x≤a.size+b.size)) ?istep ?ifin ⟨_,_,_,_,_,rfl,hK1,ho,i1,i2,i3,i4,i5⟩) ?ipost)
    case ifin=>exact fun c st' z=>.inr z
    case istep =>
      rintro y c st2 _ hy ⟨na,nb,out,ac,bc,rfl,hK2,ho,i1,i2,i3,i4,i5⟩
      obtain ⟨na,rfl⟩:∃ n,na=n+1:=⟨na - 1,by omega⟩
      obtain ⟨nb,rfl⟩:∃ n,nb=n+1:=⟨nb - 1,by omega⟩
      dsimp only
      unfold zp3
      refine wpS_bind (z0q (by omega) fun p hp=>wpS_bind (z0q (by omega) fun q hq=>wpS_bind (L st2 p q _ (hK2.kind.trans hk0) (gb _ (z3n hp)) (ga _ (z3n hq)) ?_)))
      rw [Nat.add_sub_cancel] at hp hq
      cases hR:R p q with
      | true =>
        dsimp only
        rw [if_pos rfl]
        refine wpS_bind (z0q (by omega) fun q2 hq2=>?_)
        rw [Nat.add_sub_cancel] at hq2
        rw [hq] at hq2;cases hq2
        have go:=pA ho hq (fun m y hm ey=>o.trans (z7y o sb (i:=0) (j:=nb+1) m nb y p (by omega) (by omega) (by omega) ey hp) (o.lt hR))
        refine z0d (fun ec=>?_) (fun ec=>?_)
        · exact wpS_pure (.inl ⟨_,_,rfl,hK2,dn _ _ _ go (.inl (by simpa using ec))⟩)
        simp only [beq_iff_eq] at ec
        have jj:1≤na∧na≤a.size∧2≤nb+1∧nb+1≤b.size∧na+(nb+1)+1+x≤a.size+b.size:=⟨Nat.pos_of_ne_zero ec,Nat.le_of_succ_le i2,i3,i4,by omega⟩
        exact z0d (fun _=>wpS_pure (.inr ⟨_,_,_,_,_,rfl,hK2,go,jj⟩)) (fun _=>wpS_pure ⟨_,_,_,_,_,rfl,hK2,go,jj⟩)
      | false =>
        dsimp only
        rw [if_neg Bool.false_ne_true]
        refine wpS_bind (z0q (by omega) fun p2 hp2=>?_)
        rw [Nat.add_sub_cancel] at hp2
        rw [hp] at hp2;cases hp2
        have go:=pB ho hp (fun m y hm ey=>o.trans (z7y o sa (i:=0) (j:=na+1) m na y q (by omega) (by omega) (by omega) ey hq) hR)
        refine z0d (fun ec=>?_) (fun ec=>?_)
        · exact wpS_pure (.inl ⟨_,_,rfl,hK2,la _ _ _ go (by simpa using ec)⟩)
        simp only [beq_iff_eq] at ec
        have jj:1≤na+1∧na+1≤a.size∧2≤nb∧nb≤b.size∧na+1+nb+1+x≤a.size+b.size:=⟨i1,i2,by omega,Nat.le_of_succ_le i4,by omega⟩
        exact z0d (fun _=>wpS_pure (.inr ⟨_,_,_,_,_,rfl,hK2,go,jj⟩)) (fun _=>wpS_pure ⟨_,_,_,_,_,rfl,hK2,go,jj⟩)
    case ipost =>
      rintro c st2 (⟨r,y,rfl,hK2,hr⟩ | ⟨na,nb,out,ac,bc,rfl,hK2,ho,i1,i2,i3,i4,i5⟩)
      · exact wpS_pure ⟨_,_,rfl,hK2,hr⟩
      unfold zp2
      dsimp only
      refine wpS_bind (wpS_lift (wpAny_rule ⟨rfl,?_⟩))
      refine wpS_bind (wpS_mono (wpS_forRange (I:=fun y c st'=>∃ na nb out mg ac bc,c=(none,na,nb,out,mg,ac,bc)∧Ke st st'∧MH R a.toList b.toList out.toList na nb∧1≤na∧na≤a.size∧2≤nb∧nb≤b.size∧na+nb+1+x+y≤a.size+b.size)
        (Q:=fun c st'=>(∃ r y,c=(some r,y)∧Ke st st'∧Mg R a.toList b.toList r)∨(∃ na nb out mg ac bc,c=(none,na,nb,out,mg,ac,bc)∧Ke st st'∧MH R a.toList b.toList out.toList na nb∧1≤na∧na≤a.size∧2≤nb∧nb≤b.size∧na+nb+1+(x+1)≤a.size+b.size)) ?jstep ?jfin ⟨_,_,_,_,_,_,rfl,hK2,ho,i1,i2,i3,i4,i5⟩) ?jpost)
      case jfin =>
        rintro c st' ⟨na,nb,out,mg,ac,bc,rfl,q1,q2,q3,q4,q5,q6,q7⟩
        exact .inr ⟨_,_,_,_,_,_,rfl,q1,q2,q3,q4,q5,q6,by omega⟩
      case jpost =>
        rintro c st3 (⟨r,y,rfl,hK3,hr⟩ | ⟨na,nb,out,mg,ac,bc,rfl,hK3,ho,i1,i2,i3,i4,i5⟩)
        · exact wpS_pure ⟨_,_,rfl,hK3,hr⟩
        dsimp only
        exact wpS_bind (zac hK3 fun st4 hK4=>wpS_pure ⟨_,_,_,_,rfl,hK4,ho,i1,i2,i3,i4,by omega⟩)
      case jstep =>
        rintro y c st3 _ hy ⟨na,nb,out,mg,ac,bc,rfl,hK3,ho,i1,i2,i3,i4,i5⟩
        obtain ⟨nb,rfl⟩:∃ n,nb=n+1:=⟨nb - 1,by omega⟩
        dsimp only
        refine zp5 (z:=1+x+y) o L hk0 ga gb sa sb ⟨dn,la,pA,pB,gA,gB⟩ ?_ hK3 ho i1 i2 i3 i4 (by omega)
        exact ⟨fun r y st' hK hr=>.inl ⟨_,_,rfl,hK,hr⟩,fun _ _ _ _ _ _ _ hK ho i1 i2 i3 i4 i5=>.inr ⟨_,_,_,_,_,_,rfl,hK,ho,i1,i2,i3,i4,by omega⟩,fun _ _ _ _ _ _ _ hK ho i1 i2 i3 i4 i5=>⟨_,_,_,_,_,_,rfl,hK,ho,i1,i2,i3,i4,by omega⟩⟩
end
theorem zbf (sa:Nat):∀ (l:List Keyed) (j0:Nat) (x:Array Keyed),sa+j0+l.length≤x.size→∀ k:Nat,
    ((l.zipIdx j0).foldl (fun a (q:Keyed×Nat)=>a.setIfInBounds (sa+q.2) q.1) x)[k]?=if sa+j0≤k∧k<sa+j0+l.length then l[k - (sa+j0)]? else x[k]?
  | [],j0,x,_,k=>by
    rw [if_neg (by simp)];rfl
  | p::r,j0,x,h,k=>by
    rw [List.length_cons] at h
    have ih:=zbf sa r (j0+1) (x.setIfInBounds (sa+j0) p) (by simp;omega) k
    rw [List.zipIdx_cons,List.foldl_cons]
    rw [ih,Array.getElem?_setIfInBounds,List.length_cons]
    by_cases h1:sa+(j0+1)≤k∧k<sa+(j0+1)+r.length
    · rw [if_pos h1,if_pos (by omega)]
      rw [show k - (sa+j0)=(k - (sa+(j0+1)))+1 by omega,List.getElem?_cons_succ]
    · rw [if_neg h1]
      by_cases h2:sa+j0=k
      · subst h2
        rw [if_pos rfl,if_pos (by omega),if_pos (by omega),Nat.sub_self]
        rfl
      · rw [if_neg h2,if_neg (by omega)]
theorem z7x (sa:Nat):∀ (l:List (Keyed×Nat)) (x:Array Keyed),(l.foldl (fun a (q:Keyed×Nat)=>a.setIfInBounds (sa+q.2) q.1) x).size=x.size
  | [],x=>rfl
  | q::r,x=>by rw [List.foldl_cons,z7x sa r];simp
theorem zk9 {x y:List Keyed} {i n:Nat} {r:List Keyed} (hr:r.length=n) (hp:r.Perm ((x.drop i).take n)) (h:i+n≤x.length) (hy:y.length=x.length) (e:∀ k:Nat,y[k]?=if i≤k∧k<i+n then r[k - i]? else x[k]?):y.Perm x:=by
  have ex:x=x.take i++(x.drop i).take n++x.drop (i+n):=by
    rw [List.append_assoc,← List.drop_drop,List.take_append_drop,List.take_append_drop]
  have ey:y=x.take i++r++x.drop (i+n):=by
    apply List.ext_getElem?
    intro k
    rw [e,List.append_assoc,List.getElem?_append,List.getElem?_append,List.length_take,Nat.min_eq_left (by omega)]
    by_cases h1:k<i
    · rw [if_neg (by omega),if_pos h1,List.getElem?_take,if_pos h1]
    · rw [if_neg h1]
      by_cases h2:k<i+n
      · rw [if_pos (by omega),if_pos (by omega)]
      · rw [if_neg (by omega),if_neg (by omega),List.getElem?_drop]
        congr 1
        omega
  rw [ey]
  conv=>rhs;rw [ex]
  exact List.Perm.append_right _ (List.Perm.append_left _ hp)
section
variable {R:Keyed→Keyed→Bool}
theorem zdv (o:Od R) {x:Array Keyed} {i m j:Nat} (h1:Seg R x i m) (h2:Seg R x m j) (hm:m<x.size) (h:∀ p a b,i≤p→p<m→x[p]?=some a→x[m]?=some b→Le R a b):Seg R x i j:=fun p q a b g1 g2 g3 e1 e2=>by
  by_cases hp:p<m
  · by_cases hq:q<m
    · exact h1 p q a b g1 g2 hq e1 e2
    · obtain ⟨c,ec⟩:∃ c,x[m]?=some c:=⟨_,Array.getElem?_eq_getElem hm⟩
      exact o.trans (h p a c g1 hp e1 ec) (h2 m q c b (Nat.le_refl _) (by omega) g3 ec e2)
  · exact h2 p q a b (by omega) g2 g3 e1 e2
theorem zlh {x:Array Keyed} {i j:Nat} (h:Seg R x i j) (hj:j≤x.size):(x.extract i j).toList.Pairwise (Le R):=by
  rw [List.pairwise_iff_getElem]
  intro p q hp hq hpq
  have lp:=hp
  have lq:=hq
  rw [Array.length_toList,Array.size_extract] at lp lq
  have e1:x[i+p]?=some ((x.extract i j).toList[p]):=by
    rw [Array.getElem_toList,Array.getElem_extract]
    exact Array.getElem?_eq_getElem _
  have e2:x[i+q]?=some ((x.extract i j).toList[q]):=by
    rw [Array.getElem_toList,Array.getElem_extract]
    exact Array.getElem?_eq_getElem _
  exact h _ _ _ _ (by omega) (by omega) (by omega) e1 e2
theorem z86 {x:Array Keyed} {i j:Nat} {c:Keyed} (h:c∈(x.extract i j).toList):∃ m,i≤m∧m<j∧x[m]?=some c:=by
  rw [z9i] at h
  obtain ⟨m,h1,h2,h3⟩:=zd8 h
  exact ⟨m,h1,h2,z7f h3⟩
end
theorem zi2 {x:Array Keyed} {i j m:Nat} (h:i+m<j) (hj:j≤x.size):(x.extract i j)[m]?=x[i+m]?:=by
  rw [Array.getElem?_extract]
  rw [if_pos (by omega)]
theorem ze4 {p:Array (Nat×Nat×Nat)} {i:Nat} {v:Nat×Nat×Nat} (hi1:i+1<p.size) (j:Nat):((p.setIfInBounds i v).eraseIdxIfInBounds (i+1))[j]?=if j=i then some v else if j<i then p[j]? else p[j+1]?:=by
  rw [Array.eraseIdxIfInBounds,dif_pos (by rw [Array.size_setIfInBounds];exact hi1),Array.getElem?_eraseIdx,Array.getElem?_setIfInBounds,Array.getElem?_setIfInBounds]
  by_cases a:j=i
  · subst a;simp;omega
  · by_cases b:j<i
    · have c:¬ i=j:=fun z=>a z.symm
      rw [if_neg a,if_pos b,if_pos (by omega),if_neg c]
    · have c:¬ i=j+1:=by omega
      rw [if_neg a,if_neg b,if_neg (by omega),if_neg c]
theorem zaj {p:Array (Nat×Nat×Nat)} {hi:Nat} (h:z95 p hi):∀ (d j s1 n1 q1 s2 n2 q2:Nat),p[j]?=some (s1,n1,q1)→p[j+1+d]?=some (s2,n2,q2)→s1+n1≤s2
  | 0,j,s1,n1,q1,s2,n2,q2,e1,e2=>by
    have:=(h j s1 n1 q1 e1).2.2.1 s2 n2 q2 e2
    omega
  | d+1,j,s1,n1,q1,s2,n2,q2,e1,e2=>by
    have hlt:=(Array.getElem?_eq_some_iff.mp e2).1
    obtain ⟨⟨s3,n3,q3⟩,e3⟩:∃ r,p[j+1]?=some r:=⟨_,Array.getElem?_eq_getElem (show j+1<p.size by omega)⟩
    have a:=(h j s1 n1 q1 e1).2.2.1 s3 n3 q3 e3
    have b:=zaj h d (j+1) s3 n3 q3 s2 n2 q2 e3 (by rw [show j+1+1+d=j+1+(d+1) by omega];exact e2)
    omega
def RS (R:Keyed→Keyed→Bool) (pe:Array (Nat×Nat×Nat)) (x:Array Keyed):Prop:=∀ (i sa na pw:Nat),pe[i]?=some (sa,na,pw)→Seg R x sa (sa+na)
section
variable {prog:Program} {w:World} {A:Around} {E:Value→Shared→Prop} {s:Shared} {kd:SortKind} {a0:List Keyed} {pe:Array (Nat×Nat×Nat)} {st:SortSt} {Gd:Keyed→Prop} {R:Keyed→Keyed→Bool}
theorem zdy {x y:Array Keyed} {i sa na pw sb nb q hi:Nat} (hR:z95 pe hi) (e1:pe[i]?=some (sa,na,pw)) (e2:pe[i+1]?=some (sb,nb,q)) (hS:RS R pe x) (hy:Seg R y sa (sa+(na+nb))) (hsm:Same x y sa (sa+(na+nb))):RS R ((pe.setIfInBounds i (sa,na+nb,pw)).eraseIdxIfInBounds (i+1)) y:=by
  have hi1:i+1<pe.size:=(Array.getElem?_eq_some_iff.mp e2).1
  have c3:=(hR i sa na pw e1).2.2.1 sb nb q e2
  intro j s1 n1 p1 e
  rw [ze4 hi1] at e
  by_cases hj:j=i
  · rw [if_pos hj] at e
    cases e
    exact hy
  · rw [if_neg hj] at e
    by_cases hl:j<i
    · rw [if_pos hl] at e
      have:=zaj hR (i - j - 1) j s1 n1 p1 sa na pw e (by rw [show j+1+(i - j - 1)=i by omega];exact e1)
      exact (hS j s1 n1 p1 e).same hsm (.inl (by omega))
    · rw [if_neg hl] at e
      have:=zaj hR (j - (i+1)) (i+1) sb nb q s1 n1 p1 e2 (by rw [show i+1+1+(j - (i+1))=j+1 by omega];exact e)
      exact (hS (j+1) s1 n1 p1 e).same hsm (.inr (by omega))
theorem zqr {a b:Nat} (h:a<b):a+(b - a - 1)=b - 1:=by omega
theorem zqq {a b c:Nat} (h:a≤b):b - a+c=b+c - a:=by omega
theorem z6n (o:Od R) (L:LtOk prog w A E s kd Gd R) (hg:∀ p∈a0,Gd p) {i hi:Nat} {Q:Bool→SortSt→Prop} (hW:TWG kd a0 pe st) (hR:z95 pe hi) (hS:RS R pe (arrOf st)) (hn:hi≤a0.length) (hi':i+1<pe.size)
    (h:∀ pe' st',TWG kd a0 pe' st'→z95 pe' hi→RS R pe' (arrOf st')→Same (arrOf st) (arrOf st') 0 hi→pe'.size+1=pe.size→(∀ sa na pw,pe[0]?=some (sa,na,pw)→∃ na' pw',pe'[0]?=some (sa,na',pw'))→Q true st') :
    wpS (model prog w) A E s (mergeAt' i) Q st:=by
  obtain ⟨⟨sa,na,pw⟩,e1⟩:∃ r,pe[i]?=some r:=⟨pe[i]'(by omega),Array.getElem?_eq_getElem (by omega)⟩
  obtain ⟨⟨sb,nb,q⟩,e2⟩:∃ r,pe[i+1]?=some r:=⟨pe[i+1],Array.getElem?_eq_getElem hi'⟩
  obtain ⟨hR',hs'⟩:=zf0 hR e1 e2
  obtain ⟨a1,a2,a3,a4⟩:=hR i sa na pw e1
  obtain ⟨b1,b2,b3,b4⟩:=hR (i+1) sb nb q e2
  have c3:=a3 sb nb q e2
  have Sa:=hS i sa na pw e1
  have Sb:=hS (i+1) sb nb q e2
  have hst:∀ s1 n1 p1,pe[0]?=some (s1,n1,p1)→∃ na' pw',((pe.setIfInBounds i (sa,na+nb,pw)).eraseIdxIfInBounds (i+1))[0]?=some (s1,na',pw'):=by
    intro s1 n1 p1 e
    rw [ze4 hi']
    by_cases h0:0=i
    · subst h0;rw [e1] at e;cases e;rw [if_pos rfl];exact ⟨_,_,rfl⟩
    · rw [if_neg h0,if_pos (by omega)];exact ⟨_,_,e⟩
  rw [zd7]
  refine wpS_bind (wpS_get ?_)
  have hp:pendingOf st=pe:=hW.pend
  rw [hp,e1,e2]
  dsimp only
  refine wpS_bind (zmh ?_)
  have hW1:TWG kd a0 ((pe.setIfInBounds i (sa,na+nb,pw)).eraseIdxIfInBounds (i+1)) (setPending st ((pe.setIfInBounds i (sa,na+nb,pw)).eraseIdxIfInBounds (i+1))):=⟨hW.perm,hW.kind,hW.failed,rfl⟩
  have hz:=hW.size
  have hga:∀ p∈(arrOf st).toList,Gd p:=fun p hp=>hg p (hW.perm.mem_iff.mp hp)
  have done:Seg R (arrOf st) sa (sa+(na+nb))→Q true (setPending st ((pe.setIfInBounds i (sa,na+nb,pw)).eraseIdxIfInBounds (i+1))):=fun hy =>
    h _ _ hW1 hR' (zdy hR e1 e2 hS hy Same.refl) Same.refl hs' hst
  refine wpS_bind (z0q (by omega) fun key hkey=>?_)
  refine wpS_bind (z4c o L hW1.kind (hga key (z3n hkey)) hga (by omega) (by omega) Sa fun k hk kt kf=>?_)
  dsimp only
  refine z0d (fun e3=>wpS_pure (done ?_)) (fun e3=>?_)
  · simp only [beq_iff_eq] at e3
    rw [show sa+(na+nb)=sb+nb by omega]
    refine zdv o (m:=sb) (by rw [c3];exact Sa) Sb (by omega) fun p a b g1 g2 x1 x2=>?_
    rw [hkey] at x2;cases x2
    have:=kt (p - sa) a (by omega) (by rw [show sa+(p - sa)=p by omega];exact x1)
    simpa [By,Le] using this
  simp only [beq_iff_eq] at e3
  have hkk:sa+k+(na - k)=sb:=by rw [Nat.add_assoc,Nat.add_sub_cancel' hk,c3]
  have hlt:sa+k<sb:=by omega
  have hsb:sb+nb≤(arrOf st).size:=by omega
  refine wpS_bind (z0q (by rw [hkk];omega) fun key2 hkey2=>?_)
  refine wpS_bind (z4c o L hW1.kind (hga key2 (z3n hkey2)) hga (by omega) (by omega) Sb fun k2 hk2 kt2 kf2=>?_)
  dsimp only
  have hkey2:(arrOf st)[sb - 1]?=some key2:=by rw [hkk] at hkey2;exact hkey2
  refine z0d (fun e4=>wpS_pure (done ?_)) (fun e4=>?_)
  · simp only [beq_iff_eq] at e4
    rw [show sa+(na+nb)=sb+nb by omega]
    refine zdv o (m:=sb) (by rw [c3];exact Sa) Sb (by omega) fun p a b g1 g2 x1 x2=>?_
    have:=kf2 0 b (by omega) (by omega) (by rw [Nat.add_zero];exact x2)
    exact o.trans (Sa p (sb - 1) a key2 g1 (by omega) (by omega) x1 hkey2) (by simpa [By,Le] using this)
  simp only [beq_iff_eq] at e4
  have sx:((arrOf st).extract (sa+k) sb).size=sb - (sa+k):=by rw [Array.size_extract,Nat.min_eq_left (Nat.le_of_add_right_le hsb)]
  have sy:((arrOf st).extract sb (sb+k2)).size=k2:=by rw [Array.size_extract,Nat.min_eq_left (Nat.le_trans (Nat.add_le_add_left hk2 sb) hsb),Nat.add_sub_cancel_left]
  have px:((arrOf st).extract (sa+k) sb).toList.Pairwise (Le R):=zlh (fun p q a b g1 g2 g3=>Sa p q a b (by omega) g2 (by omega)) (by omega)
  have py:((arrOf st).extract sb (sb+k2)).toList.Pairwise (Le R):=zlh (fun p q a b g1 g2 g3=>Sb p q a b (by omega) g2 (by omega)) (by omega)
  have gx:∀ p∈((arrOf st).extract (sa+k) sb).toList,Gd p:=fun p hp=>let ⟨m,_,_,e⟩:=z86 hp;hga p (z3n e)
  have gy:∀ p∈((arrOf st).extract sb (sb+k2)).toList,Gd p:=fun p hp=>let ⟨m,_,_,e⟩:=z86 hp;hga p (z3n e)
  have f0:∀ p q,((arrOf st).extract sb (sb+k2))[0]?=some p→((arrOf st).extract (sa+k) sb)[0]?=some q→R p q=true:=fun p q x1 x2=>by
    rw [zi2 (by omega) (by omega),Nat.add_zero,hkey] at x1
    cases x1
    rw [zi2 (by omega) (by omega),Nat.add_zero] at x2
    have:=kf k q (by omega) (by omega) x2
    simpa [By] using this
  have fl:∀ x,((arrOf st).extract (sa+k) sb)[((arrOf st).extract (sa+k) sb).size - 1]?=some x→∀ y∈((arrOf st).extract sb (sb+k2)).toList,Le R y x:=fun x ex y hy=>by
    rw [sx,zi2 (by rw [zqr hlt];omega) (Nat.le_of_add_right_le hsb),zqr hlt,hkey2] at ex
    cases ex
    obtain ⟨m,m1,m2,em⟩:=z86 hy
    have:=kt2 (m - sb) y (by omega) (by rw [show sb+(m - sb)=m by omega];exact em)
    exact o.lt (by simpa [By] using this)
  have fin:∀ (r:Array Keyed) (st':SortSt),Ke (setPending st ((pe.setIfInBounds i (sa,na+nb,pw)).eraseIdxIfInBounds (i+1))) st'→Mg R ((arrOf st).extract (sa+k) sb).toList ((arrOf st).extract sb (sb+k2)).toList r →
      wpS (model prog w) A E s (do
        modify fun s=>setArr s (r.toList.zipIdx.foldl (fun a (p,j)=>a.setIfInBounds (sa+k+j) p) (arrOf s))
        return (failedOf (← get)).isNone) Q st':=by
    intro r st' hK hM
    obtain ⟨rp,rs⟩:=hM
    have hrl:r.toList.length=(sb+k2) - (sa+k):=by
      rw [rp.length_eq,List.length_append,Array.length_toList,Array.length_toList,sx,sy,zqq (Nat.le_of_lt hlt)]
    have harr:arrOf st'=arrOf st:=hK.arr
    refine wpS_bind (wpS_modify (wpS_bind (wpS_get ?_)))
    have hat:∀ j:Nat,(r.toList.zipIdx.foldl (fun a (q:Keyed×Nat)=>a.setIfInBounds (sa+k+q.2) q.1) (arrOf st'))[j]?=if sa+k≤j∧j<sb+k2 then r[j - (sa+k)]? else (arrOf st)[j]?:=fun j=>by
      have:=zbf (sa+k) r.toList 0 (arrOf st') (by rw [harr];omega) j
      rw [Nat.add_zero,hrl,harr,Array.getElem?_toList,Nat.add_sub_cancel' (Nat.le_of_lt (Nat.lt_add_right k2 hlt))] at this
      rw [harr]
      exact this
    have hsz2:=z7x (sa+k) r.toList.zipIdx (arrOf st')
    generalize hY:r.toList.zipIdx.foldl (fun a (q:Keyed×Nat)=>a.setIfInBounds (sa+k+q.2) q.1) (arrOf st')=Y at hat hsz2
    have hperm:Y.toList.Perm (arrOf st).toList:=by
      refine zk9 (i:=sa+k) (n:=sb+k2 - (sa+k)) (r:=r.toList) hrl ?_ (by rw [Array.length_toList,Nat.add_sub_cancel' (Nat.le_of_lt (Nat.lt_add_right k2 hlt))];exact Nat.le_trans (Nat.add_le_add_left hk2 sb) hsb) (by rw [Array.length_toList,Array.length_toList,hsz2,harr]) fun j=>?_
      · refine rp.trans ?_
        have:((arrOf st).extract (sa+k) sb).toList++((arrOf st).extract sb (sb+k2)).toList=((arrOf st).toList.drop (sa+k)).take (sb+k2 - (sa+k)):=by
          rw [z9i,z9i,List.drop_take,List.drop_take]
          have e5:sb+k2 - (sa+k)=(sb - (sa+k))+(sb+k2 - sb):=by rw [Nat.add_sub_cancel_left,zqq (Nat.le_of_lt hlt)]
          rw [e5,List.take_add,List.drop_drop]
          congr 3
          exact (Nat.add_sub_cancel' (Nat.le_of_lt hlt)).symm
        rw [this]
      · rw [Array.getElem?_toList,hat,Array.getElem?_toList,Array.getElem?_toList]
        by_cases hj:sa+k≤j∧j<sb+k2
        · rw [if_pos hj,if_pos (by omega)]
        · rw [if_neg hj,if_neg (by omega)]
    have hW2:TWG kd a0 ((pe.setIfInBounds i (sa,na+nb,pw)).eraseIdxIfInBounds (i+1)) (setArr st' Y):=⟨hperm.trans hW.perm,hK.kind.trans hW.kind,hK.failed.trans hW.failed,hK.pend⟩
    have orig:∀ j c,r[j]?=some c→(∃ m,sa+k≤m∧m<sb∧(arrOf st)[m]?=some c)∨∃ m,sb≤m∧m<sb+k2∧(arrOf st)[m]?=some c:=fun j c e=>by
      rcases List.mem_append.mp (rp.mem_iff.mp (z3n e)) with z | z
      · exact .inl (z86 z)
      · exact .inr (z86 z)
    have lowk:∀ p a,sa≤p→p<sa+k→(arrOf st)[p]?=some a→Le R a key:=fun p a g1 g2 x1=>by
      have:=kt (p - sa) a (by omega) (by rw [show sa+(p - sa)=p by omega];exact x1)
      simpa [By,Le] using this
    have highk:∀ p a,sb+k2≤p→p<sb+nb→(arrOf st)[p]?=some a→Le R key2 a:=fun p a g1 g2 x1=>by
      have:=kf2 (p - sb) a (by omega) (by omega) (by rw [show sb+(p - sb)=p by omega];exact x1)
      simpa [By,Le] using this
    have hseg:Seg R Y sa (sa+(na+nb)):=by
      intro p q a b g1 g2 g3 x1 x2
      rw [hat] at x1 x2
      by_cases p1:sa+k≤p∧p<sb+k2
      · rw [if_pos p1] at x1
        by_cases q1:sa+k≤q∧q<sb+k2
        · rw [if_pos q1] at x2
          exact z7y o rs (i:=0) (j:=r.size) _ _ a b (by omega) (by omega) (by have:=(Array.getElem?_eq_some_iff.mp x2).1;omega) x1 x2
        · rw [if_neg q1] at x2
          rcases orig _ a x1 with ⟨m,m1,m2,em⟩ | ⟨m,m1,m2,em⟩
          · exact o.trans (Sa m (sb - 1) a key2 (by omega) (by omega) (by omega) em hkey2) (highk q b (by omega) (by omega) x2)
          · exact Sb m q a b m1 (by omega) (by omega) em x2
      · rw [if_neg p1] at x1
        by_cases q1:sa+k≤q∧q<sb+k2
        · rw [if_pos q1] at x2
          rcases orig _ b x2 with ⟨m,m1,m2,em⟩ | ⟨m,m1,m2,em⟩
          · exact Sa p m a b g1 (by omega) (by omega) x1 em
          · exact o.trans (lowk p a g1 (by omega) x1) (Sb sb m key b (by omega) m1 (by omega) hkey em)
        · rw [if_neg q1] at x2
          by_cases p2:p<sa+k
          · by_cases q2:q<sa+k
            · exact Sa p q a b g1 g2 (by omega) x1 x2
            · exact o.trans (lowk p a g1 p2 x1) (Sb sb q key b (by omega) (by omega) (by omega) hkey x2)
          · exact Sb p q a b (by omega) g2 (by omega) x1 x2
    have hsm:Same (arrOf st) Y sa (sa+(na+nb)):=fun j hj=>by rw [hat,if_neg (by omega)]
    refine wpS_pure ?_
    show Q (failedOf st').isNone _
    rw [hK.failed]
    show Q (failedOf st).isNone _
    rw [hW.failed]
    exact h _ _ hW2 hR' (zdy hR e1 e2 hS hseg hsm) (hsm.mono (by omega) (by omega)) hs' hst
  have x1:1≤((arrOf st).extract (sa+k) sb).size:=by rw [sx];exact Nat.sub_pos_of_lt hlt
  have y1:1≤((arrOf st).extract sb (sb+k2)).size:=by rw [sy];omega
  refine z0d (fun e5=>?_) (fun e5=>?_)
  · exact wpS_bind (zew o L hW1.kind gx gy x1 y1 px py f0 fl fun r st' hK hr=>fin r st' hK hr)
  · exact wpS_bind (zex o L hW1.kind gx gy x1 y1 px py f0 fl fun r st' hK hr=>fin r st' hK hr)
end
section
variable {R:Keyed→Keyed→Bool} {pe:Array (Nat×Nat×Nat)} {x:Array Keyed}
theorem zqu {p:Array (Nat×Nat×Nat)} {k pw j sa na q:Nat} (e:(p.modify k fun (a,b,_)=>(a,b,pw))[j]?=some (sa,na,q)):∃ q':Nat,p[j]?=some (sa,na,q'):=by
  rw [Array.getElem?_modify] at e
  split at e
  · cases z:p[j]? with
    | none=>rw [z] at e;cases e
    | some r =>
      obtain ⟨x,y,u⟩:=r
      rw [z] at e
      cases e
      exact ⟨u,rfl⟩
  · exact ⟨q,e⟩
theorem zqt {p:Array (Nat×Nat×Nat)} {k pw j sa na q:Nat} (e:p[j]?=some (sa,na,q)):∃ q':Nat,(p.modify k fun (a,b,_)=>(a,b,pw))[j]?=some (sa,na,q'):=by
  rw [Array.getElem?_modify]
  split
  · rw [e];exact ⟨pw,rfl⟩
  · exact ⟨q,e⟩
theorem RS.power {k pw:Nat} (h:RS R pe x):RS R (pe.modify k fun (a,b,_)=>(a,b,pw)) x:=fun i sa na q e=>let ⟨q',e'⟩:=zqu e;h i sa na q' e'
theorem RS.push {lo m q:Nat} (h:RS R pe x) (hs:Seg R x lo (lo+m)):RS R (pe.push (lo,m,q)) x:=fun i sa na p e=>by
  rw [Array.getElem?_push] at e
  by_cases hi:i=pe.size
  · rw [if_pos hi] at e;cases e;exact hs
  · rw [if_neg hi] at e;exact h i sa na p e
theorem RS.same {y:Array Keyed} {lo hi:Nat} (h:RS R pe x) (hr:z95 pe lo) (g:Same x y lo hi):RS R pe y:=fun i sa na p e=>(h i sa na p e).same g (.inl (hr i sa na p e).2.1)
def Fst (pe:Array (Nat×Nat×Nat)) (lo:Nat):Prop:=(pe.size=0∧lo=0)∨∃ na pw,pe[0]?=some (0,na,pw)
theorem Fst.power {lo k pw:Nat} (h:Fst pe lo):Fst (pe.modify k fun (a,b,_)=>(a,b,pw)) lo:=by
  rcases h with ⟨h1,h2⟩ | ⟨na,q,e⟩
  · exact .inl ⟨by simpa using h1,h2⟩
  · exact .inr (let ⟨q',e'⟩:=zqt e;⟨na,q',e'⟩)
theorem Fst.push {lo m q hi:Nat} (h:Fst pe lo):Fst (pe.push (lo,m,q)) hi:=by
  rcases h with ⟨h1,h2⟩ | ⟨na,q',e⟩
  · refine .inr ⟨m,q,?_⟩
    rw [Array.getElem?_push,h1,if_pos rfl,h2]
  · refine .inr ⟨na,q',?_⟩
    rw [Array.getElem?_push,if_neg (by have:=(Array.getElem?_eq_some_iff.mp e).1;omega)]
    exact e
theorem zpx (h:Seg R x 0 x.size):x.toList.Pairwise (Le R):=by
  rw [List.pairwise_iff_getElem]
  intro p q hp hq hpq
  rw [Array.length_toList] at hp hq
  exact h p q _ _ (by omega) (by omega) hq (by rw [Array.getElem_toList];exact Array.getElem?_eq_getElem _) (by rw [Array.getElem_toList];exact Array.getElem?_eq_getElem _)
end
section
variable {prog:Program} {w:World} {A:Around} {E:Value→Shared→Prop} {s:Shared} {kd:SortKind} {a0:List Keyed} {st:SortSt} {Gd:Keyed→Prop} {R:Keyed→Keyed→Bool}
theorem zmm (o:Od R) (L:LtOk prog w A E s kd Gd R) (hg:∀ p∈a0,Gd p) {Q:Unit→SortSt→Prop} (hW:TWG kd a0 #[] st) (h:∀ st',(arrOf st').toList.Perm a0→(arrOf st').toList.Pairwise (Le R)→failedOf st'=none→Q () st'):wpS (model prog w) A E s sortRuns' Q st:=by
  rw [sortRuns'_eq]
  refine wpS_bind (wpS_get ?_)
  dsimp only
  rw [hW.size]
  refine wpS_bind (wpS_mono (wpS_forRange (I:=fun x c st'=>∃ lo pe,c=(none,lo)∧TWG kd a0 pe st'∧z95 pe lo∧RS R pe (arrOf st')∧lo≤a0.length∧pe.size≤lo∧Fst pe lo∧min x a0.length≤lo)
    (Q:=fun c st'=>∃ pe,c=(none,a0.length)∧TWG kd a0 pe st'∧z95 pe a0.length∧RS R pe (arrOf st')∧pe.size≤a0.length∧Fst pe a0.length) ?step ?fin
    ⟨0,#[],rfl,hW,(fun i sa na pw e=>by simp at e),(fun i sa na pw e=>by simp at e),Nat.zero_le _,Nat.le_refl _,.inl ⟨rfl,rfl⟩,by omega⟩) ?post)
  case fin =>
    rintro c st1 ⟨lo,pe1,rfl,hW1,hR1,hS1,hlo,hz1,hf1,hm1⟩
    have:lo=a0.length:=by omega
    subst this
    exact ⟨pe1,rfl,hW1,hR1,hS1,hz1,hf1⟩
  case step =>
    rintro x c st1 _ hx ⟨lo,pe1,rfl,hW1,hR1,hS1,hlo,hz1,hf1,hm1⟩
    dsimp only
    refine z0d (fun e=>?_) (fun e=>?_)
    · have:lo=a0.length:=by omega
      subst this
      exact wpS_pure ⟨pe1,rfl,hW1,hR1,hS1,hz1,hf1⟩
    refine wpS_bind (zje o L hg hW1 (by omega) (by omega) fun m st2 hW2 m1 m2 hs2 hsm2=>?_)
    have hS2:RS R pe1 (arrOf st2):=hS1.same hR1 hsm2
    dsimp only
    refine z0d (fun e3=>?_) (fun e3=>?_)
    · refine wpS_bind (wpS_lift (wpAny_rule ⟨rfl,?_⟩))
      refine wpS_bind (zp6 o L hg hW2 (by omega) (by omega) hs2 fun st3 hW3 hs3 hsm3=>?_)
      simp only [Bool.not_true,Bool.false_eq_true,if_false]
      have hS3:RS R pe1 (arrOf st3):=hS2.same hR1 hsm3
      have q1:1≤min (a0.length - lo) (minRun' a0.length a0.length 0):=by omega
      have q2:lo+min (a0.length - lo) (minRun' a0.length a0.length 0)≤a0.length:=by omega
      clear hsm3
      generalize min (a0.length - lo) (minRun' a0.length a0.length 0)=m at q1 q2 hs3 ⊢
      refine wpS_bind (wpS_get ?_)
      cases eb:(pendingOf st3).back? with
      | none =>
        dsimp only
        have hpp:pendingOf _=pe1:=hW3.pend
        refine wpS_bind (wpS_modify (wpS_pure ?_))
        exact ⟨_,(pe1).push (lo,m,0),rfl,⟨hW3.perm,hW3.kind,hW3.failed,congrArg (fun z=>Array.push z (lo,m,0)) hpp⟩,z6e hR1 q1,RS.push hS3 hs3,q2,by rw [Array.size_push];omega,hf1.push,by omega⟩
      | some r =>
        obtain ⟨s1,n1,pw1⟩:=r
        dsimp only
        refine wpS_bind (wpS_mono (wpS_forRange (I:=fun x c st'=>c=(none,())∧∃ pe,TWG kd a0 pe st'∧z95 pe lo∧RS R pe (arrOf st')∧Seg R (arrOf st') lo (lo+m)∧pe.size≤lo∧Fst pe lo) (Q:=fun c st'=>c=(none,())∧∃ pe,TWG kd a0 pe st'∧z95 pe lo∧RS R pe (arrOf st')∧Seg R (arrOf st') lo (lo+m)∧pe.size≤lo∧Fst pe lo) ?mstep (fun _ _ z=>z) ⟨rfl,pe1,hW3,hR1,hS3,hs3,hz1,hf1⟩) ?mpost)
        case mpost =>
          rintro c st5 ⟨rfl,pe5,hW5,hR5,hS5,hs5,hz5,hf5⟩
          dsimp only
          have hp5:pendingOf st5=pe5:=hW5.pend
          refine wpS_bind (wpS_modify ?_)
          have hW6:TWG kd a0 (pe5.modify (pe5.size - 1) fun x=>(x.fst,x.2.fst,power' a0.length (2*s1+n1) (2*s1+n1+n1+m) a0.length)) (setPending st5 (pe5.modify (pe5.size - 1) fun x=>(x.fst,x.2.fst,power' a0.length (2*s1+n1) (2*s1+n1+n1+m) a0.length))):=⟨hW5.perm,hW5.kind,hW5.failed,rfl⟩
          have hR6:z95 (pe5.modify (pe5.size - 1) fun x=>(x.fst,x.2.fst,power' a0.length (2*s1+n1) (2*s1+n1+n1+m) a0.length)) lo:=z9k hR5
          have hS6:RS R (pe5.modify (pe5.size - 1) fun x=>(x.fst,x.2.fst,power' a0.length (2*s1+n1) (2*s1+n1+n1+m) a0.length)) (arrOf st5):=hS5.power
          have hf6:Fst (pe5.modify (pe5.size - 1) fun x=>(x.fst,x.2.fst,power' a0.length (2*s1+n1) (2*s1+n1+n1+m) a0.length)) lo:=hf5.power
          rw [hp5]
          have hpp:pendingOf _=pe5.modify (pe5.size - 1) fun x=>(x.fst,x.2.fst,power' a0.length (2*s1+n1) (2*s1+n1+n1+m) a0.length):=hW6.pend
          refine wpS_bind (wpS_modify (wpS_pure ?_))
          exact ⟨_,(pe5.modify (pe5.size - 1) fun x=>(x.fst,x.2.fst,power' a0.length (2*s1+n1) (2*s1+n1+n1+m) a0.length)).push (lo,m,0),rfl,⟨hW6.perm,hW6.kind,hW6.failed,congrArg (fun z=>Array.push z (lo,m,0)) hpp⟩,z6e hR6 q1,RS.push hS6 hs5,q2,by rw [Array.size_push,Array.size_modify];omega,hf6.push,by omega⟩
        case mstep =>
          rintro y c st5 _ hy ⟨rfl,pe5,hW5,hR5,hS5,hs5,hz5,hf5⟩
          refine wpS_bind (wpS_get ?_)
          have hp5:pendingOf st5=pe5:=hW5.pend
          rw [hp5]
          by_cases hz:pe5.size > 1
          · rw [if_pos hz,Array.getElem?_eq_getElem (show pe5.size - 2<pe5.size by omega)]
            dsimp only
            refine z0d (fun e6=>wpS_pure ⟨rfl,pe5,hW5,hR5,hS5,hs5,hz5,hf5⟩) (fun e6=>?_)
            refine wpS_bind (z6n o L hg hW5 hR5 hS5 hlo (by omega) fun pe7 st7 hW7 hR7 hS7 hsm7 hz7 hst7=>?_)
            refine wpS_pure ⟨rfl,pe7,hW7,hR7,hS7,hs5.same hsm7 (.inr (by omega)),by omega,?_⟩
            rcases hf5 with ⟨f1,f2⟩ | ⟨na,pw,f⟩
            · omega
            · exact .inr (hst7 0 na pw f)
          · rw [if_neg hz]
            exact wpS_pure ⟨rfl,pe5,hW5,hR5,hS5,hs5,hz5,hf5⟩
    · have q1:=m1
      have q2:lo+m≤a0.length:=by omega
      refine wpS_bind (wpS_get ?_)
      cases eb:(pendingOf st2).back? with
      | none =>
        dsimp only
        have hpp:pendingOf _=pe1:=hW2.pend
        refine wpS_bind (wpS_modify (wpS_pure ?_))
        exact ⟨_,(pe1).push (lo,m,0),rfl,⟨hW2.perm,hW2.kind,hW2.failed,congrArg (fun z=>Array.push z (lo,m,0)) hpp⟩,z6e hR1 q1,RS.push hS2 hs2,q2,by rw [Array.size_push];omega,hf1.push,by omega⟩
      | some r =>
        obtain ⟨s1,n1,pw1⟩:=r
        dsimp only
        refine wpS_bind (wpS_mono (wpS_forRange (I:=fun x c st'=>c=(none,())∧∃ pe,TWG kd a0 pe st'∧z95 pe lo∧RS R pe (arrOf st')∧Seg R (arrOf st') lo (lo+m)∧pe.size≤lo∧Fst pe lo) (Q:=fun c st'=>c=(none,())∧∃ pe,TWG kd a0 pe st'∧z95 pe lo∧RS R pe (arrOf st')∧Seg R (arrOf st') lo (lo+m)∧pe.size≤lo∧Fst pe lo) ?mstep (fun _ _ z=>z) ⟨rfl,pe1,hW2,hR1,hS2,hs2,hz1,hf1⟩) ?mpost)
        case mpost =>
          rintro c st5 ⟨rfl,pe5,hW5,hR5,hS5,hs5,hz5,hf5⟩
          dsimp only
          have hp5:pendingOf st5=pe5:=hW5.pend
          refine wpS_bind (wpS_modify ?_)
          have hW6:TWG kd a0 (pe5.modify (pe5.size - 1) fun x=>(x.fst,x.2.fst,power' a0.length (2*s1+n1) (2*s1+n1+n1+m) a0.length)) (setPending st5 (pe5.modify (pe5.size - 1) fun x=>(x.fst,x.2.fst,power' a0.length (2*s1+n1) (2*s1+n1+n1+m) a0.length))):=⟨hW5.perm,hW5.kind,hW5.failed,rfl⟩
          have hR6:z95 (pe5.modify (pe5.size - 1) fun x=>(x.fst,x.2.fst,power' a0.length (2*s1+n1) (2*s1+n1+n1+m) a0.length)) lo:=z9k hR5
          have hS6:RS R (pe5.modify (pe5.size - 1) fun x=>(x.fst,x.2.fst,power' a0.length (2*s1+n1) (2*s1+n1+n1+m) a0.length)) (arrOf st5):=hS5.power
          have hf6:Fst (pe5.modify (pe5.size - 1) fun x=>(x.fst,x.2.fst,power' a0.length (2*s1+n1) (2*s1+n1+n1+m) a0.length)) lo:=hf5.power
          rw [hp5]
          have hpp:pendingOf _=pe5.modify (pe5.size - 1) fun x=>(x.fst,x.2.fst,power' a0.length (2*s1+n1) (2*s1+n1+n1+m) a0.length):=hW6.pend
          refine wpS_bind (wpS_modify (wpS_pure ?_))
          exact ⟨_,(pe5.modify (pe5.size - 1) fun x=>(x.fst,x.2.fst,power' a0.length (2*s1+n1) (2*s1+n1+n1+m) a0.length)).push (lo,m,0),rfl,⟨hW6.perm,hW6.kind,hW6.failed,congrArg (fun z=>Array.push z (lo,m,0)) hpp⟩,z6e hR6 q1,RS.push hS6 hs5,q2,by rw [Array.size_push,Array.size_modify];omega,hf6.push,by omega⟩
        case mstep =>
          rintro y c st5 _ hy ⟨rfl,pe5,hW5,hR5,hS5,hs5,hz5,hf5⟩
          refine wpS_bind (wpS_get ?_)
          have hp5:pendingOf st5=pe5:=hW5.pend
          rw [hp5]
          by_cases hz:pe5.size > 1
          · rw [if_pos hz,Array.getElem?_eq_getElem (show pe5.size - 2<pe5.size by omega)]
            dsimp only
            refine z0d (fun e6=>wpS_pure ⟨rfl,pe5,hW5,hR5,hS5,hs5,hz5,hf5⟩) (fun e6=>?_)
            refine wpS_bind (z6n o L hg hW5 hR5 hS5 hlo (by omega) fun pe7 st7 hW7 hR7 hS7 hsm7 hz7 hst7=>?_)
            refine wpS_pure ⟨rfl,pe7,hW7,hR7,hS7,hs5.same hsm7 (.inr (by omega)),by omega,?_⟩
            rcases hf5 with ⟨f1,f2⟩ | ⟨na,pw,f⟩
            · omega
            · exact .inr (hst7 0 na pw f)
          · rw [if_neg hz]
            exact wpS_pure ⟨rfl,pe5,hW5,hR5,hS5,hs5,hz5,hf5⟩
  case post =>
    rintro c st1 ⟨pe1,rfl,hW1,hR1,hS1,hz1,hf1⟩
    dsimp only
    refine wpS_bind (wpS_mono (wpS_forRange (I:=fun x c st'=>c=(none,())∧∃ pe,TWG kd a0 pe st'∧z95 pe a0.length∧RS R pe (arrOf st')∧(pe.size+x≤a0.length+1∨pe.size≤1)∧Fst pe a0.length) (Q:=fun c st'=>c=(none,())∧∃ pe,TWG kd a0 pe st'∧z95 pe a0.length∧RS R pe (arrOf st')∧pe.size≤1∧Fst pe a0.length) ?fstep ?ffin ⟨rfl,pe1,hW1,hR1,hS1,.inl (by omega),hf1⟩) ?fpost)
    case ffin =>
      rintro c st3 ⟨rfl,pe3,hW3,hR3,hS3,hz3,hf3⟩
      exact ⟨rfl,pe3,hW3,hR3,hS3,by omega,hf3⟩
    case fpost =>
      rintro c st3 ⟨rfl,pe3,hW3,hR3,hS3,hz3,hf3⟩
      refine wpS_pure (h st3 hW3.perm ?_ hW3.failed)
      rcases hf3 with ⟨f1,f2⟩ | ⟨na,pw,f⟩
      · have:(arrOf st3).toList=[]:=by
          have:=hW3.perm.length_eq
          exact List.length_eq_zero_iff.mp (by omega)
        rw [this];exact .nil
      · have hs:=hS3 0 0 na pw f
        have hn:=(hR3 0 0 na pw f).2.2.2 (by rw [Array.getElem?_eq_none_iff];omega)
        refine zpx ?_
        rw [hW3.size,← hn]
        exact hs
    case fstep =>
      rintro y c st3 _ hy ⟨rfl,pe3,hW3,hR3,hS3,hz3,hf3⟩
      refine wpS_bind (wpS_get ?_)
      have hp:pendingOf st3=pe3:=hW3.pend
      rw [hp]
      refine z0d (fun e6=>wpS_pure ⟨rfl,pe3,hW3,hR3,hS3,e6,hf3⟩) (fun e6=>?_)
      refine wpS_bind (z6n o L hg hW3 hR3 hS3 (Nat.le_refl _) ?_ fun pe4 st4 hW4 hR4 hS4 _ hz4 hst4=>?_)
      · repeat' (first | omega | split)
      · refine wpS_pure ⟨rfl,pe4,hW4,hR4,hS4,.inl (by omega),?_⟩
        rcases hf3 with ⟨f1,f2⟩ | ⟨na,pw,f⟩
        · omega
        · exact .inr (hst4 0 na pw f)
end
theorem z5o (vs:List Value):(pairsOf vs).toList=vs.map fun v=>(v,v):=by
  have:pairsOf vs=vs.toArray.zip vs.toArray:=rfl
  rw [this,Array.toList_zip]
  apply List.ext_getElem?
  intro i
  rw [List.getElem?_map]
  cases h:vs[i]? with
  | none =>
    have:vs.length≤i:=List.getElem?_eq_none_iff.mp h
    rw [List.getElem?_eq_none_iff.mpr (by simpa using this)]
    rfl
  | some v =>
    have e:(vs.zip vs)[i]?=some (v,v):=List.getElem?_zip_eq_some.mpr ⟨h,h⟩
    exact e
section
variable {prog:Program} {w:World} {A:Around} {E:Value→Shared→Prop} {s:Shared} {kd:SortKind} {Gd:Keyed→Prop} {R:Keyed→Keyed→Bool}
theorem zap (o:Od R) {a:Addr} {vs:List Value} {n:Nat} {P:PySem.Fin→Shared→Prop} (ho:s.heap.get? a=some (seqObj "list" vs.toArray n)) (hz:vs.length≤sizeLine) (hG:∀ v∈vs,Gd (v,v))
    (hS:∀ s6:Shared,(∀ b x,b≠a→s.heap.get? b=some x→s6.heap.get? b=some x)→(2≤vs.length→wpAny (model prog w) A (keyKind' vs.toArray) (fun k s'=>k=kd∧s'=s6) E s6)∧LtOk prog w A E s6 kd Gd R)
    (h:∀ out:Array Value,out.toList.Perm vs→(out.toList.map fun v=>((v,v):Keyed)).Pairwise (Le R)→P (.done (.ret .none)) { s with heap:=sortedHeap s.heap a vs out }) :
    wpAny (model prog w) A (Builtin.«list.sort» ⟨[.ref a],[]⟩) P E s:=by
  rw [list_sort_plain]
  have ha:a<s.heap.objs.size:=Heap.lt_size ho
  have hsz:vs.toArray.size=vs.length:=by simp
  refine wpAny_bind (listItems_at ho rfl ?_)
  refine wpAny_bind (listUpdate_at ho rfl ?_ (by rw [hsz];exact hz))
  obtain ⟨e1,ho1⟩:∃ e1,(s.heap.update a (Obj.mapSeq fun _=>#[])).get? a=some (seqObj "list" #[] e1):=⟨_,get?_update_seq ho (fun _=>#[])⟩
  refine wpAny_bind (seqEpoch_at ho1 rfl ?_)
  refine wpAny_bind (wpAny_newTuple ?_ (by simpa using hz))
  refine wpAny_bind (wpAny_newList ?_)
  refine wpAny_holding ?_
  have ho6:(((s.heap.update a (Obj.mapSeq fun _=>#[])).push (seqObj "tuple" vs.toArray 0)).push (seqObj "list" #[] 0)).get? a=some (seqObj "list" #[] e1):=by
    rw [Heap.get?_push_ne _ _ _ (by rw [size_push',Heap.size_update];exact Nat.ne_of_lt (Nat.lt_succ_of_lt ha)),Heap.get?_push_ne _ _ _ (by rw [Heap.size_update];exact Nat.ne_of_lt ha)]
    exact ho1
  have old6:∀ b x,b≠a→s.heap.get? b=some x→(((s.heap.update a (Obj.mapSeq fun _=>#[])).push (seqObj "tuple" vs.toArray 0)).push (seqObj "list" #[] 0)).get? b=some x:=fun b x hb hx=>by
    refine Heap.get?_push_of_some _ (Heap.get?_push_of_some _ ?_)
    rw [Heap.get?_update_ne _ _ _ _ hb]
    exact hx
  show wpAny (model prog w) A _ P E { s with heap:=((s.heap.update a (Obj.mapSeq fun _=>#[])).push (seqObj "tuple" vs.toArray 0)).push (seqObj "list" #[] 0) }
  dsimp only
  obtain ⟨hK,hL⟩:=hS { s with heap:=((s.heap.update a (Obj.mapSeq fun _=>#[])).push (seqObj "tuple" vs.toArray 0)).push (seqObj "list" #[] 0) } old6
  have fin:∀ (xs:Array Keyed),xs.toList.Perm (pairsOf vs).toList→xs.toList.Pairwise (Le R)→P (.done (.ret .none)) { s with heap:=sortedHeap s.heap a vs (xs.map (·.2)) }:=by
    intro xs hp hs
    rw [z5o] at hp
    have e:((xs.map (·.2)).toList.map fun v=>((v,v):Keyed))=xs.toList:=by
      rw [Array.toList_map,List.map_map]
      conv=>rhs;rw [← List.map_id xs.toList]
      refine List.map_congr_left fun p hpm=>?_
      obtain ⟨v,_,rfl⟩:=List.mem_map.mp (hp.mem_iff.mp hpm)
      rfl
    refine h _ ?_ (by rw [e];exact hs)
    rw [Array.toList_map]
    have:=hp.map (·.2)
    rw [List.map_map] at this
    have e2:vs.map ((fun x:Keyed=>x.2) ∘ fun v=>(v,v))=vs:=by
      conv=>rhs;rw [← List.map_id vs]
      rfl
    rw [e2] at this
    exact this
  have hlenP:∀ (xs:Array Keyed),xs.toList.Perm (pairsOf vs).toList→xs.size=vs.length:=fun xs hp=>by
    have:=hp.length_eq
    rw [z5o,List.length_map,Array.length_toList] at this
    exact this
  by_cases h2:vs.toArray.size<2
  · rw [if_pos h2,if_pos h2]
    refine wpAny_bind (wpAny_pure ?_)
    rw [StateT.run_pure]
    refine wpAny_bind (wpAny_pure ?_)
    dsimp only
    refine wpAny_bind (seqEpoch_at ho6 rfl ?_)
    refine wpAny_bind (listUpdate_at ho6 rfl ?_ (hsz2:=by rw [Array.size_map];show (pairsOf vs).size≤_;rw [pairsOf_size];omega))
    simp only [bne_self_eq_false,Bool.false_eq_true,if_false]
    refine wpAny_pure (fin (pairsOf vs) (List.Perm.refl _) ?_)
    rw [z5o]
    match vs,hsz,h2 with
    | [],_,_=>exact .nil
    | [v],_,_=>simp
    | _::_::r,hs,h2=>simp at h2;omega
  · rw [if_neg h2,if_neg h2]
    refine wpAny_bind (wpAny_mono (hK (by omega)) ?_ fun _ _ e=>e)
    rintro k s' ⟨rfl,rfl⟩
    refine wpAny_bind (wpAny_mono (zmm (a0:=(pairsOf vs).toList) (st:=SortSt.mk' k (vs.toArray.zip vs.toArray) #[] 7 none)
      (Q:=fun _ st'=>(arrOf st').toList.Perm (pairsOf vs).toList∧(arrOf st').toList.Pairwise (Le R)∧failedOf st'=none) o hL
      (fun p hp=>by rw [z5o] at hp;obtain ⟨v,hv,rfl⟩:=List.mem_map.mp hp;exact hG v hv) ⟨List.Perm.refl _,rfl,rfl,rfl⟩ fun st' a b c=>⟨a,b,c⟩) ?_ fun _ _ e=>e)
    rintro ⟨⟨⟩,st'⟩ s' ⟨rfl,hp,hs,hf⟩
    dsimp only
    refine wpAny_bind (seqEpoch_at ho6 rfl ?_)
    refine wpAny_bind (listUpdate_at ho6 rfl ?_ (hsz2:=by rw [Array.size_map,hlenP _ hp];exact Nat.le_succ_of_le hz))
    rw [hf]
    simp only [bne_self_eq_false,Bool.false_eq_true,if_false]
    exact wpAny_pure (fin _ hp hs)
theorem sorted_gen (o:Od R) {l:Addr} {vs:List Value} {Q:Value→Shared→Prop} (hl:s.heap.IsList l vs.toArray) (hz:vs.length≤sizeLine) (hG:∀ v∈vs,Gd (v,v))
    (hS:∀ s6:Shared,(∀ b x,s.heap.get? b=some x→s6.heap.get? b=some x)→(2≤vs.length→wpAny (model prog w) A.in1.in1 (keyKind' vs.toArray) (fun k s'=>k=kd∧s'=s6) E s6)∧LtOk prog w A.in1.in1 E s6 kd Gd R)
    (h:∀ out:Array Value,out.toList.Perm vs→(out.toList.map fun v=>((v,v):Keyed)).Pairwise (Le R)→Q (.ref (s.heap.objs.size+1)) { s with heap:=sortedAll s.heap vs out }) :
    wpAny (model prog w) A (call (.builtin "sorted") [.ref l]) Q E s:=by
  refine Calls.call_function_entry kind_sorted plain_sorted entry_sorted (args_sorted1 _) ?_
  unfold Builtin.«sorted»
  refine wpAny_bind (m:=checkCount "sorted" 1 1 _) (wpAny_pure ?_)
  refine wpAny_bind (collect_list hl ?_ hz)
  refine wpAny_bind (wpAny_newList ?_ hz)
  have hsz:((s.heap.push (seqObj "list" #[] 0)).update s.heap.objs.size (Obj.mapSeq (·++vs.toArray))).objs.size=s.heap.objs.size+1:=by
    rw [Heap.size_update,size_push']
  have hoL:(((s.heap.push (seqObj "list" #[] 0)).update s.heap.objs.size (Obj.mapSeq (·++vs.toArray))).push (seqObj "list" vs.toArray 0)).get? (s.heap.objs.size+1)=some (seqObj "list" vs.toArray 0):=by
    rw [← hsz];exact Heap.get?_push_size _ rfl
  have old:∀ b x,s.heap.get? b=some x→(((s.heap.push (seqObj "list" #[] 0)).update s.heap.objs.size (Obj.mapSeq (·++vs.toArray))).push (seqObj "list" vs.toArray 0)).get? b=some x:=fun b x hx=>by
    refine Heap.get?_push_of_some _ ?_
    have hb:b≠s.heap.objs.size:=Nat.ne_of_lt (Heap.lt_size hx)
    rw [Heap.get?_update_ne _ _ _ _ hb]
    exact Heap.get?_push_of_some _ hx
  show wpAny _ _ _ _ _ { s with heap:=((s.heap.push (seqObj "list" #[] 0)).update s.heap.objs.size (Obj.mapSeq (·++vs.toArray))).push (seqObj "list" vs.toArray 0) }
  rw [hsz]
  refine wpAny_bind (wpAny_holding (wpAny_call_entry slot_list_sort ⟨_,hoL,rfl⟩ entry_list_sort (zap o hoL hz hG (fun s6 h6=>hS s6 fun b x hx=>h6 b x ?_ (old b x hx)) fun out a1 a2=>⟨_,rfl,?_⟩) (args_list_sort _)))
  · exact Nat.ne_of_lt (Nat.lt_succ_of_lt (Heap.lt_size hx))
  · exact wpAny_pure ⟨_,rfl,h out a1 a2⟩
end
end Ts
namespace L2
open PySem PyProof.Rows
noncomputable def lexLt:List Int→List Int→Bool
  | [],[]=>false
  | [],_::_=>true
  | _::_,[]=>false
  | x::xs,y::ys=>if x=y then lexLt xs ys else decide (x<y)
theorem rcLt_int (A:Around) (s:Shared) (a:Int) (t:Tok) (c:Int) (u:Tok) (prog:Program) (w:World) (E:Value→Shared→Prop) (Q:Value→Shared→Prop) (h:Q (.bool (decide (a<c))) s) :
    wpAny (model prog w) A (richCompare .Lt (.int a t) (.int c u)) Q E s :=
  (PyProof.Rows.lt_int h:wpAny (model prog w) A (compareOp .Lt (.int a t) (.int c u)) Q E s)
section
open PySem.SeqAt
open PySem.AutoSeq1 (wpAny_loadPart')
open PySem.MeetsSeq PySem.MeetsSeq2 PySem.MeetsSeq3
theorem zhg (l b:Addr) (items items2:Array Value) (n n2:Nat) (dd dd2:Option Addr) (sl sl2:Array (Option Value)) (ns ms:List Int) (hi:IntsAre items.toList ns) (hj:IntsAre items2.toList ms) (k:Nat) :
    ∀ i:Nat,items.size - i=k→i≤items.size→i≤items2.size→Meets (Builtin.«list.__eq__.loop» ⟨[.ref l,.ref b,rawInt i,rawInt 0],[]⟩)
      (fun A R s=>s.heap.get? l=some { cls:=.type "list",dict:=dd,data:=.seq items n,slots:=sl }∧s.heap.get? b=some { cls:=.type "list",dict:=dd2,data:=.seq items2 n2,slots:=sl2 } ∧
        R (.ok (.ret (.bool (lexLt (ns.drop i) (ms.drop i))))) s):=by
  have z1:items.size=ns.length:=by rw [← hi.length];simp
  have z2:items2.size=ms.length:=by rw [← hj.length];simp
  induction k with
  | zero =>
    intro i hk h1 h2 prog w A R s h
    obtain ⟨hp,g,d,tk,os⟩:=s;obtain ⟨hl,hb,h⟩:=h
    wp_walk using wpAny_loadPart' hl,wpAny_loadPart' hb
    have hi1:items[((i:Nat):Int).toNat]?=none:=by simp;omega
    have e1:ns.drop i=[]:=by simp;omega
    rw [hi1]
    cases hq:items2[((i:Nat):Int).toNat]? <;> wp_walk using wpAny_loadPart' hl,wpAny_loadPart' hb
    all_goals
      show R (.ok (.ret (.bool (decide (items.size<items2.size))))) _
      have e2:decide (items.size<items2.size)=lexLt (ns.drop i) (ms.drop i):=by
        rw [e1]
        cases hm:ms.drop i with
        | nil =>
          have:ms.length≤i:=by simpa using hm
          simp [lexLt];omega
        | cons y ys =>
          have:i<ms.length:=by
            rcases Nat.lt_or_ge i ms.length with z | z
            · exact z
            · rw [List.drop_eq_nil_of_le z] at hm;cases hm
          simp [lexLt];omega
      rw [e2];exact h
  | succ k ih =>
    intro i hk h1 h2 prog w A R s h
    obtain ⟨hp,g,d,tk,os⟩:=s;obtain ⟨hl,hb,h⟩:=h
    wp_walk using wpAny_loadPart' hl,wpAny_loadPart' hb
    have hlt:i<items.size:=by omega
    have hi1:items[((i:Nat):Int).toNat]?=some items[i]:=by simp [hlt]
    have d1:ns.drop i=ns[i]'(by omega)::ns.drop (i+1):=List.drop_eq_getElem_cons _
    rw [hi1]
    by_cases hlt2:i<items2.size
    · have hi2:items2[((i:Nat):Int).toNat]?=some items2[i]:=by simp [hlt2]
      have d2:ms.drop i=ms[i]'(by omega)::ms.drop (i+1):=List.drop_eq_getElem_cons _
      have hc:((i:Int)+1)=((i+1:Nat):Int):=by push_cast;rfl
      obtain ⟨t,et⟩:=hi.int_at i items[i] (by simp [hlt])
      obtain ⟨u,eu⟩:=hj.int_at i items2[i] (by simp [hlt2])
      have g1:ns.getD i 0=ns[i]'(by omega):=by simp [List.getD_eq_getElem?_getD,List.getElem?_eq_getElem (show i<ns.length by omega)]
      have g2:ms.getD i 0=ms[i]'(by omega):=by simp [List.getD_eq_getElem?_getD,List.getElem?_eq_getElem (show i<ms.length by omega)]
      rw [g1] at et
      rw [g2] at eu
      rw [hi2,et,eu]
      rw [d1,d2,lexLt] at h
      refine bq fun bG=>?_
      obtain ⟨e,he,hiff⟩:=HT.eqAt_int A.in1 ⟨hp,g,d,tk,os⟩ (ns[i]'(by omega)) t (ms[i]'(by omega)) u
      refine bG (wpAny_bind (he prog w _ _ ?_))
      cases e with
      | true =>
        rw [if_pos (hiff.mp rfl)] at h
        wp_walk
        rw [hc]
        exact ⟨plainId_quiet plain_eq_loop _,codeAny_builtin entry_eq_loop (by
          rw [Around.under_plainId plain_eq_loop _]
          exact ih (i+1) (by omega) (by omega) (by omega) prog w A R _ ⟨hl,hb,h⟩)⟩
      | false =>
        rw [if_neg (fun q=>absurd (hiff.mpr q) Bool.false_ne_true)] at h
        have hri:=rcLt_int A.in1 ⟨hp,g,d,tk,os⟩ (ns[i]'(by omega)) t (ms[i]'(by omega)) u prog w
        wp_walk using wpAny_loadPart' hl,wpAny_loadPart' hb
        rw [hi1,hi2,et,eu]
        wp_walk using hri
        exact h
    · have hi2:items2[((i:Nat):Int).toNat]?=none:=by simp;omega
      have d2:ms.drop i=[]:=by simp;omega
      rw [hi2]
      wp_walk using wpAny_loadPart' hl,wpAny_loadPart' hb
      show R (.ok (.ret (.bool (decide (items.size<items2.size))))) _
      rw [d1,d2,lexLt] at h
      have e2:decide (items.size<items2.size)=false:=by simp;omega
      rw [e2];exact h
theorem zhk (l b:Addr) (items items2:Array Value) (n n2:Nat) (dd dd2:Option Addr) (sl sl2:Array (Option Value)) (ns ms:List Int) (hi:IntsAre items.toList ns) (hj:IntsAre items2.toList ms) :
    Meets (Builtin.«list.__lt__» ⟨[.ref l,.ref b],[]⟩)
      (fun A R s=>s.heap.get? l=some { cls:=.type "list",dict:=dd,data:=.seq items n,slots:=sl }∧s.heap.get? b=some { cls:=.type "list",dict:=dd2,data:=.seq items2 n2,slots:=sl2 } ∧
        R (.ok (.ret (.bool (lexLt ns ms)))) s):=by
  intro prog w A R s h
  obtain ⟨hp,g,d,tk,os⟩:=s;obtain ⟨hl,hb,h⟩:=h
  have f3:=AutoSeq1.sub_list_list
  wp_walk using wpAny_loadPart' hl,wpAny_loadPart' hb
  exact ⟨plainId_quiet plain_eq_loop _,codeAny_builtin entry_eq_loop (by
    rw [Around.under_plainId plain_eq_loop _]
    exact zhg l b items items2 n n2 dd dd2 sl sl2 ns ms hi hj _ 0 rfl (Nat.zero_le _) (Nat.zero_le _) prog w A R _ ⟨hl,hb,by simpa using h⟩)⟩
end
theorem z3c:∀ a b,lexLt a b=true→lexLt b a=false
  | [],[],h=>by cases h
  | [],_::_,_=>rfl
  | _::_,[],h=>by cases h
  | x::xs,y::ys,h=>by
    unfold lexLt at h ⊢
    by_cases e:x=y
    · subst e;rw [if_pos rfl] at h ⊢;exact z3c xs ys h
    · rw [if_neg e] at h;rw [if_neg (Ne.symm e)]
      simp at h ⊢;omega
theorem z4w:∀ a b c,lexLt a b=false→lexLt b c=false→lexLt a c=false
  | [],[],c,_,h=>h
  | [],_::_,_,h,_=>by cases h
  | _::_,_,[],_,_=>rfl
  | _::_,[],_::_,_,h=>by cases h
  | x::xs,y::ys,z::zs,h1,h2=>by
    unfold lexLt at h1 h2 ⊢
    by_cases e1:x=y
    · subst e1
      rw [if_pos rfl] at h1
      by_cases e2:x=z
      · subst e2;rw [if_pos rfl] at h2 ⊢;exact z4w xs ys zs h1 h2
      · rw [if_neg e2] at h2 ⊢;exact h2
    · rw [if_neg e1] at h1
      by_cases e2:y=z
      · subst e2;rw [if_neg e1];exact h1
      · rw [if_neg e2] at h2
        simp at h1 h2
        rw [if_neg (by omega)]
        simp;omega
theorem za6:∀ a b,lexLt a b=false→lexLt b a=false→a=b
  | [],[],_,_=>rfl
  | [],_::_,h,_=>by cases h
  | _::_,[],_,h=>by cases h
  | x::xs,y::ys,h1,h2=>by
    unfold lexLt at h1 h2
    by_cases e:x=y
    · subst e;rw [if_pos rfl] at h1 h2;rw [za6 xs ys h1 h2]
    · rw [if_neg e] at h1;rw [if_neg (Ne.symm e)] at h2
      simp at h1 h2;omega
noncomputable def zaz (h:Heap) (v:Value):List Int:=match v with
  | .ref a=>match h.get? a with
    | some ⟨_,_,.seq items _,_⟩=>items.toList.map numOf
    | _=>[]
  | _=>[]
theorem zkk {vs:List Value} {ns:List Int} (h:IntsAre vs ns):vs.map numOf=ns:=by
  induction h with
  | nil=>rfl
  | cons n t r ih=>simp [numOf,ih]
def GdL (h:Heap) (p:Keyed):Prop:=∃ a items ns,p.1=.ref a∧h.IsList a items∧IntsAre items.toList ns
noncomputable def RL' (h:Heap) (x y:Keyed):Bool:=lexLt (zaz h x.1) (zaz h y.1)
theorem ztr (h:Heap):Ts.Od (RL' h):=⟨fun a b=>z3c _ _,fun a b c=>z4w _ _ _⟩
theorem zay {h:Heap} {a:Addr} {items:Array Value} {ns:List Int} (hl:h.IsList a items) (hi:IntsAre items.toList ns):zaz h (.ref a)=ns:=by
  obtain ⟨⟨cls,dd,data,sl⟩,ho,hc,n,hd⟩:=hl
  simp only at hd
  subst hd
  unfold zaz
  simp only [ho]
  exact zkk hi
section
variable {prog:Program} {w:World} {A:Around} {E:Value→Shared→Prop}
theorem z88 {h h':Heap} (k:∀ b x,h.get? b=some x→h'.get? b=some x) {a:Addr} {items:Array Value} (hl:h.IsList a items):h'.IsList a items:=by
  obtain ⟨o,ho,r⟩:=hl
  exact ⟨o,k _ _ ho,r⟩
theorem zf6 {s:Shared} {l b:Addr} {items items2:Array Value} {ns ms:List Int} {Q:Bool→Shared→Prop} (hl:s.heap.IsList l items) (hb:s.heap.IsList b items2) (hi:IntsAre items.toList ns) (hj:IntsAre items2.toList ms) (hu:A.units<cLine) (h:Q (lexLt ns ms) s) :
    wpAny (model prog w) A (oneLt' true (.ref l) (.ref b)) Q E s:=by
  obtain ⟨⟨cls,dd,data,sl⟩,ho,hc,n,hd⟩:=id hl
  obtain ⟨⟨cls2,dd2,data2,sl2⟩,ho2,hc2,n2,hd2⟩:=id hb
  simp only at hc hd hc2 hd2
  subst hc hd hc2 hd2
  rw [oneLt'_eq]
  simp only [if_true]
  refine wpAny_bind (wpAny_cRoomFor hu ?_)
  refine wpAny_bind (wpAny_callSpecialIfBound?_slot (T := "list") (id := "list.__lt__") ⟨_,ho,rfl⟩ PySem.F.slot_list_lt (call_meets PySem.F.slot_list_lt ⟨_,ho,rfl⟩ PySem.F.entry_list_lt (PySem.F.args_list_lt_2 _ _) (zhk l b items items2 n n2 dd dd2 sl sl2 ns ms hi hj) ⟨ho,ho2,?_⟩))
  exact wpAny_truthy_bool h
theorem z99 {α β:Type} {M:Model} {s:Shared} {f:α→Sem β} {g:α→β}:∀ {l:List α},(∀ v∈l,wpAny M A (f v) (fun r s'=>r=g v∧s'=s) E s)→∀ {Q:List β→Shared→Prop},Q (l.map g) s→wpAny M A (l.mapM f) Q E s
  | [],_,Q,h=>by rw [List.mapM_nil];exact wpAny_pure h
  | a::l,hl,Q,h=>by
    rw [List.mapM_cons]
    refine wpAny_bind (wpAny_mono (hl a (by simp)) ?_ fun _ _ e=>e)
    rintro r s' ⟨rfl,rfl⟩
    refine wpAny_bind (z99 (g:=g) (fun v hv=>hl v (by simp [hv])) ?_)
    exact wpAny_pure h
theorem z9a {α β:Type} {M:Model} {s:Shared} {f:α→Sem β} {g:α→β} {l:List α} (hl:∀ v∈l,wpAny M A (f v) (fun r s'=>r=g v∧s'=s) E s) {Q:Array β→Shared→Prop} (h:Q (l.map g).toArray s):wpAny M A (l.toArray.mapM f) Q E s:=by
  rw [List.mapM_toArray,map_eq_pure_bind]
  exact wpAny_bind (z99 (g:=g) hl (wpAny_pure h))
theorem zaq {s:Shared} {vs:List Value} (hv:∀ v∈vs,∃ a o,v=.ref a∧s.heap.get? a=some o∧o.cls=.type "list") (h2:2≤vs.length):wpAny (model prog w) A (keyKind' vs.toArray) (fun k s'=>k=oneType'∧s'=s) E s:=by
  obtain ⟨v₁,v₂,r,rfl⟩:∃ v₁ v₂ r,vs=v₁::v₂::r:=by
    match vs,h2 with
    | v₁::v₂::r,_=>exact ⟨v₁,v₂,r,rfl⟩
  rw [keyKind'_eq]
  refine wpAny_bind (z9a (g:=fun _=>none) (fun v hm=>?_) ?_)
  · obtain ⟨a,o,rfl,ho,hc⟩:=hv v hm
    show wpAny _ _ (do
      if (← typeOf (.ref a)) != .type "tuple" then return none
      return (← Builtin.List.listItems (.ref a))[0]?) _ _ _
    refine wpAny_bind (wpAny_typeOf_ref ho ?_)
    rw [hc]
    exact wpAny_pure ⟨rfl,rfl⟩
  rw [if_neg (by simp),if_neg (by simp),oneTypeOnly'_eq]
  refine wpAny_bind (wpAny_bind (z9a (g:=fun _=>Value.type "list") (fun v hm=>?_) ?_))
  · obtain ⟨a,o,rfl,ho,hc⟩:=hv v hm
    exact wpAny_typeOf_ref ho ⟨hc,rfl⟩
  have hall:((List.map (fun _=>Value.type "list") (v₁::v₂::r)).toArray.all fun x=>x==Value.type "list")=true:=by
    simp only [List.all_toArray,List.all_map,List.all_eq_true]
    intro _ _
    rfl
  have h0:(List.map (fun _=>Value.type "list") (v₁::v₂::r)).toArray[0]?=some (Value.type "list"):=by simp
  rw [h0]
  simp only [hall,if_true]
  exact wpAny_pure (wpAny_pure ⟨rfl,rfl⟩)
theorem zfb {s s6:Shared} (hu:A.units<cLine) (k:∀ b x,s.heap.get? b=some x→s6.heap.get? b=some x):Ts.LtOk prog w A E s6 oneType' (GdL s.heap) (RL' s.heap):=by
  intro st x y Q hk hx hy h
  obtain ⟨a,items,ns,e1,l1,i1⟩:=hx
  obtain ⟨b,items2,ms,e2,l2,i2⟩:=hy
  rw [lt'_eq]
  refine wpS_bind (wpS_get ?_)
  rw [hk,keyLt'_oneType,e1,e2]
  have er:RL' s.heap x y=lexLt ns ms:=by unfold RL';rw [e1,e2,zay l1 i1,zay l2 i2]
  rw [er] at h
  refine wpS_bind (wpS_lift (wpAny_attempt (zf6 (z88 k l1) (z88 k l2) i1 i2 hu ⟨rfl,?_⟩)))
  exact wpS_pure h
end
end L2
namespace L2
open PySem PySem.Spec PyProof.Rows
noncomputable def z1r (nss:List (List Int)):List (List Int):=nss.mergeSort (fun a b=>!lexLt b a)
theorem z6d {ms ns:List (List Int)} (h1:ms.Perm ns) (h2:ms.Pairwise (fun a b=>lexLt b a=false)):ms=z1r ns:=by
  have h3:(z1r ns).Pairwise (fun a b=>(!lexLt b a)=true):=List.pairwise_mergeSort (le:=fun a b=>!lexLt b a) (fun a b c x y=>by
    simp only [Bool.not_eq_true'] at *
    exact z4w c b a y x) (fun a b=>by
    cases h:lexLt b a with
    | false=>rfl
    | true=>rw [z3c b a h];rfl) ns
  have h3:(z1r ns).Pairwise (fun a b=>lexLt b a=false):=h3.imp fun h=>by simpa using h
  exact List.Perm.eq_of_pairwise (le:=fun a b=>lexLt b a=false) (fun a b _ _ h h'=>za6 a b h' h) h2 h3 (h1.trans (List.mergeSort_perm ns _).symm)
noncomputable def toV:Value→V
  | .ref a=>.ref a
  | _=>.non
section
variable {X:Cx}
theorem zdi {P:V→List Int→Prop} {c:Value→List Int}:∀ {vs:List V} {nss:List (List Int)} {us:List Value},Paired P vs nss→Vals vs us→(∀ v ns u,P v ns→RelV v u→u∈us→toV u=v∧c u=ns)→vs.zip nss=us.map fun u=>(toV u,c u)
  | _,_,_,.nil,.nil,_=>rfl
  | _,_,_,.cons p ps,.cons r rs,h=>by
    obtain ⟨h1,h2⟩:=h _ _ _ p r (by simp)
    rw [List.zip_cons_cons,List.map_cons,h1,h2,zdi ps rs fun v ns u a b m=>h v ns u a b (by simp [m])]
theorem z9z {α β:Type} {P:α→β→Prop}:∀ {xs:List α} {ys:List β},Paired P xs ys→∀ {y},y∈ys→∃ x∈xs,P x y
  | _,_,.nil,_,h=>by cases h
  | _,_,.cons p ps,y,h=>by
    rcases List.mem_cons.mp h with rfl | h
    · exact ⟨_,by simp,p⟩
    · obtain ⟨x,hx,q⟩:=z9z ps h
      exact ⟨x,by simp [hx],q⟩
theorem z82 {α β:Type} {P:α→β→Prop}:∀ {xs:List α} {ys:List β},Paired P xs ys→∀ {x},x∈xs→∃ y∈ys,P x y
  | _,_,.nil,_,h=>by cases h
  | _,_,.cons p ps,y,h=>by
    rcases List.mem_cons.mp h with rfl | h
    · exact ⟨_,by simp,p⟩
    · obtain ⟨x,hx,q⟩:=z82 ps h
      exact ⟨x,by simp [hx],q⟩
theorem za0 {α β:Type} {P:α→β→Prop} {f:β→α}:∀ {ys:List β},(∀ y∈ys,P (f y) y)→Paired P (ys.map f) ys
  | [],_=>.nil
  | y::ys,h=>.cons (h y (by simp)) (za0 fun z hz=>h z (by simp [hz]))
theorem zc1 (hu:X.A.units+2<cLine):z72 X (.builtin "sorted") (fun xs H Q=>∃ (p:Addr) (vs:List V) (nss:List (List Int)),xs=[.ref p]∧SqL X.K H p vs∧Paired (fun v ns=>∃ a,v=.ref a∧SqL X.K H a (ns.map V.int)) vs nss ∧
    ∀ (l:Addr) (zs:List (V×List Int)),H l=none→zs.Perm (vs.zip nss)→zs.map (·.2)=z1r nss→Q (.ref l) (upd H l (.lst (zs.map (·.1))))):=by
  intro pins s σ H xs us Q I r h
  refine bq fun bG=>?_
  obtain ⟨p,vs,nss,rfl,hq,hn,q⟩:=h
  obtain ⟨u,rfl,ru⟩:=zcn r
  cases ru
  obtain ⟨its,rv,pl,hz⟩:=I.list hq
  have good:∀ u∈its,∃ a items ns,u=.ref a∧s.heap.IsList a items∧IntsAre items.toList ns:=fun u hu=>by
    obtain ⟨v,hv,rel⟩:=z9z rv hu
    obtain ⟨ns,_,a,rfl,hs⟩:=z82 hn hv
    cases rel
    obtain ⟨its2,r2,p2,_⟩:=I.list hs
    exact ⟨a,its2.toArray,ns,rfl,p2.isList,by simpa using za8 r2⟩
  have hzip:vs.zip nss=its.map fun u=>(toV u,zaz s.heap u):=zdi hn rv fun v ns u ⟨a,e,hs⟩ rel hm=>by
    subst e
    cases rel
    obtain ⟨its2,r2,p2,_⟩:=I.list hs
    exact ⟨rfl,zay p2.isList (by simpa using za8 r2)⟩
  have hnss:nss=its.map (zaz s.heap):=by
    have:=congrArg (List.map (·.2)) hzip
    rw [List.map_map] at this
    have e:(vs.zip nss).map (·.2)=nss:=by
      have hl:nss.length≤vs.length:=by have:=Paired.length hn;omega
      exact List.map_snd_zip hl
    rw [e] at this
    exact this
  have hzl:its.length≤sizeLine:=by rw [← rv.length];exact hz
  refine bG (Ts.sorted_gen (kd:=oneType') (Gd:=GdL s.heap) (R:=RL' s.heap) (ztr _) pl.isList hzl (fun v hv=>good v hv) (fun s6 k=>⟨fun h2=>zaq (fun v hv=>?_) h2,zfb (by show X.A.units+1+1<cLine;omega) k⟩) fun out hp hs=>?_)
  · obtain ⟨a,items,ns,rfl,⟨o,ho,hc,_⟩,_⟩:=good v hv
    exact ⟨a,o,rfl,k _ _ ho,hc⟩
  obtain ⟨e,he⟩:=sortedAll_at s.heap its out
  have hb:H (s.heap.objs.size+1)=none:=I.hok.fresh (Nat.le_succ _)
  have hperm:(out.toList.map fun u=>(toV u,zaz s.heap u)).Perm (vs.zip nss):=by rw [hzip];exact hp.map _
  have hsort:(out.toList.map fun u=>(toV u,zaz s.heap u)).map (·.2)=z1r nss:=by
    rw [List.map_map]
    refine z6d ?_ ?_
    · rw [hnss];exact hp.map _
    · rw [List.pairwise_map] at hs ⊢
      exact hs.imp fun h=>h
  have hout:∀ u∈out.toList,∃ a,u=.ref a:=fun u hu=>let ⟨a,_,_,e,_⟩:=good u (hp.mem_iff.mp hu);⟨a,e⟩
  refine ⟨.ref (s.heap.objs.size+1),_,I.laid (t':=s.toks) (a:=s.heap.objs.size+1) (o:=.lst ((out.toList.map fun u=>(toV u,zaz s.heap u)).map (·.1))) (fun b o hb=>sortedAll_old hb) (Nat.le_succ _) ?_,rfl,q _ _ hb hperm hsort⟩
  refine ⟨by rw [List.length_map,List.length_map,hp.length_eq,← rv.length];exact hz,out.toList,e,?_,?_⟩
  · rw [List.map_map]
    exact za0 fun u hu=>by
      obtain ⟨a,rfl⟩:=hout u hu
      rfl
  · exact he
end
section
variable {X:Cx} {a:Expr} {ta:TE} {p pos:Pos}
theorem zlz (K:PySem.W.Frag) (hu:X.A.units+2<cLine) (mm:X.mg "sorted" = none) (ha:PE X a ta) (hg:Gl X "sorted" := by rfl) (hs:starEach [a] X.env=[(false,eval a X.env)]:=by rfl) (hK:X.K=K:=by rfl) :
    PE X (.Call (.Name "sorted" p) [a] [] pos) (fun σ H Q=>ta σ H fun x H1=>∃ (q:Addr) (vs:List V) (nss:List (List Int)),[x]=[.ref q]∧SqL K H1 q vs∧Paired (fun v ns=>∃ a,v=.ref a∧SqL K H1 a (ns.map V.int)) vs nss ∧
      ∀ (l:Addr) (zs:List (V×List Int)),H1 l=none→zs.Perm (vs.zip nss)→zs.map (·.2)=z1r nss→Q (.ref l) (upd H1 l (.lst (zs.map (·.1))))):=by
  subst hK
  exact z3l (zc1 hu) hg mm rfl (z0r ha z2v hs) (he:=hs)
end
end L2
namespace L3
open PySem PySem.Spec L2
section
variable {X:Cx} {K:PySem.W.Frag} {a:Expr} {ea:EV} {p pos:Pos} {k:Nat}
noncomputable def zr4:D→Option (List Int)
  | .lst ds=>optAll inI ds
  | _=>none
noncomputable def dLI (ns:List Int):D:=.lst (ns.map D.int)
theorem zkl {ds:List D} {ns:List Int} (h:optAll inI ds=some ns):ds=ns.map D.int:=by
  induction ds generalizing ns with
  | nil=>cases h;rfl
  | cons d r ih =>
    refine z02 h fun u h1 h=>?_
    refine z02 h fun us h2 h=>?_
    cases h
    cases d <;> cases h1
    rw [ih h2];rfl
theorem ze6 {W:Wd}:∀ {ds:List D} {vs:List V} {nss:List (List Int)},optAll zr4 ds=some nss→DRs K W ds vs→ds=nss.map dLI∧Paired (fun v ns=>(∃ a,v=.ref a∧SqL K W.H a (ns.map V.int))∧DR K W (dLI ns) v) vs nss
  | _,_,_,h,.nil=>by cases h;exact ⟨rfl,.nil⟩
  | d::_,_,_,h,.cons r t=>by
    refine bq fun bG=>?_
    obtain ⟨u,h1,h⟩:=bnd h
    obtain ⟨us,h2,h⟩:=bnd h
    cases h
    obtain ⟨e,ps⟩:=ze6 h2 t
    cases d with
    | lst ds =>
      have h1:optAll inI ds=some u:=h1
      have ed:=zkl h1
      refine bG ⟨by rw [e,List.map_cons];unfold dLI;rw [ed],.cons ⟨?_,?_⟩ ps⟩
      · cases r with
        | lst hr n hd =>
          have:=zda h1 hd
          subst this
          exact ⟨_,rfl,SqL.of hr⟩
      · unfold dLI;rw [← ed];exact r
    | _=>cases h1
noncomputable def z7n (x:D) (μ:M):Option (D×M):=(z5v μ x).bind fun ds=>(optAll zr4 ds).bind fun nss=>some (.lst ((z1r nss).map dLI),μ)
theorem zm0 {W:Wd}:∀ {zs:List (V×List Int)},(∀ z∈zs,DR K W (dLI z.2) z.1)→DRs K W ((zs.map (·.2)).map dLI) (zs.map (·.1))
  | [],_=>.nil
  | z::zs,h=>.cons (h z (by simp)) (zm0 fun y hy=>h y (by simp [hy]))
theorem z9y {α β:Type} {P:α→β→Prop}:∀ {xs:List α} {ys:List β},Paired P xs ys→∀ z∈xs.zip ys,P z.1 z.2
  | _,_,.nil,z,h=>by cases h
  | _,_,.cons p ps,z,h=>by
    rw [List.zip_cons_cons] at h
    rcases List.mem_cons.mp h with rfl | h
    · exact p
    · exact z9y ps z h
theorem zft (hr:Room k X.A) (mm:X.mg "sorted" = none) (ha:PE X a (tD K ea)) (hg:Gl X "sorted" := by rfl) (hs:starEach [a] X.env=[(false,eval a X.env)]:=by rfl) (hK:X.K=K:=by rfl):PE X (.Call (.Name "sorted" p) [a] [] pos) (tD K (v1 z7n ea)):=z0f (zlz K (by have:=hr.units;omega) mm ha hg hs hK) (z59 (by
  intro W x d z μ' Q ok r1 hf q
  refine z02 hf fun ds h1 hf=>?_
  refine z02 hf fun nss h2 hf=>?_
  cases hf
  obtain ⟨a,vs,rfl,hs,hv⟩:=z54 ok h1 r1
  obtain ⟨e,ps⟩:=ze6 h2 hv
  refine ⟨a,vs,nss,rfl,hs,Paired.mapP ps fun _ _ h=>h.1,fun l zs hl hp he=>?_⟩
  refine q _ (W.lay l _) rfl (z4v ok hl) (z0g hl) (z8c ok hl ?_)
  rw [← he]
  exact zm0 fun z hz=>(z9y ps z (hp.mem_iff.mp hz)).2))
end
noncomputable def zlg (μ:M):D→Option (List Int)
  | .ref k=>match μ[k]? with
    | some (some (.lst ds))=>optAll inI ds
    | _=>none
  | _=>none
noncomputable def zpc (ps:List (D×List Int)):List (D×List Int):=ps.mergeSort (fun a b=>!L2.lexLt b.2 a.2)
noncomputable def z7m (x:D) (μ:M):Option (D×M):=(z5v μ x).bind fun ds=>(optAll (zlg μ) ds).bind fun nss=>if nss.Nodup then some (.lst ((zpc (ds.zip nss)).map (·.1)),μ) else none
theorem zbc (ps:List (D×List Int)):(zpc ps).Perm ps:=List.mergeSort_perm ps _
theorem zjk (ps:List (D×List Int)):(zpc ps).map (·.2)=z1r (ps.map (·.2)):=by
  refine z6d ((zbc ps).map _) ?_
  rw [List.pairwise_map]
  have h3:(zpc ps).Pairwise (fun a b=>(!L2.lexLt b.2 a.2)=true):=List.pairwise_mergeSort (le:=fun a b:D×List Int=>!L2.lexLt b.2 a.2) (fun a b c x y=>by
    simp only [Bool.not_eq_true'] at *
    exact z4w c.2 b.2 a.2 y x) (fun a b=>by
    cases h:L2.lexLt b.2 a.2 with
    | false=>rfl
    | true=>rw [z3c b.2 a.2 h];rfl) ps
  exact h3.imp fun h=>by simpa using h
section
variable {X:Cx} {K:PySem.W.Frag} {a:Expr} {ea:EV} {p pos:Pos} {k:Nat}
theorem zi8 {W:Wd}:∀ {P:List (D×List Int)} {zs:List (V×List Int)},P.map (·.2)=zs.map (·.2)→(∀ q∈P,∀ z∈zs,q.2=z.2→DR K W q.1 z.1)→DRs K W (P.map (·.1)) (zs.map (·.1))
  | [],[],_,_=>.nil
  | [],_::_,h,_=>by cases h
  | _::_,[],h,_=>by cases h
  | q::P,z::zs,h,g=>by
    rw [List.map_cons,List.map_cons] at h
    injection h with h1 h2
    exact .cons (g q (by simp) z (by simp) h1) (zi8 h2 fun a ha b hb=>g a (by simp [ha]) b (by simp [hb]))
theorem refs_at {W:Wd} (ok:Ok K W):∀ {ds:List D} {vs:List V} {nss:List (List Int)},optAll (zlg W.μ) ds=some nss→DRs K W ds vs→ds.length=nss.length∧Paired (fun v ns=>∃ a,v=.ref a∧SqL K W.H a (ns.map V.int)) vs nss
  | _,_,_,h,.nil=>by cases h;exact ⟨rfl,.nil⟩
  | d::_,_,_,h,.cons r t=>by
    refine bq fun bG=>?_
    obtain ⟨u,h1,h⟩:=bnd h
    obtain ⟨us,h2,h⟩:=bnd h
    cases h
    obtain ⟨e,ps⟩:=refs_at ok h2 t
    have hw:∃ ds',zcm W.μ d=some ds'∧optAll inI ds'=some u:=by
      cases d with
      | ref k =>
        simp only [zlg] at h1
        split at h1
        · rename_i ds' hk
          exact ⟨ds',by simp only [zcm,hk],h1⟩
        · cases h1
      | _=>cases h1
    obtain ⟨ds',w1,w2⟩:=hw
    have hl:z5v W.μ d=some ds':=by
      cases d with
      | ref k =>
        unfold zcm at w1
        unfold z5v
        exact w1
      | lst xs=>exact w1
      | _=>cases w1
    obtain ⟨a,vs,rfl,hs,hv⟩:=z54 ok hl r
    have:=zda w2 hv
    subst this
    exact bG ⟨by rw [List.length_cons,List.length_cons,e],.cons ⟨a,rfl,hs⟩ ps⟩
theorem zfs (hr:Room k X.A) (mm:X.mg "sorted" = none) (ha:PE X a (tD K ea)) (hg:Gl X "sorted" := by rfl) (hs:starEach [a] X.env=[(false,eval a X.env)]:=by rfl) (hK:X.K=K:=by rfl):PE X (.Call (.Name "sorted" p) [a] [] pos) (tD K (v1 z7m ea)):=z0f (zlz K (by have:=hr.units;omega) mm ha hg hs hK) (z59 (by
  intro W x d z μ' Q ok r1 hf q
  refine z02 hf fun ds h1 hf=>?_
  refine z02 hf fun nss h2 hf=>?_
  split at hf
  · rename_i hnd
    cases hf
    obtain ⟨a,vs,rfl,hs,hv⟩:=z54 ok h1 r1
    obtain ⟨e,ps⟩:=refs_at ok h2 hv
    refine ⟨a,vs,nss,rfl,hs,ps,fun l zs hl hp he=>?_⟩
    refine q _ (W.lay l _) rfl (z4v ok hl) (z0g hl) (z8c ok hl ?_)
    have hvl:vs.length=nss.length:=Paired.length ps
    have e2:(ds.zip nss).map (·.2)=nss:=List.map_snd_zip (by omega)
    refine zi8 (by rw [zjk,e2,he]) fun q hq z hz hqz=>?_
    have hq:=(zbc (ds.zip nss)).mem_iff.mp hq
    have hz:=hp.mem_iff.mp hz
    obtain ⟨i,hi,ei⟩:=List.mem_iff_getElem.mp hq
    obtain ⟨j,hj,ej⟩:=List.mem_iff_getElem.mp hz
    rw [List.length_zip] at hi hj
    rw [List.getElem_zip] at ei ej
    have hij:i=j:=by
      have e1:nss[i]'(by omega)=nss[j]'(by omega):=by
        have a1:=congrArg Prod.snd ei
        have a2:=congrArg Prod.snd ej
        simp only at a1 a2
        rw [a1,a2,hqz]
      refine Classical.byContradiction fun hne=>?_
      rcases Nat.lt_or_gt_of_ne hne with hlt | hlt
      · exact (List.pairwise_iff_getElem.mp hnd) i j (by omega) (by omega) hlt e1
      · exact (List.pairwise_iff_getElem.mp hnd) j i (by omega) (by omega) hlt e1.symm
    subst hij
    obtain ⟨v,hv1,hv2⟩:=hv.get (i:=i) (d:=ds[i]'(by omega)) (List.getElem?_eq_getElem _)
    have b1:q.1=ds[i]'(by omega):=by rw [← ei]
    have b2:z.1=vs[i]'(by omega):=by rw [← ej]
    rw [b1,b2]
    have:vs[i]'(by omega)=v:=by
      rw [List.getElem?_eq_getElem (by omega)] at hv1
      injection hv1
    rw [this]
    exact hv2
  · cases hf))
end
def Wp {α:Type} (r:Option (α×M)) (Q:α→M→Prop):Prop:=∃ a μ,r=some (a,μ)∧Q a μ
def Ws (r:Option (Out×G×M)) (Q:Out→G→M→Prop):Prop:=∃ o Γ μ,r=some (o,Γ,μ)∧Q o Γ μ
section
variable {α β:Type} {Γ:G} {μ:M} {ea eb ec:EV} {ba bb:BV} {el:LV} {sa sb:SV} {i j n m:Nat} {d x y:D} {ds es:List D} {b:Bool} {g:GV} {gs:GsV} {o:Option D} {iv:IV} {lo hi:OV}
theorem Wp.imp {r:Option (α×M)} {Q R:α→M→Prop} (h:Wp r Q) (f:∀ a μ,Q a μ→R a μ):Wp r R:=let ⟨a,μ,e,q⟩:=h;⟨a,μ,e,f a μ q⟩
theorem Ws.imp {r:Option (Out×G×M)} {Q R:Out→G→M→Prop} (h:Ws r Q) (f:∀ o Γ μ,Q o Γ μ→R o Γ μ):Ws r R:=let ⟨a,Γ,μ,e,q⟩:=h;⟨a,Γ,μ,e,f a Γ μ q⟩
theorem wp_some {a:α} {Q:α→M→Prop}:Wp (some (a,μ)) Q↔Q a μ:=⟨fun ⟨_,_,e,q⟩=>by cases e;exact q,fun q=>⟨_,_,rfl,q⟩⟩
theorem ws_some {out:Out} {Q:Out→G→M→Prop}:Ws (some (out,Γ,μ)) Q↔Q out Γ μ:=⟨fun ⟨_,_,_,e,q⟩=>by cases e;exact q,fun q=>⟨_,_,_,rfl,q⟩⟩
theorem wp_bind {r:Option (α×M)} {f:α×M→Option (β×M)} {Q:β→M→Prop}:Wp (r.bind f) Q↔Wp r fun a μ=>Wp (f (a,μ)) Q:=by
  cases r with
  | none=>exact ⟨fun ⟨_,_,e,_⟩=>(by cases e),fun ⟨_,_,e,_⟩=>(by cases e)⟩
  | some p=>exact ⟨fun h=>⟨p.1,p.2,rfl,h⟩,fun ⟨_,_,e,h⟩=>by cases e;exact h⟩
theorem ws_bind {r:Option (α×M)} {f:α×M→Option (Out×G×M)} {Q:Out→G→M→Prop}:Ws (r.bind f) Q↔Wp r fun a μ=>Ws (f (a,μ)) Q:=by
  cases r with
  | none=>exact ⟨fun ⟨_,_,_,e,_⟩=>(by cases e),fun ⟨_,_,e,_⟩=>(by cases e)⟩
  | some p=>exact ⟨fun h=>⟨p.1,p.2,rfl,h⟩,fun ⟨_,_,e,h⟩=>by cases e;exact h⟩
theorem wss_bind {r:Option (Out×G×M)} {f:Out×G×M→Option (Out×G×M)} {Q:Out→G→M→Prop}:Ws (r.bind f) Q↔Ws r fun o Γ μ=>Ws (f (o,Γ,μ)) Q:=by
  cases r with
  | none=>exact ⟨fun ⟨_,_,_,e,_⟩=>(by cases e),fun ⟨_,_,_,e,_⟩=>(by cases e)⟩
  | some p=>exact ⟨fun h=>⟨p.1,p.2.1,p.2.2,rfl,h⟩,fun ⟨_,_,_,e,h⟩=>by cases e;exact h⟩
theorem wps_bind {r:Option (Out×G×M)} {f:Out×G×M→Option (β×M)} {Q:β→M→Prop}:Wp (r.bind f) Q↔Ws r fun o Γ μ=>Wp (f (o,Γ,μ)) Q:=by
  cases r with
  | none=>exact ⟨fun ⟨_,_,e,_⟩=>(by cases e),fun ⟨_,_,_,e,_⟩=>(by cases e)⟩
  | some p=>exact ⟨fun h=>⟨p.1,p.2.1,p.2.2,rfl,h⟩,fun ⟨_,_,_,e,h⟩=>by cases e;exact h⟩
theorem wpo_bind {r:Option α} {f:α→Option (β×M)} {Q:β→M→Prop}:Wp (r.bind f) Q↔∃ a,r=some a∧Wp (f a) Q:=by
  cases r with
  | none=>exact ⟨fun ⟨_,_,e,_⟩=>(by cases e),fun ⟨_,e,_⟩=>(by cases e)⟩
  | some p=>exact ⟨fun h=>⟨p,rfl,h⟩,fun ⟨_,e,h⟩=>by cases e;exact h⟩
theorem zj6 {r:Option (α×M)} {a:α} {Q:α→M→Prop} (e:r=some (a,μ)) (h:Q a μ):Wp r Q:=⟨_,_,e,h⟩
variable {R:D→M→Prop} {RL:List D→M→Prop} {RB:Bool→M→Prop} {RG:G→M→Prop} {RI:List D×Ck→M→Prop} {RO:Option Int→M→Prop} {Q:Out→G→M→Prop}
theorem z1g:Wp (z04 0 (some d::Γ) μ) R↔R d μ:=wp_some
theorem z1f:Wp (z04 (i+1) (o::Γ) μ) R↔Wp (z04 i Γ μ) R:=Iff.rfl
theorem zmi (h:Γ[i]?=some (some d)):Wp (z04 i Γ μ) R↔R d μ:=by rw [ztk h];exact wp_some
theorem w_c:Wp (vC d Γ μ) R↔R d μ:=wp_some
def q1 (f:D→M→Option (D×M)) (R:D→M→Prop):D→M→Prop:=fun x μ=>Wp (f x μ) R
theorem q1_ {f:D→M→Option (D×M)}:q1 f R x μ↔Wp (f x μ) R:=Iff.rfl
theorem z8m {f:D→M→Option (D×M)}:Wp (v1 f ea Γ μ) R↔Wp (ea Γ μ) (q1 f R):=wp_bind
def q2b (f:D→D→M→Option (D×M)) (x:D) (R:D→M→Prop):D→M→Prop:=fun y μ=>Wp (f x y μ) R
theorem z7i {f:D→D→M→Option (D×M)}:q2b f x R y μ↔Wp (f x y μ) R:=Iff.rfl
def q2 (f:D→D→M→Option (D×M)) (eb:EV) (Γ:G) (R:D→M→Prop):D→M→Prop:=fun x μ=>Wp (eb Γ μ) (q2b f x R)
theorem q2_ {f:D→D→M→Option (D×M)}:q2 f eb Γ R x μ↔Wp (eb Γ μ) (q2b f x R):=Iff.rfl
theorem z8j {f:D→D→M→Option (D×M)}:Wp (v2 f ea eb Γ μ) R↔Wp (ea Γ μ) (q2 f eb Γ R):=wp_bind.trans ⟨fun h=>h.imp fun _ _ q=>wp_bind.mp q,fun h=>h.imp fun _ _ q=>wp_bind.mpr q⟩
def qL (f:List D→M→Option (D×M)) (R:D→M→Prop):List D→M→Prop:=fun ds μ=>Wp (f ds μ) R
theorem qL_ {f:List D→M→Option (D×M)}:qL f R ds μ↔Wp (f ds μ) R:=Iff.rfl
theorem z8l {f:List D→M→Option (D×M)}:Wp (vL f el Γ μ) R↔Wp (el Γ μ) (qL f R):=wp_bind
theorem z3q:Wp (z1n Γ μ) RL↔RL [] μ:=wp_some
def qc2 (x:D) (RL:List D→M→Prop):List D→M→Prop:=fun ds μ=>RL (x::ds) μ
theorem z8s:qc2 x RL ds μ↔RL (x::ds) μ:=Iff.rfl
def qc (el:LV) (Γ:G) (RL:List D→M→Prop):D→M→Prop:=fun x μ=>Wp (el Γ μ) (qc2 x RL)
theorem qc_:qc el Γ RL x μ↔Wp (el Γ μ) (qc2 x RL):=Iff.rfl
theorem z1m:Wp (z06 ea el Γ μ) RL↔Wp (ea Γ μ) (qc el Γ RL):=wp_bind.trans ⟨fun h=>h.imp fun _ _ q=>(wp_bind.mp q).imp fun _ _ q=>(wp_some (Q:=RL)).mp q,fun h=>h.imp fun _ _ q=>wp_bind.mpr (q.imp fun _ _ q=>(wp_some (Q:=RL)).mpr q)⟩
def qT (RB:Bool→M→Prop):D→M→Prop:=fun d μ=>∃ b,d=.bl b∧RB b μ
theorem qT_:qT RB (.bl b) μ↔RB b μ:=⟨fun ⟨_,e,q⟩=>by cases e;exact q,fun q=>⟨_,rfl,q⟩⟩
theorem w_T:Wp (vT ea Γ μ) RB↔Wp (ea Γ μ) (qT RB):=wp_bind.trans ⟨fun h=>h.imp fun d μ q=>by
    obtain ⟨b,μ',e,q⟩:=q
    cases d <;> cases e
    exact ⟨_,rfl,q⟩,fun h=>h.imp fun d μ q=>by obtain ⟨b,rfl,q⟩:=q;exact wp_some.mpr q⟩
def qTr (RB:Bool→M→Prop):D→M→Prop:=fun d μ=>∃ b,tru μ d=some b∧RB b μ
theorem z25:qTr RB (.bl b) μ↔RB b μ:=⟨fun ⟨_,e,q⟩=>by cases e;exact q,fun q=>⟨_,rfl,q⟩⟩
theorem z49:Wp (z94 ea Γ μ) RB↔Wp (ea Γ μ) (qTr RB):=wp_bind.trans ⟨fun h=>h.imp fun d μ q=>by
    obtain ⟨b,e,q⟩:=wpo_bind.mp q
    exact ⟨b,e,wp_some.mp q⟩,fun h=>h.imp fun d μ ⟨b,e,q⟩=>wpo_bind.mpr ⟨b,e,wp_some.mpr q⟩⟩
def zu2 (RB:Bool→M→Prop):Bool→M→Prop:=fun b μ=>RB (!b) μ
theorem z4j:zu2 RB b μ↔RB (!b) μ:=Iff.rfl
theorem z4a:Wp (zdg ba Γ μ) RB↔Wp (ba Γ μ) (zu2 RB):=wp_bind.trans ⟨fun h=>h.imp fun _ _ q=>(wp_some (Q:=RB)).mp q,fun h=>h.imp fun _ _ q=>(wp_some (Q:=RB)).mpr q⟩
def zsq (bb:BV) (Γ:G) (RB:Bool→M→Prop):Bool→M→Prop:=fun b μ=>if b=true then Wp (bb Γ μ) RB else RB false μ
theorem z2j:zsq bb Γ RB true μ↔Wp (bb Γ μ) RB:=Iff.rfl
theorem z2k:zsq bb Γ RB false μ↔RB false μ:=Iff.rfl
theorem z4b:Wp (zm4 ba bb Γ μ) RB↔Wp (ba Γ μ) (zsq bb Γ RB):=wp_bind.trans ⟨fun h=>h.imp fun b _ q=>by cases b;exact (wp_some (Q:=RB)).mp q;exact q,fun h=>h.imp fun b _ q=>by cases b;exact (wp_some (Q:=RB)).mpr q;exact q⟩
def qOr (bb:BV) (Γ:G) (RB:Bool→M→Prop):Bool→M→Prop:=fun b μ=>if b=true then RB true μ else Wp (bb Γ μ) RB
theorem z4g:qOr bb Γ RB true μ↔RB true μ:=Iff.rfl
theorem z4h:qOr bb Γ RB false μ↔Wp (bb Γ μ) RB:=Iff.rfl
theorem z9f:Wp (bOr ba bb Γ μ) RB↔Wp (ba Γ μ) (qOr bb Γ RB):=wp_bind.trans ⟨fun h=>h.imp fun b _ q=>by cases b;exact q;exact (wp_some (Q:=RB)).mp q,fun h=>h.imp fun b _ q=>by cases b;exact q;exact (wp_some (Q:=RB)).mpr q⟩
theorem w_Yes:Wp (zcd Γ μ) RB↔RB true μ:=wp_some
def qIf (ea eb:EV) (Γ:G) (R:D→M→Prop):Bool→M→Prop:=fun b μ=>if b=true then Wp (ea Γ μ) R else Wp (eb Γ μ) R
theorem z4l:qIf ea eb Γ R true μ↔Wp (ea Γ μ) R:=Iff.rfl
theorem z4m:qIf ea eb Γ R false μ↔Wp (eb Γ μ) R:=Iff.rfl
noncomputable def kVA (eb:EV) (Γ:G) (d:D) (μ:M):Option (D×M):=match d with
  | .bl true=>eb Γ μ
  | .bl false=>some (.bl false,μ)
  | _=>none
def qVA (eb:EV) (Γ:G) (R:D→M→Prop):D→M→Prop:=fun d μ=>Wp (kVA eb Γ d μ) R
theorem z4f:qVA eb Γ R (.bl true) μ↔Wp (eb Γ μ) R:=Iff.rfl
theorem z1u:Wp (zj8 ea eb Γ μ) R↔Wp (ea Γ μ) (qVA eb Γ R):=wp_bind
noncomputable def zuy (eb:EV) (Γ:G) (d:D) (μ:M):Option (D×M):=match d with
  | .bl true=>some (.bl true,μ)
  | .bl false=>eb Γ μ
  | _=>none
def qVO (eb:EV) (Γ:G) (R:D→M→Prop):D→M→Prop:=fun d μ=>Wp (zuy eb Γ d μ) R
theorem z4e:qVO eb Γ R (.bl false) μ↔Wp (eb Γ μ) R:=Iff.rfl
theorem z40:Wp (vOr ea eb Γ μ) R↔Wp (ea Γ μ) (qVO eb Γ R):=wp_bind
def qm2 (f:D→D→M→Option (D×M)) (eb:EV) (Γ:G) (R:D→M→Prop):D→M→Prop:=fun x μ=>(∃ l,z5v μ x=some l)∧Wp (eb Γ μ) (q2b f x R)
theorem z42 {f:D→D→M→Option (D×M)}:Wp (v2l f ea eb Γ μ) R↔Wp (ea Γ μ) (qm2 f eb Γ R):=wp_bind.trans ⟨fun h=>h.imp fun _ _ q=>by obtain ⟨l,e,q⟩:=wpo_bind.mp q;exact ⟨⟨l,e⟩,wp_bind.mp q⟩,fun h=>h.imp fun _ _ ⟨⟨l,e⟩,q⟩=>wpo_bind.mpr ⟨l,e,wp_bind.mpr q⟩⟩
theorem z6s {f:D→D→M→Option (D×M)} {k:Nat} (h:μ[k]?=some (some (.lst ds))):qm2 f eb Γ R (.ref k) μ↔Wp (eb Γ μ) (q2b f (.ref k) R):=⟨fun q=>q.2,fun q=>⟨⟨_,z5s h⟩,q⟩⟩
theorem z9c:Wp (zd2 Γ μ) RO↔RO none μ:=wp_some
def qoS (RO:Option Int→M→Prop):D→M→Prop:=fun d μ=>∃ k,d=.int k∧RO (some k) μ
theorem z9o {k:Int}:qoS RO (.int k) μ↔RO (some k) μ:=⟨fun ⟨_,e,q⟩=>by cases e;exact q,fun q=>⟨_,rfl,q⟩⟩
theorem z9b:Wp (zf7 ea Γ μ) RO↔Wp (ea Γ μ) (qoS RO):=wp_bind.trans ⟨fun h=>h.imp fun d μ q=>by
    obtain ⟨b,μ',e,q⟩:=q
    cases d <;> cases e
    exact ⟨_,rfl,q⟩,fun h=>h.imp fun d μ q=>by obtain ⟨b,rfl,q⟩:=q;exact wp_some.mpr q⟩
def qs3 (x:D) (l:Option Int) (R:D→M→Prop):Option Int→M→Prop:=fun h μ=>Wp (fSl x l h μ) R
theorem z9l {l h:Option Int}:qs3 x l R h μ↔Wp (fSl x l h μ) R:=Iff.rfl
def qs2 (hi:OV) (Γ:G) (x:D) (R:D→M→Prop):Option Int→M→Prop:=fun l μ=>Wp (hi Γ μ) (qs3 x l R)
theorem z9m {l:Option Int}:qs2 hi Γ x R l μ↔Wp (hi Γ μ) (qs3 x l R):=Iff.rfl
def qs1 (lo hi:OV) (Γ:G) (R:D→M→Prop):D→M→Prop:=fun x μ=>Wp (lo Γ μ) (qs2 hi Γ x R)
theorem z9n:qs1 lo hi Γ R x μ↔Wp (lo Γ μ) (qs2 hi Γ x R):=Iff.rfl
theorem z9e:Wp (vSl ea lo hi Γ μ) R↔Wp (ea Γ μ) (qs1 lo hi Γ R):=wp_bind.trans ⟨fun h=>h.imp fun _ _ q=>(wp_bind.mp q).imp fun _ _ q=>wp_bind.mp q,fun h=>h.imp fun _ _ q=>wp_bind.mpr (q.imp fun _ _ q=>wp_bind.mpr q)⟩
theorem z1h:Wp (z03 i d Γ μ) RG↔RG (Γ.set i (some d)) μ:=wp_some
theorem z1w:Wp (z6w [] Γ μ) RG↔RG Γ μ:=wp_some
def qgc (gs:GsV) (ds:List D) (RG:G→M→Prop):G→M→Prop:=fun Γ μ=>Wp (gs ds Γ μ) RG
theorem z9p:qgc gs ds RG Γ μ↔Wp (gs ds Γ μ) RG:=Iff.rfl
theorem z0x:Wp (z18 g gs (d::ds) Γ μ) RG↔Wp (g d Γ μ) (qgc gs ds RG):=wp_bind
theorem z9d (h:ds.length=n):Wp (z5w n gs (.tup ds) Γ μ) RG↔Wp (gs ds Γ μ) RG:=by
  show Wp (if ds.length=n then gs ds Γ μ else none) RG↔_
  rw [if_pos h]
def qSq (sb:SV) (Q:Out→G→M→Prop):Out→G→M→Prop:=fun o Γ μ=>match o with
  | .nx=>Ws (sb Γ μ) Q
  | o=>Q o Γ μ
theorem z1c:qSq sb Q .nx Γ μ↔Ws (sb Γ μ) Q:=Iff.rfl
theorem z27:qSq sb Q (.rt d) Γ μ↔Q (.rt d) Γ μ:=Iff.rfl
theorem z29:qSq sb Q .bk Γ μ↔Q .bk Γ μ:=Iff.rfl
theorem z28:qSq sb Q .ct Γ μ↔Q .ct Γ μ:=Iff.rfl
theorem z38:Ws (z1p sa sb Γ μ) Q↔Ws (sa Γ μ) (qSq sb Q):=wss_bind.trans ⟨fun h=>h.imp fun o _ _ q=>by cases o <;> first | exact q | exact (ws_some (Q:=Q)).mp q,fun h=>h.imp fun o _ _ q=>by cases o <;> first | exact q | exact (ws_some (Q:=Q)).mpr q⟩
theorem z8n:Ws (sNx Γ μ) Q↔Q .nx Γ μ:=ws_some
def qEx (Γ:G) (Q:Out→G→M→Prop):D→M→Prop:=fun _ μ=>Q .nx Γ μ
theorem z9w:qEx Γ Q d μ↔Q .nx Γ μ:=Iff.rfl
theorem z1y:Ws (zai ea Γ μ) Q↔Wp (ea Γ μ) (qEx Γ Q):=ws_bind.trans ⟨fun h=>h.imp fun _ _ q=>ws_some.mp q,fun h=>h.imp fun _ _ q=>ws_some.mpr q⟩
def qRt (Γ:G) (Q:Out→G→M→Prop):D→M→Prop:=fun d μ=>Q (.rt d) Γ μ
theorem z9r:qRt Γ Q d μ↔Q (.rt d) Γ μ:=Iff.rfl
theorem z46:Ws (z5f ea Γ μ) Q↔Wp (ea Γ μ) (qRt Γ Q):=ws_bind.trans ⟨fun h=>h.imp fun _ _ q=>ws_some.mp q,fun h=>h.imp fun _ _ q=>ws_some.mpr q⟩
def qSI (sa sb:SV) (Γ:G) (Q:Out→G→M→Prop):Bool→M→Prop:=fun b μ=>if b=true then Ws (sa Γ μ) Q else Ws (sb Γ μ) Q
theorem z3t:qSI sa sb Γ Q true μ↔Ws (sa Γ μ) Q:=Iff.rfl
theorem z3u:qSI sa sb Γ Q false μ↔Ws (sb Γ μ) Q:=Iff.rfl
theorem z8o:Ws (sIf ba sa sb Γ μ) Q↔Wp (ba Γ μ) (qSI sa sb Γ Q):=ws_bind.trans ⟨fun h=>h.imp fun b _ q=>by cases b <;> exact q,fun h=>h.imp fun b _ q=>by cases b <;> exact q⟩
def qNx (Q:Out→G→M→Prop):G→M→Prop:=fun Γ μ=>Q .nx Γ μ
theorem z80:qNx Q Γ μ↔Q .nx Γ μ:=Iff.rfl
def qAs (g:GV) (Γ:G) (Q:Out→G→M→Prop):D→M→Prop:=fun d μ=>Wp (g d Γ μ) (qNx Q)
theorem z81:qAs g Γ Q d μ↔Wp (g d Γ μ) (qNx Q):=Iff.rfl
theorem z39:Ws (z3k ea g Γ μ) Q↔Wp (ea Γ μ) (qAs g Γ Q):=ws_bind.trans ⟨fun h=>h.imp fun _ _ q=>(ws_bind.mp q).imp fun _ _ q=>ws_some.mp q,fun h=>h.imp fun _ _ q=>ws_bind.mpr (q.imp fun _ _ q=>ws_some.mpr q)⟩
def qFo (g:GV) (sb:SV) (Γ:G) (Q:Out→G→M→Prop):List D×Ck→M→Prop:=fun s μ=>Ws (ziu s.2 g sb s.1 Γ μ) Q
theorem z8t {c:Ck}:qFo g sb Γ Q (ds,c) μ↔Ws (ziu c g sb ds Γ μ) Q:=Iff.rfl
theorem z3s:Ws (zgk iv g sb Γ μ) Q↔Wp (iv Γ μ) (qFo g sb Γ Q):=ws_bind
def qIL (RI:List D×Ck→M→Prop):D→M→Prop:=fun d μ=>∃ s,lsC μ d=some s∧RI s μ
theorem z47:Wp (ivL ea Γ μ) RI↔Wp (ea Γ μ) (qIL RI):=wp_bind.trans ⟨fun h=>h.imp fun d μ q=>by
    obtain ⟨b,e,q⟩:=wpo_bind.mp q
    exact ⟨b,e,wp_some.mp q⟩,fun h=>h.imp fun d μ ⟨b,e,q⟩=>wpo_bind.mpr ⟨b,e,wp_some.mpr q⟩⟩
theorem z16:qIL RI (.lst ds) μ↔RI (ds,none) μ:=⟨fun ⟨_,e,q⟩=>by cases e;exact q,fun q=>⟨_,rfl,q⟩⟩
theorem zgw {k:Nat} (h:μ[k]?=some (some (.lst ds))):qIL RI (.ref k) μ↔RI (ds,some (k,ds)) μ:=by
  have e:lsC μ (.ref k)=some (ds,some (k,ds)):=by simp [lsC,h]
  exact ⟨fun ⟨_,e',q⟩=>by rw [e] at e';cases e';exact q,fun q=>⟨_,e,q⟩⟩
def qIR (RI:List D×Ck→M→Prop):D→M→Prop:=fun d μ=>∃ k,d=.int k∧Wp (ivR (vC (.int k)) [] μ) RI
theorem z3r:Wp (ivR ea Γ μ) RI↔Wp (ea Γ μ) (qIR RI):=by
  refine wp_bind.trans ⟨fun h=>h.imp fun d μ q=>?_,fun h=>h.imp fun d μ q=>?_⟩
  · obtain ⟨b,μ',e,q⟩:=q
    cases d with
    | int k=>exact ⟨_,rfl,_,_,e,q⟩
    | _=>cases e
  · obtain ⟨b,rfl,q⟩:=q
    exact q
theorem z6y {c:Ck} (I:List D→G→M→Prop) (ds:List D) (h0:I ds Γ μ)
    (hs:∀ d r Γ μ,I (d::r) Γ μ→Wp (g d Γ μ) fun Γ1 μ1=>Ws (sb Γ1 μ1) fun o Γ2 μ2=>match o with
      | .nx=>z78 c μ2∧I r Γ2 μ2
      | .ct=>z78 c μ2∧I r Γ2 μ2
      | .bk=>Q .nx Γ2 μ2
      | .rt d=>Q (.rt d) Γ2 μ2)
    (hq:∀ Γ μ,I [] Γ μ→Q .nx Γ μ):Ws (ziu c g sb ds Γ μ) Q:=by
  induction ds generalizing Γ μ with
  | nil=>exact ws_some.mpr (hq _ _ h0)
  | cons d r ih =>
    refine ws_bind.mpr ((hs d r Γ μ h0).imp fun Γ1 μ1 h=>wss_bind.mpr (h.imp fun o Γ2 μ2 h=>?_))
    cases o with
    | nx=>show Ws (chk _ _) Q;rw [z68 h.1];exact ih h.2
    | ct=>show Ws (chk _ _) Q;rw [z68 h.1];exact ih h.2
    | bk=>exact ws_some.mpr h
    | rt d=>exact ws_some.mpr h
def qCo (own:List Str) (cap:List (Str×Nat)) (g:GV) (tc:BV) (te:EV) (Γ:G) (R:D→M→Prop):List D×Ck→M→Prop:=fun s μ=>s.1.length≤1000000∧Wp (z1q s.2 g tc te s.1 (z8k own cap Γ) μ) fun rs μ=>R (.lst rs) μ
theorem zk3 {own:List Str} {cap:List (Str×Nat)} {c:Ck} {tc:BV} {te:EV}:qCo own cap g tc te Γ R (ds,c) μ↔ds.length≤1000000∧Wp (z1q c g tc te ds (z8k own cap Γ) μ) fun rs μ=>R (.lst rs) μ:=Iff.rfl
theorem z1z {own:List Str} {cap:List (Str×Nat)} {tc:BV} {te:EV}:Wp (z50 own cap iv g tc te Γ μ) R↔Wp (iv Γ μ) (qCo own cap g tc te Γ R):=by
  rw [zj7]
  cases h:iv Γ μ with
  | none=>exact ⟨fun ⟨_,_,e,_⟩=>(by cases e),fun ⟨_,_,e,_⟩=>(by cases e)⟩
  | some p =>
    obtain ⟨⟨its,c⟩,μ1⟩:=p
    rw [wp_some,znu,zk3]
    by_cases hl:its.length≤1000000
    · rw [if_pos hl]
      cases e:z1q c g tc te its (z8k own cap Γ) μ1 with
      | none=>exact ⟨fun ⟨_,_,e,_⟩=>(by cases e),fun ⟨_,_,_,e,_⟩=>(by cases e)⟩
      | some q=>exact ⟨fun ⟨_,_,e,h⟩=>by cases e;exact ⟨hl,_,_,rfl,h⟩,fun ⟨_,_,_,e,h⟩=>by cases e;exact ⟨_,_,rfl,h⟩⟩
    · rw [if_neg hl]
      exact ⟨fun ⟨_,_,e,_⟩=>(by cases e),fun h=>absurd h.1 hl⟩
theorem comp_inv {c:Ck} {tc:BV} {te:EV} (I:List D→List D→G→M→Prop) (ds:List D) {R:List D→M→Prop} (h0:I [] ds Γ μ)
    (hs:∀ done d r Γ μ,I done (d::r) Γ μ→Wp (g d Γ μ) fun Γ1 μ1=>Wp (tc Γ1 μ1) fun b μ2=>if b=true then Wp (te Γ1 μ2) fun x μ3=>z78 c μ3∧I (done++[x]) r Γ1 μ3 else z78 c μ2∧I done r Γ1 μ2)
    (hq:∀ done Γ μ,I done [] Γ μ→R done μ):Wp (z1q c g tc te ds Γ μ) R:=by
  suffices H:∀ (ds done:List D) (Γ:G) (μ:M),I done ds Γ μ→Wp (z1q c g tc te ds Γ μ) fun rs μ=>R (done++rs) μ from (H ds [] Γ μ h0).imp fun rs μ h=>h
  intro ds
  induction ds with
  | nil=>intro done Γ μ h;exact wp_some.mpr (by simpa using hq _ _ _ h)
  | cons d r ih =>
    intro done Γ μ h
    refine wp_bind.mpr ((hs done d r Γ μ h).imp fun Γ1 μ1 h=>wp_bind.mpr (h.imp fun b μ2 h=>?_))
    cases b with
    | true =>
      refine wp_bind.mpr (Wp.imp h fun x μ3 h=>?_)
      show Wp (chk _ _) _
      rw [z68 h.1]
      refine wp_bind.mpr ((ih (done++[x]) Γ1 μ3 h.2).imp fun rs μ4 h=>wp_some.mpr ?_)
      simpa using h
    | false =>
      show Wp (chk _ _) _
      have h:z78 c μ2∧I done r Γ1 μ2:=h
      rw [z68 h.1]
      exact ih done Γ1 μ2 h.2
def zso (R:D→M→Prop):Out→G→M→Prop:=fun o _ μ=>match o with
  | .rt d=>R d μ
  | .nx=>R .non μ
  | _=>False
theorem z14:zso R (.rt d) Γ μ↔R d μ:=Iff.rfl
theorem z15:zso R .nx Γ μ↔R .non μ:=Iff.rfl
theorem z7t (h:ds.length=m):Wp (zak n m sa ds μ) R↔Ws (sa (ds.map some++List.replicate (n - ds.length) none) μ) (zso R):=by
  unfold zak
  rw [if_pos h]
  refine wps_bind.trans ⟨fun h=>h.imp fun o _ _ q=>?_,fun h=>h.imp fun o _ _ q=>?_⟩
  · cases o with
    | rt d=>exact (wp_some (Q:=R)).mp q
    | nx=>exact (wp_some (Q:=R)).mp q
    | bk=>obtain ⟨_,_,e,_⟩:=q;cases e
    | ct=>obtain ⟨_,_,e,_⟩:=q;cases e
  · cases o with
    | rt d=>exact (wp_some (Q:=R)).mpr q
    | nx=>exact (wp_some (Q:=R)).mpr q
    | bk=>exact absurd q id
    | ct=>exact absurd q id
theorem zcu {k:Nat} (h:k≤1000000000):qIR RI (.int (k:Int)) μ↔RI (z5n 0 k,none) μ:=by
  have e:ivR (vC (.int (k:Int))) [] μ=some ((z5n 0 k,none),μ):=by
    show (if -1000000000≤(k:Int)∧(k:Int)≤1000000000 then some ((z5n 0 ((k:Int).toNat),(none:Ck)),μ) else none)=_
    rw [if_pos (by omega)];rfl
  constructor
  · rintro ⟨_,e',q⟩
    cases e'
    rw [e] at q
    exact wp_some.mp q
  · intro q
    exact ⟨_,rfl,by rw [e];exact wp_some.mpr q⟩
theorem z7h {k m:Nat} (h:k<m):(z5n 0 m).drop k=.int (k:Int)::(z5n 0 m).drop (k+1):=by
  have hl:(z5n 0 m).length=m:=by simp [z5n]
  rw [List.drop_eq_getElem_cons (by omega)]
  congr 1
  simp [z5n]
theorem zat (I:Nat→G→M→Prop) {m:Nat} (h0:I 0 Γ μ)
    (hs:∀ k Γ μ,k<m→I k Γ μ→Wp (g (.int (k:Int)) Γ μ) fun Γ1 μ1=>Ws (sb Γ1 μ1) fun o Γ2 μ2=>match o with
      | .nx=>I (k+1) Γ2 μ2
      | .ct=>I (k+1) Γ2 μ2
      | .bk=>Q .nx Γ2 μ2
      | .rt d=>Q (.rt d) Γ2 μ2)
    (hq:∀ Γ μ,I m Γ μ→Q .nx Γ μ):Ws (ziu none g sb (z5n 0 m) Γ μ) Q:=by
  have hl:(z5n 0 m).length=m:=by simp [z5n]
  refine z6y (fun r Γ μ=>∃ k,k≤m∧r=(z5n 0 m).drop k∧I k Γ μ) _ ⟨0,by omega,rfl,h0⟩ ?_ ?_
  · rintro d r Γ μ ⟨k,hk,e,h⟩
    have hk':k<m:=by
      rcases Nat.lt_or_ge k m with z | z
      · exact z
      · rw [List.drop_eq_nil_of_le (by omega)] at e;cases e
    rw [z7h hk'] at e
    cases e
    refine (hs k Γ μ hk' h).imp fun Γ1 μ1 h=>h.imp fun o Γ2 μ2 h=>?_
    cases o with
    | nx=>exact ⟨trivial,k+1,hk',rfl,h⟩
    | ct=>exact ⟨trivial,k+1,hk',rfl,h⟩
    | bk=>exact h
    | rt d=>exact h
  · rintro Γ μ ⟨k,hk,e,h⟩
    have:k=m:=by
      rcases Nat.lt_or_ge k m with z | z
      · rw [z7h z] at e;cases e
      · omega
    subst this
    exact hq _ _ h
theorem zkw {te:EV} (I:Nat→List D→G→M→Prop) {m:Nat} {R:List D→M→Prop} (h0:I 0 [] Γ μ)
    (hs:∀ k done Γ μ,k<m→I k done Γ μ→Wp (g (.int (k:Int)) Γ μ) fun Γ1 μ1=>Wp (te Γ1 μ1) fun x μ3=>I (k+1) (done++[x]) Γ1 μ3)
    (hq:∀ done Γ μ,I m done Γ μ→R done μ):Wp (z1q none g zcd te (z5n 0 m) Γ μ) R:=by
  have hl:(z5n 0 m).length=m:=by simp [z5n]
  refine comp_inv (fun done r Γ μ=>∃ k,k≤m∧r=(z5n 0 m).drop k∧I k done Γ μ) _ ⟨0,by omega,rfl,h0⟩ ?_ ?_
  · rintro done d r Γ μ ⟨k,hk,e,h⟩
    have hk':k<m:=by
      rcases Nat.lt_or_ge k m with z | z
      · exact z
      · rw [List.drop_eq_nil_of_le (by omega)] at e;cases e
    rw [z7h hk'] at e
    cases e
    refine (hs k done Γ μ hk' h).imp fun Γ1 μ1 h=>?_
    refine w_Yes.mpr ?_
    show Wp _ _
    exact h.imp fun x μ3 h=>⟨trivial,k+1,hk',rfl,h⟩
  · rintro done Γ μ ⟨k,hk,e,h⟩
    have:k=m:=by
      rcases Nat.lt_or_ge k m with z | z
      · rw [z7h z] at e;cases e
      · omega
    subst this
    exact hq _ _ _ h
theorem z2n {i j:Int}:z35 (.int i) (.int j) μ=some (.int (i+j),μ):=rfl
theorem z4p {i j:Int}:zs2 (.int i) (.int j) μ=some (.int (i - j),μ):=rfl
theorem za2 {i j:Int}:fGt (.int i) (.int j) μ=some (.bl (decide (j<i)),μ):=rfl
theorem za1 {i j:Int}:fLt (.int i) (.int j) μ=some (.bl (decide (i<j)),μ):=rfl
theorem za3 {i j:Int}:fGe (.int i) (.int j) μ=some (.bl (decide (j≤i)),μ):=rfl
theorem z8u {i j:Int}:fLe (.int i) (.int j) μ=some (.bl (decide (i≤j)),μ):=rfl
theorem z8v {i j:Int}:fEq (.int i) (.int j) μ=some (.bl (decide (i=j)),μ):=by unfold fEq;rw [z67];rfl
theorem z4u {i j:Bool}:fEq (.bl i) (.bl j) μ=some (.bl (decide (i=j)),μ):=by rfl
theorem z4r {i j:Bool}:fNe (.bl i) (.bl j) μ=some (.bl (!decide (i=j)),μ):=by rfl
theorem zsz {i j:Int} (h:0<j):ziw (.int i) (.int j) μ=some (.int (i % j),μ):=by exact if_pos (c:=zca i j) h
theorem z4s {i j:Int}:zv4 (.int i) (.int j) μ=some (.int (if j<i then j else i),μ):=rfl
theorem z4t {i j:Int}:zth (.int i) (.int j) μ=some (.int (if j > i then j else i),μ):=rfl
theorem z4q {i:Int}:zua (.int i) μ=some (.int (-i),μ):=rfl
theorem z3v {b:Bool}:zhy (.bl b) μ=some (.bl (!b),μ):=rfl
theorem z2o {b:Bool}:zhz (.bl b) μ=some (.int (if b=true then 1 else 0),μ):=zkq
theorem zni (h:ds.length≤1000):zko ds μ=some (.tup ds,μ):=if_pos h
theorem z6f (h:ds.length≤1000):z76 ds μ=some (.lst ds,μ):=if_pos h
theorem znj (h:ds.length≤1000):ziv ds μ=some (.ref μ.length,μ++[some (.lst ds)]):=if_pos h
end
section
variable {Γ:G} {μ:M} {ea eb eo ei ev:EV} {el:LV} {k n:Nat} {d x y:D} {ds:List D} {o:Option D} {C:Addr} {f m:Str} {fs:List (Str×D)} {g:List D→M→Option (D×M)}
variable {R:D→M→Prop} {RI:List D×Ck→M→Prop} {Q:Out→G→M→Prop}
def zus (g:List D→M→Option (D×M)) (d:D) (R:D→M→Prop):List D→M→Prop:=fun ds μ=>Wp (g (d::ds) μ) R
theorem z4k:zus g d R ds μ↔Wp (g (d::ds) μ) R:=Iff.rfl
def qF2 (C:Addr) (f:Str) (x:D) (Γ:G) (Q:Out→G→M→Prop):D→M→Prop:=fun d μ=>Ws (match d with
  | .ref k=>match μ[k]? with
    | some (some (.ins C' fs))=>if C'=C∧fs.length<1000 then some (.nx,Γ,μ.set k (some (.ins C (zpy f x fs)))) else none
    | _=>none
  | _=>none) Q
def qF1 (C:Addr) (f:Str) (eo:EV) (Γ:G) (Q:Out→G→M→Prop):D→M→Prop:=fun x μ=>Wp (eo Γ μ) (qF2 C f x Γ Q)
theorem z9v:qF1 C f eo Γ Q x μ↔Wp (eo Γ μ) (qF2 C f x Γ Q):=Iff.rfl
def qN3 (v o:D) (Γ:G) (Q:Out→G→M→Prop):D→M→Prop:=fun y μ=>Ws ((zuw y).bind fun k=>(zvb μ o).bind fun kvs=>match o with
  | .ref n=>if kvs.length<16000000 then some (.nx,Γ,μ.set n (some (.dN (zut kvs k v)))) else none
  | _=>none) Q
def qN2 (ei:EV) (v:D) (Γ:G) (Q:Out→G→M→Prop):D→M→Prop:=fun o μ=>Wp (ei Γ μ) (qN3 v o Γ Q)
theorem z9s:qN2 ei x Γ Q d μ↔Wp (ei Γ μ) (qN3 x d Γ Q):=Iff.rfl
def qN1 (eo ei:EV) (Γ:G) (Q:Out→G→M→Prop):D→M→Prop:=fun v μ=>Wp (eo Γ μ) (qN2 ei v Γ Q)
theorem z9t:qN1 eo ei Γ Q x μ↔Wp (eo Γ μ) (qN2 ei x Γ Q):=Iff.rfl
end
def Wt (r:Option (OutX×G×M)) (Q:OutX→G→M→Prop):Prop:=∃ o Γ μ,r=some (o,Γ,μ)∧Q o Γ μ
section
variable {α β:Type} {Γ:G} {μ:M} {ea eb:EV} {ex ey:EX} {bx:BX} {bv:BV} {el:LV} {lx:LX} {sx sy:SX} {sv:SV} {C:Addr} {d:D} {ds:List D} {b:Bool} {g:GV} {f:FX} {fn:List D→M→Option (D×M)} {n m i:Nat} {iv:IV}
variable {R:Rs D→M→Prop} {RB:Rs Bool→M→Prop} {RL:Rs (List D)→M→Prop} {Q:OutX→G→M→Prop} {QS:Out→G→M→Prop}
theorem Wt.imp {r:Option (OutX×G×M)} {Q R:OutX→G→M→Prop} (h:Wt r Q) (f:∀ o Γ μ,Q o Γ μ→R o Γ μ):Wt r R:=let ⟨a,Γ,μ,e,q⟩:=h;⟨a,Γ,μ,e,f a Γ μ q⟩
theorem wt_some {o:OutX}:Wt (some (o,Γ,μ)) Q↔Q o Γ μ:=⟨fun ⟨_,_,_,e,q⟩=>by cases e;exact q,fun q=>⟨_,_,_,rfl,q⟩⟩
theorem wtp_bind {r:Option (α×M)} {f:α×M→Option (OutX×G×M)}:Wt (r.bind f) Q↔Wp r fun a μ=>Wt (f (a,μ)) Q:=by
  cases r with
  | none=>exact ⟨fun ⟨_,_,_,e,_⟩=>(by cases e),fun ⟨_,_,e,_⟩=>(by cases e)⟩
  | some p=>exact ⟨fun h=>⟨p.1,p.2,rfl,h⟩,fun ⟨_,_,e,h⟩=>by cases e;exact h⟩
theorem wtt_bind {r:Option (OutX×G×M)} {f:OutX×G×M→Option (OutX×G×M)}:Wt (r.bind f) Q↔Wt r fun o Γ μ=>Wt (f (o,Γ,μ)) Q:=by
  cases r with
  | none=>exact ⟨fun ⟨_,_,_,e,_⟩=>(by cases e),fun ⟨_,_,_,e,_⟩=>(by cases e)⟩
  | some p=>exact ⟨fun h=>⟨p.1,p.2.1,p.2.2,rfl,h⟩,fun ⟨_,_,_,e,h⟩=>by cases e;exact h⟩
theorem wts_bind {r:Option (Out×G×M)} {f:Out×G×M→Option (OutX×G×M)}:Wt (r.bind f) Q↔Ws r fun o Γ μ=>Wt (f (o,Γ,μ)) Q:=by
  cases r with
  | none=>exact ⟨fun ⟨_,_,_,e,_⟩=>(by cases e),fun ⟨_,_,_,e,_⟩=>(by cases e)⟩
  | some p=>exact ⟨fun h=>⟨p.1,p.2.1,p.2.2,rfl,h⟩,fun ⟨_,_,_,e,h⟩=>by cases e;exact h⟩
theorem wst_bind {r:Option (OutX×G×M)} {f:OutX×G×M→Option (Out×G×M)}:Ws (r.bind f) QS↔Wt r fun o Γ μ=>Ws (f (o,Γ,μ)) QS:=by
  cases r with
  | none=>exact ⟨fun ⟨_,_,_,e,_⟩=>(by cases e),fun ⟨_,_,_,e,_⟩=>(by cases e)⟩
  | some p=>exact ⟨fun h=>⟨p.1,p.2.1,p.2.2,rfl,h⟩,fun ⟨_,_,_,e,h⟩=>by cases e;exact h⟩
theorem wpt_bind {r:Option (OutX×G×M)} {f:OutX×G×M→Option (β×M)} {R:β→M→Prop}:Wp (r.bind f) R↔Wt r fun o Γ μ=>Wp (f (o,Γ,μ)) R:=by
  cases r with
  | none=>exact ⟨fun ⟨_,_,e,_⟩=>(by cases e),fun ⟨_,_,_,e,_⟩=>(by cases e)⟩
  | some p=>exact ⟨fun h=>⟨p.1,p.2.1,p.2.2,rfl,h⟩,fun ⟨_,_,_,e,h⟩=>by cases e;exact h⟩
def qUp (R:Rs α→M→Prop):α→M→Prop:=fun a μ=>R (.ok a) μ
theorem z9q {a:α} {R:Rs α→M→Prop}:qUp R a μ↔R (.ok a) μ:=Iff.rfl
theorem z45:Wp (upB bv Γ μ) RB↔Wp (bv Γ μ) (qUp RB):=wp_bind.trans ⟨fun h=>h.imp fun _ _ q=>(wp_some (Q:=RB)).mp q,fun h=>h.imp fun _ _ q=>(wp_some (Q:=RB)).mpr q⟩
theorem z44:Wp (upL el Γ μ) RL↔Wp (el Γ μ) (qUp RL):=wp_bind.trans ⟨fun h=>h.imp fun _ _ q=>(wp_some (Q:=RL)).mp q,fun h=>h.imp fun _ _ q=>(wp_some (Q:=RL)).mpr q⟩
def qUS (Q:OutX→G→M→Prop):Out→G→M→Prop:=fun o Γ μ=>Q (upO o) Γ μ
theorem z24:qUS Q .nx Γ μ↔Q .nx Γ μ:=Iff.rfl
theorem z23:qUS Q (.rt d) Γ μ↔Q (.rt d) Γ μ:=Iff.rfl
theorem z43:Wt (upS sv Γ μ) Q↔Ws (sv Γ μ) (qUS Q):=wts_bind.trans ⟨fun h=>h.imp fun _ _ _ q=>(wt_some (Q:=Q)).mp q,fun h=>h.imp fun _ _ _ q=>(wt_some (Q:=Q)).mpr q⟩
def qLX (f:FX) (R:Rs D→M→Prop):Rs (List D)→M→Prop:=fun r μ=>match r with
  | .ok ds=>Wp (f ds μ) R
  | .ex C=>R (.ex C) μ
theorem z2e:qLX f R (.ok ds) μ↔Wp (f ds μ) R:=Iff.rfl
theorem z2f:qLX f R (.ex C) μ↔R (.ex C) μ:=Iff.rfl
theorem z41:Wp (vLX f lx Γ μ) R↔Wp (lx Γ μ) (qLX f R):=wp_bind.trans ⟨fun h=>h.imp fun r _ q=>by cases r;exact q;exact (wp_some (Q:=R)).mp q,fun h=>h.imp fun r _ q=>by cases r;exact q;exact (wp_some (Q:=R)).mpr q⟩
def zru (d:D) (RL:Rs (List D)→M→Prop):Rs (List D)→M→Prop:=fun r μ=>match r with
  | .ok ds=>RL (.ok (d::ds)) μ
  | .ex C=>RL (.ex C) μ
theorem z0z:zru d RL (.ok ds) μ↔RL (.ok (d::ds)) μ:=Iff.rfl
theorem z10:zru d RL (.ex C) μ↔RL (.ex C) μ:=Iff.rfl
def qcX (lx:LX) (Γ:G) (RL:Rs (List D)→M→Prop):Rs D→M→Prop:=fun r μ=>match r with
  | .ok d=>Wp (lx Γ μ) (zru d RL)
  | .ex C=>RL (.ex C) μ
theorem z21:qcX lx Γ RL (.ok d) μ↔Wp (lx Γ μ) (zru d RL):=Iff.rfl
theorem z22:qcX lx Γ RL (.ex C) μ↔RL (.ex C) μ:=Iff.rfl
def qNX (RB:Rs Bool→M→Prop):Rs Bool→M→Prop:=fun r μ=>match r with
  | .ok b=>RB (.ok (!b)) μ
  | .ex C=>RB (.ex C) μ
theorem z2c:qNX RB (.ok b) μ↔RB (.ok (!b)) μ:=Iff.rfl
theorem z2d:qNX RB (.ex C) μ↔RB (.ex C) μ:=Iff.rfl
def qTX (RB:Rs Bool→M→Prop):Rs D→M→Prop:=fun r μ=>match r with
  | .ok d=>∃ b,d=.bl b∧RB (.ok b) μ
  | .ex C=>RB (.ex C) μ
theorem z26:qTX RB (.ex C) μ↔RB (.ex C) μ:=Iff.rfl
def zrv (sy:SX) (Q:OutX→G→M→Prop):OutX→G→M→Prop:=fun o Γ μ=>match o with
  | .nx=>Wt (sy Γ μ) Q
  | o=>Q o Γ μ
theorem z12:zrv sy Q .nx Γ μ↔Wt (sy Γ μ) Q:=Iff.rfl
theorem z11:zrv sy Q (.rt d) Γ μ↔Q (.rt d) Γ μ:=Iff.rfl
theorem z13:zrv sy Q (.ex C) Γ μ↔Q (.ex C) Γ μ:=Iff.rfl
theorem z1v:Wt (z6r sx sy Γ μ) Q↔Wt (sx Γ μ) (zrv sy Q):=wtt_bind.trans ⟨fun h=>h.imp fun o _ _ q=>by cases o <;> first | exact q | exact (wt_some (Q:=Q)).mp q,fun h=>h.imp fun o _ _ q=>by cases o <;> first | exact q | exact (wt_some (Q:=Q)).mpr q⟩
def qEX (Γ:G) (Q:OutX→G→M→Prop):Rs D→M→Prop:=fun r μ=>match r with
  | .ok _=>Q .nx Γ μ
  | .ex C=>Q (.ex C) Γ μ
theorem z2h:qEX Γ Q (.ok d) μ↔Q .nx Γ μ:=Iff.rfl
theorem z2i:qEX Γ Q (.ex C) μ↔Q (.ex C) Γ μ:=Iff.rfl
theorem z0y:Wt (zbh ex Γ μ) Q↔Wp (ex Γ μ) (qEX Γ Q):=wtp_bind.trans ⟨fun h=>h.imp fun r _ q=>by cases r <;> exact (wt_some (Q:=Q)).mp q,fun h=>h.imp fun r _ q=>by cases r <;> exact (wt_some (Q:=Q)).mpr q⟩
def qRX (Γ:G) (Q:OutX→G→M→Prop):Rs D→M→Prop:=fun r μ=>match r with
  | .ok d=>Q (.rt d) Γ μ
  | .ex C=>Q (.ex C) Γ μ
theorem z2a:qRX Γ Q (.ok d) μ↔Q (.rt d) Γ μ:=Iff.rfl
theorem z2b:qRX Γ Q (.ex C) μ↔Q (.ex C) Γ μ:=Iff.rfl
def qIX (sx sy:SX) (Γ:G) (Q:OutX→G→M→Prop):Rs Bool→M→Prop:=fun r μ=>match r with
  | .ok c=>if c=true then Wt (sx Γ μ) Q else Wt (sy Γ μ) Q
  | .ex C=>Q (.ex C) Γ μ
theorem z4n:qIX sx sy Γ Q (.ok true) μ↔Wt (sx Γ μ) Q:=Iff.rfl
theorem z4o:qIX sx sy Γ Q (.ok false) μ↔Wt (sy Γ μ) Q:=Iff.rfl
theorem z2g:qIX sx sy Γ Q (.ex C) μ↔Q (.ex C) Γ μ:=Iff.rfl
theorem z48:Wt (zle bx sx sy Γ μ) Q↔Wp (bx Γ μ) (qIX sx sy Γ Q):=wtp_bind.trans ⟨fun h=>h.imp fun r _ q=>by
    cases r with
    | ok c=>cases c <;> exact q
    | ex C=>exact (wt_some (Q:=Q)).mp q,fun h=>h.imp fun r _ q=>by
    cases r with
    | ok c=>cases c <;> exact q
    | ex C=>exact (wt_some (Q:=Q)).mpr q⟩
def zsp (Q:OutX→G→M→Prop):G→M→Prop:=fun Γ μ=>Q .nx Γ μ
theorem z4i:zsp Q Γ μ↔Q .nx Γ μ:=Iff.rfl
def qAX (g:GV) (Γ:G) (Q:OutX→G→M→Prop):Rs D→M→Prop:=fun r μ=>match r with
  | .ok d=>Wp (g d Γ μ) (zsp Q)
  | .ex C=>Q (.ex C) Γ μ
theorem z2l:qAX g Γ Q (.ok d) μ↔Wp (g d Γ μ) (zsp Q):=Iff.rfl
theorem z2m:qAX g Γ Q (.ex C) μ↔Q (.ex C) Γ μ:=Iff.rfl
theorem z20:Wt (zmt ex g Γ μ) Q↔Wp (ex Γ μ) (qAX g Γ Q):=by
  refine wtp_bind.trans ⟨fun h=>h.imp fun r μ q=>?_,fun h=>h.imp fun r μ q=>?_⟩
  · cases r with
    | ok d=>exact (wtp_bind.mp q).imp fun _ _ q=>(wt_some (Q:=Q)).mp q
    | ex C=>exact (wt_some (Q:=Q)).mp q
  · cases r with
    | ok d=>exact wtp_bind.mpr (Wp.imp q fun _ _ q=>(wt_some (Q:=Q)).mpr q)
    | ex C=>exact (wt_some (Q:=Q)).mpr q
theorem z7g {l:List EV} {μ':M} (h:zmx l Γ μ=some μ') (hQ:Q (.ex C) Γ μ'):Wt (z5g C l Γ μ) Q:=by
  unfold z5g;rw [h];exact wt_some.mpr hQ
theorem z0w:Wt (zgj C ea Γ μ) Q↔Wp (ea Γ μ) fun _ μ'=>Q (.ex C) Γ μ':=wtp_bind.trans ⟨fun h=>h.imp fun _ _ q=>(wt_some (Q:=Q)).mp q,fun h=>h.imp fun _ _ q=>(wt_some (Q:=Q)).mpr q⟩
def zk2 (R:Rs D→M→Prop):OutX→G→M→Prop:=fun o _ μ=>match o with
  | .rt d=>R (.ok d) μ
  | .nx=>R (.ok .non) μ
  | .ex C=>R (.ex C) μ
  | _=>False
theorem z0k:zk2 R (.rt d) Γ μ↔R (.ok d) μ:=Iff.rfl
theorem z0l:zk2 R .nx Γ μ↔R (.ok .non) μ:=Iff.rfl
theorem z0m:zk2 R (.ex C) Γ μ↔R (.ex C) μ:=Iff.rfl
theorem zdn (h:ds.length=m):Wp (zjx n m sx ds μ) R↔Wt (sx (ds.map some++List.replicate (n - ds.length) none) μ) (zk2 R):=by
  unfold zjx
  rw [if_pos h]
  refine wpt_bind.trans ⟨fun h=>h.imp fun o _ _ q=>?_,fun h=>h.imp fun o _ _ q=>?_⟩
  · cases o with
    | rt d=>exact (wp_some (Q:=R)).mp q
    | nx=>exact (wp_some (Q:=R)).mp q
    | ex C=>exact (wp_some (Q:=R)).mp q
    | bk=>obtain ⟨_,_,e,_⟩:=q;cases e
    | ct=>obtain ⟨_,_,e,_⟩:=q;cases e
  · cases o with
    | rt d=>exact (wp_some (Q:=R)).mpr q
    | nx=>exact (wp_some (Q:=R)).mpr q
    | ex C=>exact (wp_some (Q:=R)).mpr q
    | bk=>exact absurd q id
    | ct=>exact absurd q id
theorem zsb {R:D→M→Prop} (h:Wp (f ds μ) fun r μ=>∃ d,r=.ok d∧R d μ):Wp (dn f ds μ) R:=by
  obtain ⟨_,μ',e,d,rfl,q⟩:=h
  unfold dn
  rw [e]
  exact wp_some.mpr q
theorem forX_inv {c:Ck} (I:List D→G→M→Prop) (ds:List D) (h0:I ds Γ μ)
    (hs:∀ d r Γ μ,I (d::r) Γ μ→Wp (g d Γ μ) fun Γ1 μ1=>Wt (sx Γ1 μ1) fun o Γ2 μ2=>match o with
      | .nx=>z78 c μ2∧I r Γ2 μ2
      | .ct=>z78 c μ2∧I r Γ2 μ2
      | .bk=>Q .nx Γ2 μ2
      | .rt d=>Q (.rt d) Γ2 μ2
      | .ex C=>Q (.ex C) Γ2 μ2)
    (hq:∀ Γ μ,I [] Γ μ→Q .nx Γ μ):Wt (znx c g sx ds Γ μ) Q:=by
  induction ds generalizing Γ μ with
  | nil=>exact wt_some.mpr (hq _ _ h0)
  | cons d r ih =>
    refine wtp_bind.mpr ((hs d r Γ μ h0).imp fun Γ1 μ1 h=>wtt_bind.mpr (h.imp fun o Γ2 μ2 h=>?_))
    cases o with
    | nx=>show Wt (chk _ _) Q;rw [z68 h.1];exact ih h.2
    | ct=>show Wt (chk _ _) Q;rw [z68 h.1];exact ih h.2
    | bk=>exact wt_some.mpr h
    | rt d=>exact wt_some.mpr h
    | ex C=>exact wt_some.mpr h
def qFX (g:GV) (sx:SX) (Γ:G) (Q:OutX→G→M→Prop):List D×Ck→M→Prop:=fun s μ=>Wt (znx s.2 g sx s.1 Γ μ) Q
theorem z9u {c:Ck}:qFX g sx Γ Q (ds,c) μ↔Wt (znx c g sx ds Γ μ) Q:=Iff.rfl
theorem z1x:Wt (zms iv g sx Γ μ) Q↔Wp (iv Γ μ) (qFX g sx Γ Q):=wtp_bind
def qTy (cs:List Addr) (i:Nat) (sv:SV) (QS:Out→G→M→Prop):OutX→G→M→Prop:=fun o Γ μ=>match o with
  | .nx=>QS .nx Γ μ
  | .bk=>QS .bk Γ μ
  | .ct=>QS .ct Γ μ
  | .rt d=>QS (.rt d) Γ μ
  | .ex C=>C∈cs∧Ws (sv (Γ.set i (some (.ref μ.length))) (μ++[some (.exc C)])) fun o Γ μ=>QS o (Γ.set i none) μ
theorem zs9 {cs:List Addr} (h:Wt (sx Γ μ) (qTy cs i sv QS)):Ws (zsk cs i sx sv Γ μ) QS:=by
  refine wst_bind.mpr (h.imp fun o Γ1 μ1 q=>?_)
  cases o with
  | nx=>exact ws_some.mpr q
  | bk=>exact ws_some.mpr q
  | ct=>exact ws_some.mpr q
  | rt d=>exact ws_some.mpr q
  | ex C =>
    obtain ⟨h1,h2⟩:=q
    show Ws (if C∈cs then _ else none) QS
    rw [if_pos h1]
    exact wss_bind.mpr (h2.imp fun _ _ _ q=>ws_some.mpr q)
end
end L3
namespace Law
open PySem L2 L3
noncomputable def top (i:Nat):Stmt:=PySem.Challenge.pw_morethanhalf_k36_liars_that_fit.main.body.getD i (.Pass ⟨0,0,0,0⟩)
section
variable {P:Program} {w:World} {K:PySem.W.Frag} {mg:Str→Option Value} {base:Heap} {f:Addr} {fd:FuncData}
theorem sc_check_things:FnScope ["many", "answers", "i", "j", "alike"] ["many", "answers"] (z05 (top 11)):=⟨rfl,rfl,rfl,by decide +kernel,rfl,by decide +kernel,by decide +kernel⟩
noncomputable def z3f (C_NoThing:Addr):SX :=
    (z6r (zle (upB (vT (v2 fLt (z04 0) (vC (.int 0)))))
      (z5g C_NoThing ((z04 0)::[]))
      (upS sNx))
    (zms (ivL (z04 1)) (z5w 3 (z18 (z03 2) (z18 (z03 3) (z18 (z03 4) z6w))))
      (z6r (zle (upB (zdg (zm4 (vT (z9g fLe fLt (vC (.int 0)) (z04 2) (z04 0))) (vT (z9g fLe fLt (vC (.int 0)) (z04 3) (z04 0))))))
        (z5g C_NoThing ((z04 2)::((z04 3)::((z04 0)::[]))))
        (upS sNx))
      (zle (upB (vT (v2 fEq (z04 2) (z04 3))))
        (z5g C_NoThing ((z04 2)::[]))
        (upS sNx)))))
noncomputable def z17 (C_NoThing:Addr):FX:=zjx 5 2 (z3f C_NoThing)
theorem z84 {k:Nat} {C_NoThing:Addr} (F:Fun K "check_things" "check_things" (top 11) f fd) (e_NoThing:mg "NoThing" = some (.ref C_NoThing)∧z3g K C_NoThing):FnOk P w K mg base (CXr P w) (k+1) f fd ["many", "answers"] (spX K (z17 C_NoThing)):=by
  unfold z17 z3f
  exact zs1 F sc_check_things fun cdv A outer s H E hr =>
    (z61 (zeq (zep (zfw (z00 0) z0a))
      (z5x (z5b (zfv (zfm (by decide) (zk6 (z00 0) (zfm (by decide) pj0)))) e_NoThing.1 e_NoThing.2))
      z96)
    (z5x (zoi (znz ⟨rfl,rfl⟩) rfl (zrn (z3p (z00 1))) (zro (z98 (n:=3) (z19 (z0e (i:=2) sc_check_things.nd rfl (Or.inl rfl)) (z19 (z0e (i:=3) sc_check_things.nd rfl (Or.inl rfl)) (z19 (z0e (i:=4) sc_check_things.nd rfl (Or.inl rfl)) z6m)))))
      (z61 (zeq (zep (z5y (PW.pt (zfp (zdm zqk zpo znl zpm z0a (z00 2) (z00 0)) (zcg (zdm zqk zpo znl zpm z0a (z00 3) (z00 0)))))))
        (z5x (z5b (zfv (zfm (by decide) (zk6 (z00 2) (zfm (by decide) (zk6 (z00 3) (zfm (by decide) (zk6 (z00 0) (zfm (by decide) pj0)))))))) e_NoThing.1 e_NoThing.2))
        z96)
      (z5x (zeq (zep (zj5 hr (z00 2) (z00 3)))
        (z5x (z5b (zfv (zfm (by decide) (zk6 (z00 2) (zfm (by decide) pj0)))) e_NoThing.1 e_NoThing.2))
        z96))))))
theorem zah:FnScope ["many", "least", "greatest"] ["many", "least", "greatest"] (z05 (top 13)):=⟨rfl,rfl,rfl,by decide +kernel,rfl,by decide +kernel,by decide +kernel⟩
noncomputable def z58 (C_NoThing:Addr) (C_TooMany:Addr):SX :=
    (z6r (zle (upB (vT (v2 fLt (z04 0) (z04 1))))
      (z5g C_NoThing ((z04 1)::((z04 0)::[])))
      (upS sNx))
    (zle (upB (vT (v2 fGt (z04 0) (z04 2))))
      (z5g C_TooMany ((z04 2)::((z04 0)::[])))
      (upS sNx)))
noncomputable def z2t (C_NoThing:Addr) (C_TooMany:Addr):FX:=zjx 3 3 (z58 C_NoThing C_TooMany)
theorem zam {k:Nat} {C_NoThing:Addr} {C_TooMany:Addr} (F:Fun K "check_many" "check_many" (top 13) f fd) (e_NoThing:mg "NoThing" = some (.ref C_NoThing)∧z3g K C_NoThing) (e_TooMany:mg "TooMany" = some (.ref C_TooMany)∧z3g K C_TooMany):FnOk P w K mg base (CXr P w) (k+1) f fd ["many", "least", "greatest"] (spX K (z2t C_NoThing C_TooMany)):=by
  unfold z2t z58
  exact zs1 F zah fun cdv A outer s H E hr =>
    (z61 (zeq (zep (zfw (z00 0) (z00 1)))
      (z5x (z5b (zfv (zfm (by decide) (zk6 (z00 1) (zfm (by decide) (zk6 (z00 0) pj0))))) e_NoThing.1 e_NoThing.2))
      z96)
    (z5x (zeq (zep (zoq (z00 0) (z00 2)))
      (z5x (z5b (zfv (zfm (by decide) (zk6 (z00 2) (zfm (by decide) (zk6 (z00 0) pj0))))) e_TooMany.1 e_TooMany.2))
      z96)))
theorem sc_lists_of_liars:FnScope ["many", "lists", "teller"] ["many"] (z05 (top 16)):=⟨rfl,rfl,rfl,by decide +kernel,rfl,by decide +kernel,by decide +kernel⟩
theorem z64:((["liars"]:List Str)++([("teller",2),("many",0)]:List (Str×Nat)).map (·.1)).Nodup:=by decide +kernel
noncomputable def z2y:SV :=
    (z1p (z3k (vL z76 (z06 (vL ziv z1n) z1n)) (z03 1))
    (z1p (zgk (ivR (z04 0)) (z03 2)
      (z3k (v2 z35 (z04 1) (z50 ["liars"] [("teller",2),("many",0)] (ivL (z04 1)) (z03 0) (vT (v2 fLt (v2 z4x (vC (.int 2)) (v2 z35 (v1 zb3 (z04 0)) (vC (.int 1)))) (z04 2))) (v2 zkr (z04 0) (vL z76 (z06 (z04 1) z1n))))) (z03 1)))
    (z5f (v1 z7m (z04 1)))))
noncomputable def z0p:List D→M→Option (D×M):=zak 3 1 (z2y)
theorem z6u {k:Nat} (F:Fun K "lists_of_liars" "lists_of_liars" (top 16) f fd) (m_range:mg "range" = none) (m_len:mg "len" = none) (m_sorted:mg "sorted" = none):FnOk P w K mg base CX0 (k+1) f fd ["many"] (spM K (z0p)):=by
  unfold z0p z2y
  exact zfn F sc_lists_of_liars fun cdv A outer s H E hr =>
    (z07 (z0v (i:=1) sc_lists_of_liars.nd rfl (Or.inl rfl) (z5u (z01 (zj4 z08) z08)))
    (z07 (z69 PassesOwn.never rfl (z3i m_range (z00 0)) (z0e (i:=2) sc_lists_of_liars.nd rfl (Or.inr rfl))
      (z0c (z0v (i:=1) sc_lists_of_liars.nd rfl (Or.inl rfl) (z3j (z00 1) (z7s (own:=["liars"]) (cap:=[("teller",2),("many",0)]) (z5k rfl) (z3p (z00 1))
      (fun _ _ _ _ _=>(z0e (i:=0) z64 rfl (Or.inl rfl))) (fun _ _ _ _ _=>(z7r (zfw (z5c z0a (z3j (zes m_len (z00 0)) z0a)) (z00 2))))
      (fun _ _ _ _ _=>(zos (z00 0) (z5u (z01 (z00 1) z08)))))))))
    (z0c (z0s (zfs hr m_sorted (z00 1))))))
theorem sc_fits_liars:FnScope ["liars", "sayings", "i", "j", "true"] ["liars", "sayings"] (z05 (top 17)):=⟨rfl,rfl,rfl,by decide +kernel,rfl,by decide +kernel,by decide +kernel⟩
noncomputable def z57:SV :=
    (z1p (zgk (ivL (z04 1)) (z5w 3 (z18 (z03 2) (z18 (z03 3) (z18 (z03 4) z6w))))
      (sIf (zm4 (vT (v2 (fIn true) (z04 2) (z04 0))) (vT (v2 fNe (v2 (fIn true) (z04 3) (z04 0)) (z04 4))))
        (z5f (vC (.bl false)))
        sNx))
    (z5f (vC (.bl true))))
noncomputable def z1l:List D→M→Option (D×M):=zak 5 2 (z57)
theorem zal {k:Nat} (F:Fun K "fits_liars" "fits_liars" (top 17) f fd):FnOk P w K mg base CX0 (k+1) f fd ["liars", "sayings"] (spM K (z1l)):=by
  unfold z1l z57
  exact zfn F sc_fits_liars fun cdv A outer s H E hr =>
    (z07 (z69 PassesOwn.never rfl (z3p (z00 1)) (z98 (n:=3) (z19 (z0e (i:=2) sc_fits_liars.nd rfl (Or.inl rfl)) (z19 (z0e (i:=3) sc_fits_liars.nd rfl (Or.inl rfl)) (z19 (z0e (i:=4) sc_fits_liars.nd rfl (Or.inl rfl)) z6m))))
      (z0c (z3z (PW.pt (zfp (zj2 (z00 2) (z00 0)) (zcg (zb4 hr (zck (z00 3) (z00 0)) (z00 4)))))
        (z0c (z0s zcl))
        z1t)))
    (z0c (z0s zcl)))
theorem z6q:FnScope ["many", "sayings"] ["many", "sayings"] (z05 (top 18)):=⟨rfl,rfl,rfl,by decide +kernel,rfl,by decide +kernel,by decide +kernel⟩
theorem z65:((["liars"]:List Str)++([("sayings",1)]:List (Str×Nat)).map (·.1)).Nodup:=by decide +kernel
noncomputable def z2z (f_lists_of_liars:List D→M→Option (D×M)) (f_fits_liars:List D→M→Option (D×M)) (f_check_things:FX) (f_check_many:FX) (c_MOST_TELLERS:D):SX :=
    (z6r (zbh (vLX f_check_things (upL (z06 (z04 0) (z06 (z04 1) z1n)))))
    (z6r (zbh (vLX f_check_many (upL (z06 (z04 0) (z06 (vC (.int 1)) (z06 (vC c_MOST_TELLERS) z1n))))))
    (upS (z5f (zb8 ["liars"] [("sayings",1)] (ivL (vL f_lists_of_liars (z06 (z04 0) z1n))) (z03 0) (z94 (vL f_fits_liars (z06 (z04 0) (z06 (z04 1) z1n)))) (z04 0))))))
noncomputable def z1k (f_lists_of_liars:List D→M→Option (D×M)) (f_fits_liars:List D→M→Option (D×M)) (f_check_things:FX) (f_check_many:FX) (c_MOST_TELLERS:D):FX:=zjx 2 2 (z2z f_lists_of_liars f_fits_liars f_check_things f_check_many c_MOST_TELLERS)
theorem z6v {f_lists_of_liars f_fits_liars:List D→M→Option (D×M)} {f_check_things f_check_many:FX} {k_lists_of_liars k_fits_liars k_check_things k_check_many k:Nat} {c_MOST_TELLERS:D} {v_MOST_TELLERS:V} {u_MOST_TELLERS:Value} (F:Fun K "liars_that_fit" "liars_that_fit" (top 18) f fd) (D_lists_of_liars:Df P w K mg base k_lists_of_liars "lists_of_liars" ["many"] (spM K f_lists_of_liars)) (h_lists_of_liars:k_lists_of_liars≤k) (D_fits_liars:Df P w K mg base k_fits_liars "fits_liars" ["liars", "sayings"] (spM K f_fits_liars)) (h_fits_liars:k_fits_liars≤k) (D_check_things:DfX P w K mg base k_check_things "check_things" ["many", "answers"] (spX K f_check_things)) (h_check_things:k_check_things≤k) (D_check_many:DfX P w K mg base k_check_many "check_many" ["many", "least", "greatest"] (spX K f_check_many)) (h_check_many:k_check_many≤k) (g_MOST_TELLERS:mg "MOST_TELLERS" = some u_MOST_TELLERS∧RelV v_MOST_TELLERS u_MOST_TELLERS∧∀ W,DR K W c_MOST_TELLERS v_MOST_TELLERS):FnOk P w K mg base (CXr P w) (k+1) f fd ["many", "sayings"] (spX K (z1k f_lists_of_liars f_fits_liars f_check_things f_check_many c_MOST_TELLERS)):=by
  unfold z1k z2z
  exact zs1 F z6q fun cdv A outer s H E hr =>
    (z61 (zcf (zj1 D_check_things (hr.mono h_check_things) (zj0 (z01 (z00 0) (z01 (z00 1) z08)))))
    (z61 (zcf (zj1 D_check_many (hr.mono h_check_many) (zj0 (z01 (z00 0) (z01 z0a (z01 (zor g_MOST_TELLERS.1 g_MOST_TELLERS.2.1 g_MOST_TELLERS.2.2) z08))))))
    (zkz (z0c (z0s (zfx (own:=["liars"]) (cap:=[("sayings",1)]) (z5k rfl) (z3p (z6k D_lists_of_liars (hr.mono h_lists_of_liars) (z01 (z00 0) z08)))
      (fun _ _ _ _ _=>(z0e (i:=0) z65 rfl (Or.inl rfl))) (fun _ _ _ _ _=>(z7r (z1o (z6k D_fits_liars (hr.mono h_fits_liars) (z01 (z00 0) (z01 (z00 1) z08))))))
      (fun _ _ _ _ _=>(z00 0))))))))
theorem sc_surely_true:FnScope ["many", "sayings", "lists"] ["many", "sayings"] (z05 (top 19)):=⟨rfl,rfl,rfl,by decide +kernel,rfl,by decide +kernel,by decide +kernel⟩
theorem z7d:((["teller"]:List Str)++([("lists",2)]:List (Str×Nat)).map (·.1)).Nodup:=by decide +kernel
theorem z7c:((["liars"]:List Str)++([("teller",0)]:List (Str×Nat)).map (·.1)).Nodup:=by decide +kernel
noncomputable def z3w (f_liars_that_fit:FX) (C_NoFit:Addr):SX :=
    (z6r (zmt (vLX f_liars_that_fit (upL (z06 (z04 0) (z06 (z04 1) z1n)))) (z03 2))
    (z6r (zle (upB (zdg (z94 (z04 2))))
      (zgj C_NoFit (vC (.str "no list of liars fits the sayings")))
      (upS sNx))
    (upS (z5f (zb8 ["teller"] [("lists",2)] (ivR (z04 0)) (z03 0) (z94 (v1 zlu (z50 ["liars"] [("teller",0)] (ivL (z04 1)) (z03 0) zcd (v2 (fIn true) (z04 1) (z04 0))))) (z04 0))))))
noncomputable def z30 (f_liars_that_fit:FX) (C_NoFit:Addr):FX:=zjx 3 2 (z3w f_liars_that_fit C_NoFit)
theorem z8w {f_liars_that_fit:FX} {k_liars_that_fit k:Nat} {C_NoFit:Addr} (F:Fun K "surely_true" "surely_true" (top 19) f fd) (D_liars_that_fit:DfX P w K mg base k_liars_that_fit "liars_that_fit" ["many", "sayings"] (spX K f_liars_that_fit)) (h_liars_that_fit:k_liars_that_fit≤k) (e_NoFit:mg "NoFit" = some (.ref C_NoFit)∧z3g K C_NoFit) (m_range:mg "range" = none) (m_all:mg "all" = none):FnOk P w K mg base (CXr P w) (k+1) f fd ["many", "sayings"] (spX K (z30 f_liars_that_fit C_NoFit)):=by
  unfold z30 z3w
  exact zs1 F sc_surely_true fun cdv A outer s H E hr =>
    (z61 (zoh (i:=2) sc_surely_true.nd rfl (Or.inr rfl) (zj1 D_liars_that_fit (hr.mono h_liars_that_fit) (zj0 (z01 (z00 0) (z01 (z00 1) z08)))))
    (z61 (zeq (zep (z5y (z1o (z00 2))))
      (z5x (ziz zer e_NoFit.1 e_NoFit.2))
      z96)
    (zkz (z0c (z0s (zfx (own:=["teller"]) (cap:=[("lists",2)]) (z5k rfl) (z3i m_range (z00 0))
      (fun _ _ _ _ _=>(z0e (i:=0) z7d rfl (Or.inr rfl))) (fun _ _ _ _ _=>(z7r (z1o (zmg m_all (z7s (own:=["liars"]) (cap:=[("teller",0)]) (z5k rfl) (z3p (z00 1))
      (fun _ _ _ _ _=>(z0e (i:=0) z7c rfl (Or.inl rfl))) (fun _ _ _ _ _=>z6l)
      (fun _ _ _ _ _=>(zck (z00 1) (z00 0))))))))
      (fun _ _ _ _ _=>(z00 0))))))))
end
section
variable {P:Program} {w:World} {K:PySem.W.Frag} {mg:Str→Option Value} {base:Heap} {f:Addr} {fd:FuncData}
theorem z8r:FnScope ["script", "k"] ["script", "k"] (z05 (top 21)):=⟨rfl,rfl,rfl,by decide +kernel,rfl,by decide +kernel,by decide +kernel⟩
noncomputable def z32:SV :=
    (z1p (sIf (vT (v2 fLt (z04 1) (v1 zb3 (z04 0))))
      (z5f (v2 fIx (z04 0) (z04 1)))
      sNx)
    (z5f (vC (.int 0))))
noncomputable def z0t:List D→M→Option (D×M):=zak 2 2 (z32)
theorem z8z {k:Nat} (F:Fun K "_law_cell_at" "_law_cell_at" (top 21) f fd) (m_len:mg "len" = none):FnOk P w K mg base CX0 (k+1) f fd ["script", "k"] (spM K (z0t)):=by
  unfold z0t z32
  exact zfn F z8r fun cdv A outer s H E hr =>
    (z07 (z3z (zfw (z00 1) (zes m_len (z00 0)))
      (z0c (z0s (zb2 (z00 0) (z00 1))))
      z1t)
    (z0c (z0s z0a)))
theorem zcq:FnScope ["cell"] ["cell"] (z05 (top 22)):=⟨rfl,rfl,rfl,by decide +kernel,rfl,by decide +kernel,by decide +kernel⟩
noncomputable def z66:SV :=
    (z5f (vL ziv (z06 (v2 zth (vC (.int 0)) (v2 zs2 (z04 0) (v2 zu9 (vC (.int 10)) (vC (.int 18))))) (z06 (v2 ziw (z04 0) (vC (.int 2147483629))) (z06 (vC (.int 0)) z1n)))))
noncomputable def z2x:List D→M→Option (D×M):=zak 1 1 (z66)
theorem zd1 {k:Nat} (F:Fun K "_law_deck" "_law_deck" (top 22) f fd) (m_max:mg "max" = none):FnOk P w K mg base CX0 (k+1) f fd ["cell"] (spM K (z2x)):=by
  unfold z2x z66
  exact zfn F zcq fun cdv A outer s H E hr =>
    (z0c (z0s (zj4 (z01 (zs7 m_max z0a (zol (z00 0) (zs6 z0a z0a))) (z01 (zb5 (z00 0) z0a) (z01 z0a z08))))))
theorem sc_law_take:FnScope ["deck", "many", "digit", "stir"] ["deck", "many"] (z05 (top 23)):=⟨rfl,rfl,rfl,by decide +kernel,rfl,by decide +kernel,by decide +kernel⟩
noncomputable def z56:SV :=
    (z1p (z3k (v2 z35 (v2 fIx (z04 0) (vC (.int 2))) (vC (.int 1))) (zas (z04 0) (vC (.int 2))))
    (z1p (sIf (vT (v2 fGt (v2 fIx (z04 0) (vC (.int 0))) (vC (.int 0))))
      (z1p (z3k (v2 ziw (v2 fIx (z04 0) (vC (.int 0))) (vC (.int 65536))) (z03 2))
      (z1p (z3k (v2 zti (v2 fIx (z04 0) (vC (.int 0))) (vC (.int 65536))) (zas (z04 0) (vC (.int 0))))
      (z5f (v2 ziw (z04 2) (z04 1)))))
      sNx)
    (z1p (z3k (v2 ziw (v2 z4x (v2 z35 (v2 fIx (z04 0) (vC (.int 1))) (v2 z4x (vC (.int 7919)) (v2 fIx (z04 0) (vC (.int 2))))) (vC (.int 48271))) (vC (.int 2147483647))) (z03 3))
    (z1p (z3k (v2 ziw (v2 z4x (z04 3) (z04 3)) (vC (.int 2147483629))) (z03 3))
    (z5f (v2 ziw (v2 zti (v2 ziw (v2 z4x (v2 z35 (z04 3) (v2 z4x (vC (.int 40692)) (v2 fIx (z04 0) (vC (.int 2))))) (vC (.int 69621))) (vC (.int 2147483563))) (vC (.int 8))) (z04 1)))))))
noncomputable def z0h:List D→M→Option (D×M):=zak 4 2 (z56)
theorem zcy {k:Nat} (F:Fun K "_law_take" "_law_take" (top 23) f fd):FnOk P w K mg base CX0 (k+1) f fd ["deck", "many"] (spM K (z0h)):=by
  unfold z0h z56
  exact zfn F sc_law_take fun cdv A outer s H E hr =>
    (z07 (zfq (z3j (zb2 (z00 0) z0a) z0a) (zfr (z00 0) z0a))
    (z07 (z3z (zoq (zb2 (z00 0) z0a) z0a)
      (z07 (z0v (i:=2) sc_law_take.nd rfl (Or.inl rfl) (zb5 (zb2 (z00 0) z0a) z0a))
      (z07 (zfq (zl1 (zb2 (z00 0) z0a) z0a) (zfr (z00 0) z0a))
      (z0c (z0s (zb5 (z00 2) (z00 1))))))
      z1t)
    (z07 (z0v (i:=3) sc_law_take.nd rfl (Or.inl rfl) (zb5 (z5c (z3j (zb2 (z00 0) z0a) (z5c z0a (zb2 (z00 0) z0a))) z0a) z0a))
    (z07 (z0v (i:=3) sc_law_take.nd rfl (Or.inl rfl) (zb5 (z5c (z00 3) (z00 3)) z0a))
    (z0c (z0s (zb5 (zl1 (zb5 (z5c (z3j (z00 3) (z5c z0a (zb2 (z00 0) z0a))) z0a) z0a) z0a) (z00 1))))))))
theorem sc_law_sayings:FnScope ["deck", "many", "truths", "way", "found", "turn", "i", "j", "said"] ["deck", "many"] (z05 (top 24)):=⟨rfl,rfl,rfl,by decide +kernel,rfl,by decide +kernel,by decide +kernel⟩
theorem z7e:((["teller"]:List Str)++([("deck",0)]:List (Str×Nat)).map (·.1)).Nodup:=by decide +kernel
noncomputable def z3x (f_law_take:List D→M→Option (D×M)):SV :=
    (z1p (z3k (z50 ["teller"] [("deck",0)] (ivR (z04 1)) (z03 0) zcd (v2 fGt (vL f_law_take (z06 (z04 1) (z06 (vC (.int 3)) z1n))) (vC (.int 0)))) (z03 2))
    (z1p (z3k (vL f_law_take (z06 (z04 0) (z06 (vC (.int 3)) z1n))) (z03 3))
    (z1p (z3k (vL ziv z1n) (z03 4))
    (z1p (zgk (ivR (v2 z4x (vL f_law_take (z06 (z04 0) (z06 (v2 fIx (vL z76 (z06 (vC (.int 6)) (z06 (vC (.int 31)) z1n))) (vL f_law_take (z06 (z04 0) (z06 (vC (.int 2)) z1n)))) z1n))) (v1 zhz (v2 fGt (z04 1) (vC (.int 1)))))) (z03 5)
      (z1p (z3k (vL f_law_take (z06 (z04 0) (z06 (z04 1) z1n))) (z03 6))
      (z1p (z3k (v2 ziw (v2 z35 (v2 z35 (z04 6) (vC (.int 1))) (vL f_law_take (z06 (z04 0) (z06 (v2 zs2 (z04 1) (vC (.int 1))) z1n)))) (z04 1)) (z03 7))
      (z1p (z3k (v2 fIx (z04 2) (z04 7)) (z03 8))
      (z1p (sIf (zdg (z94 (v2 fIx (z04 2) (z04 6))))
        (z3k (v2 fIx (vL z76 (z06 (v1 zhy (z04 8)) (z06 (v2 fEq (vL f_law_take (z06 (z04 0) (z06 (vC (.int 2)) z1n))) (vC (.int 0))) (z06 (z04 8) z1n)))) (z04 3)) (z03 8))
        sNx)
      (z1p (sIf (vT (v2 fEq (vL f_law_take (z06 (z04 0) (z06 (vC (.int 30)) z1n))) (vC (.int 0))))
        (z3k (v1 zhy (z04 8)) (z03 8))
        sNx)
      (zai (v2l zi1 (z04 4) (vL zko (z06 (z04 6) (z06 (z04 7) (z06 (z04 8) z1n))))))))))))
    (z5f (z04 4))))))
noncomputable def z1d (f_law_take:List D→M→Option (D×M)):List D→M→Option (D×M):=zak 9 2 (z3x f_law_take)
theorem z8x {f_law_take:List D→M→Option (D×M)} {k_law_take k:Nat} (F:Fun K "_law_sayings" "_law_sayings" (top 24) f fd) (D_law_take:Df P w K mg base k_law_take "_law_take" ["deck", "many"] (spM K f_law_take)) (h_law_take:k_law_take≤k) (m_range:mg "range" = none) (m_int:mg "int" = none):FnOk P w K mg base CX0 (k+1) f fd ["deck", "many"] (spM K (z1d f_law_take)):=by
  unfold z1d z3x
  exact zfn F sc_law_sayings fun cdv A outer s H E hr =>
    (z07 (z97 (i:=2) sc_law_sayings.nd rfl rfl (own:=["teller"]) (cap:=[("deck",0)]) (z5k rfl) (z3i m_range (z00 1))
      (fun _ _ _ _ _=>(z0e (i:=0) z7e rfl (Or.inl rfl))) (fun _ _ _ _ _=>z6l)
      (fun _ _ _ _ _=>(zts (z6k D_law_take (hr.mono h_law_take) (z01 (z00 1) (z01 z0a z08))) z0a)))
    (z07 (z0v (i:=3) sc_law_sayings.nd rfl (Or.inl rfl) (z6k D_law_take (hr.mono h_law_take) (z01 (z00 0) (z01 z0a z08))))
    (z07 (z0v (i:=4) sc_law_sayings.nd rfl (Or.inl rfl) (zj4 z08))
    (z07 (z69 PassesOwn.never rfl (z3i m_range (z5c (z6k D_law_take (hr.mono h_law_take) (z01 (z00 0) (z01 (zb2 (z5u (z01 z0a (z01 z0a z08))) (z6k D_law_take (hr.mono h_law_take) (z01 (z00 0) (z01 z0a z08)))) z08))) (zop m_int (zts (z00 1) z0a)))) (z0e (i:=5) sc_law_sayings.nd rfl (Or.inl rfl))
      (z07 (z0v (i:=6) sc_law_sayings.nd rfl (Or.inl rfl) (z6k D_law_take (hr.mono h_law_take) (z01 (z00 0) (z01 (z00 1) z08))))
      (z07 (z0v (i:=7) sc_law_sayings.nd rfl (Or.inl rfl) (zb5 (z3j (z3j (z00 6) z0a) (z6k D_law_take (hr.mono h_law_take) (z01 (z00 0) (z01 (zol (z00 1) z0a) z08)))) (z00 1)))
      (z07 (z0v (i:=8) sc_law_sayings.nd rfl (Or.inl rfl) (zb2 (z00 2) (z00 7)))
      (z07 (z3z (z5y (z1o (zb2 (z00 2) (z00 6))))
        (z0c (z0v (i:=8) sc_law_sayings.nd rfl (Or.inl rfl) (zb2 (z5u (z01 (zj3 (z00 8)) (z01 (zoe hr (z6k D_law_take (hr.mono h_law_take) (z01 (z00 0) (z01 z0a z08))) z0a) (z01 (z00 8) z08)))) (z00 3))))
        z1t)
      (z07 (z3z (zj5 hr (z6k D_law_take (hr.mono h_law_take) (z01 (z00 0) (z01 z0a z08))) z0a)
        (z0c (z0v (i:=8) sc_law_sayings.nd rfl (Or.inl rfl) (zj3 (z00 8))))
        z1t)
      (z0c (z7q (zfy (z00 4) (zok (z01 (z00 6) (z01 (z00 7) (z01 (z00 8) z08)))))))))))))
    (z0c (z0s (z00 4)))))))
theorem sc_law_all_liars:FnScope ["many", "sayings", "found", "teller", "good", "liars", "right"] ["many", "sayings"] (z05 (top 25)):=⟨rfl,rfl,rfl,by decide +kernel,rfl,by decide +kernel,by decide +kernel⟩
theorem z6g:((["liars"]:List Str)++([("teller",3)]:List (Str×Nat)).map (·.1)).Nodup:=by decide +kernel
theorem z2r:((["i", "j", "said"]:List Str)++([("liars",5)]:List (Str×Nat)).map (·.1)).Nodup:=by decide +kernel
noncomputable def z36:SV :=
    (z1p (z3k (vL z76 (z06 (vL z76 z1n) z1n)) (z03 2))
    (z1p (zgk (ivR (z04 0)) (z03 3)
      (z3k (v2 z35 (z04 2) (z50 ["liars"] [("teller",3)] (ivL (z04 2)) (z03 0) zcd (v2 z35 (z04 0) (vL z76 (z06 (z04 1) z1n))))) (z03 2)))
    (z1p (z3k (vL ziv z1n) (z03 4))
    (z1p (zgk (ivL (v1 z7n (z04 2))) (z03 5)
      (z1p (z3k (v1 zlu (z50 ["i", "j", "said"] [("liars",5)] (ivL (z04 1)) (z5w 3 (z18 (z03 0) (z18 (z03 1) (z18 (z03 2) z6w)))) zcd (vOr (v2 (fIn false) (z04 0) (z04 3)) (v2 fEq (z04 2) (v2 (fIn true) (z04 1) (z04 3)))))) (z03 6))
      (sIf (zm4 (z94 (z04 6)) (vT (v2 fLt (v2 z4x (vC (.int 2)) (v1 zb3 (z04 5))) (z04 0))))
        (zai (v2l zi1 (z04 4) (z04 5)))
        sNx)))
    (z5f (z04 4))))))
noncomputable def z0n:List D→M→Option (D×M):=zak 7 2 (z36)
theorem z7b {k:Nat} (F:Fun K "_law_all_liars" "_law_all_liars" (top 25) f fd) (m_range:mg "range" = none) (m_sorted:mg "sorted" = none) (m_all:mg "all" = none) (m_len:mg "len" = none):FnOk P w K mg base CX0 (k+1) f fd ["many", "sayings"] (spM K (z0n)):=by
  unfold z0n z36
  exact zfn F sc_law_all_liars fun cdv A outer s H E hr =>
    (z07 (z0v (i:=2) sc_law_all_liars.nd rfl (Or.inl rfl) (z5u (z01 (z5u z08) z08)))
    (z07 (z69 PassesOwn.never rfl (z3i m_range (z00 0)) (z0e (i:=3) sc_law_all_liars.nd rfl (Or.inr rfl))
      (z0c (z0v (i:=2) sc_law_all_liars.nd rfl (Or.inl rfl) (z3j (z00 2) (z7s (own:=["liars"]) (cap:=[("teller",3)]) (z5k rfl) (z3p (z00 2))
      (fun _ _ _ _ _=>(z0e (i:=0) z6g rfl (Or.inl rfl))) (fun _ _ _ _ _=>z6l)
      (fun _ _ _ _ _=>(z3j (z00 0) (z5u (z01 (z00 1) z08)))))))))
    (z07 (z0v (i:=4) sc_law_all_liars.nd rfl (Or.inl rfl) (zj4 z08))
    (z07 (z69 PassesOwn.never rfl (z3p (zft hr m_sorted (z00 2))) (z0e (i:=5) sc_law_all_liars.nd rfl (Or.inr rfl))
      (z07 (z0v (i:=6) sc_law_all_liars.nd rfl (Or.inl rfl) (zmg m_all (z7s (own:=["i", "j", "said"]) (cap:=[("liars",5)]) (z5k rfl) (z3p (z00 1))
      (fun _ _ _ _ _=>(z98 (n:=3) (z19 (z0e (i:=0) z2r rfl (Or.inl rfl)) (z19 (z0e (i:=1) z2r rfl (Or.inl rfl)) (z19 (z0e (i:=2) z2r rfl (Or.inl rfl)) z6m))))) (fun _ _ _ _ _=>z6l)
      (fun _ _ _ _ _=>(zuf (zug (z00 0) (z00 3)) (zfu (zoe hr (z00 2) (zck (z00 1) (z00 3)))))))))
      (z0c (z3z (PW.pt (zfp (z1o (z00 6)) (zcg (zfw (z5c z0a (zes m_len (z00 5))) (z00 0)))))
        (z0c (z7q (zfy (z00 4) (z00 5))))
        z1t))))
    (z0c (z0s (z00 4)))))))
theorem sc_law_kind:FnScope ["caught", "kinds", "odd"] ["caught"] (z05 (top 26)):=⟨rfl,rfl,rfl,by decide +kernel,rfl,by decide +kernel,by decide +kernel⟩
noncomputable def z3e (q_TooMany:Addr→Option Bool) (q_NoFit:Addr→Option Bool) (q_NoThing:Addr→Option Bool) (q_NoneYet:Addr→Option Bool) (q_NoText:Addr→Option Bool) (q_NoName:Addr→Option Bool) (q_NoForm:Addr→Option Bool) (q_NoAsk:Addr→Option Bool) (q_ValueError:Addr→Option Bool):SV :=
    (z1p (z3k (vL z76 (z06 (v1 (zbu q_NoThing) (z04 0)) (z06 (v1 (zbu q_NoFit) (z04 0)) (z06 (v1 (zbu q_TooMany) (z04 0)) z1n)))) (z03 1))
    (z1p (z3k (v1 (zbt [q_NoAsk,q_NoForm,q_NoName,q_NoText,q_NoneYet]) (z04 0)) (z03 2))
    (z1p (sIf (bOr (z94 (z04 2)) (bOr (zdg (z94 (v1 (zbu q_ValueError) (z04 0)))) (vT (v2 fNe (v2l zbx (z04 1) (vC (.bl true))) (vC (.int 1))))))
      (z5f (vC (.str "odd")))
      sNx)
    (z5f (v2 fIx (vL z76 (z06 (vC (.str "thing")) (z06 (vC (.str "fit")) (z06 (vC (.str "many")) z1n)))) (v2l zbw (z04 1) (vC (.bl true))))))))
noncomputable def z1a (q_TooMany:Addr→Option Bool) (q_NoFit:Addr→Option Bool) (q_NoThing:Addr→Option Bool) (q_NoneYet:Addr→Option Bool) (q_NoText:Addr→Option Bool) (q_NoName:Addr→Option Bool) (q_NoForm:Addr→Option Bool) (q_NoAsk:Addr→Option Bool) (q_ValueError:Addr→Option Bool):List D→M→Option (D×M):=zak 3 1 (z3e q_TooMany q_NoFit q_NoThing q_NoneYet q_NoText q_NoName q_NoForm q_NoAsk q_ValueError)
theorem zd0 {k:Nat} {D_TooMany:Addr} {q_TooMany:Addr→Option Bool} {D_NoFit:Addr} {q_NoFit:Addr→Option Bool} {D_NoThing:Addr} {q_NoThing:Addr→Option Bool} {D_NoneYet:Addr} {q_NoneYet:Addr→Option Bool} {D_NoText:Addr} {q_NoText:Addr→Option Bool} {D_NoName:Addr} {q_NoName:Addr→Option Bool} {D_NoForm:Addr} {q_NoForm:Addr→Option Bool} {D_NoAsk:Addr} {q_NoAsk:Addr→Option Bool} {q_ValueError:Addr→Option Bool} (F:Fun K "_law_kind" "_law_kind" (top 26) f fd) (i_TooMany:mg "TooMany" = some (.ref D_TooMany)∧IsX K (.ref D_TooMany) q_TooMany) (i_NoFit:mg "NoFit" = some (.ref D_NoFit)∧IsX K (.ref D_NoFit) q_NoFit) (i_NoThing:mg "NoThing" = some (.ref D_NoThing)∧IsX K (.ref D_NoThing) q_NoThing) (i_NoneYet:mg "NoneYet" = some (.ref D_NoneYet)∧IsX K (.ref D_NoneYet) q_NoneYet) (i_NoText:mg "NoText" = some (.ref D_NoText)∧IsX K (.ref D_NoText) q_NoText) (i_NoName:mg "NoName" = some (.ref D_NoName)∧IsX K (.ref D_NoName) q_NoName) (i_NoForm:mg "NoForm" = some (.ref D_NoForm)∧IsX K (.ref D_NoForm) q_NoForm) (i_NoAsk:mg "NoAsk" = some (.ref D_NoAsk)∧IsX K (.ref D_NoAsk) q_NoAsk) (i_ValueError:IsX K (.ty "ValueError") q_ValueError) (m_isinstance:mg "isinstance" = none) (m_ValueError:mg "ValueError" = none):FnOk P w K mg base CX0 (k+1) f fd ["caught"] (spM K (z1a q_TooMany q_NoFit q_NoThing q_NoneYet q_NoText q_NoName q_NoForm q_NoAsk q_ValueError)):=by
  unfold z1a z3e
  exact zfn F sc_law_kind fun cdv A outer s H E hr =>
    (z07 (z0v (i:=1) sc_law_kind.nd rfl (Or.inl rfl) (z5u (z01 (zdk i_NoThing.2 m_isinstance (z00 0) (z53 rfl i_NoThing.1 rfl (v:=.ref D_NoThing))) (z01 (zdk i_NoFit.2 m_isinstance (z00 0) (z53 rfl i_NoFit.1 rfl (v:=.ref D_NoFit))) (z01 (zdk i_TooMany.2 m_isinstance (z00 0) (z53 rfl i_TooMany.1 rfl (v:=.ref D_TooMany))) z08)))))
    (z07 (z0v (i:=2) sc_law_kind.nd rfl (Or.inl rfl) (zmc (.cons i_NoAsk.2 (.cons i_NoForm.2 (.cons i_NoName.2 (.cons i_NoText.2 (.cons i_NoneYet.2 .nil))))) m_isinstance (z00 0) (zkb (z53 rfl i_NoAsk.1 rfl (v:=.ref D_NoAsk)) (zkb (z53 rfl i_NoForm.1 rfl (v:=.ref D_NoForm)) (zkb (z53 rfl i_NoName.1 rfl (v:=.ref D_NoName)) (zkb (z53 rfl i_NoText.1 rfl (v:=.ref D_NoText)) (zkb (z53 rfl i_NoneYet.1 rfl (v:=.ref D_NoneYet)) znh)))))))
    (z07 (z3z (PW.pt (zfo (z1o (z00 2)) (zfo (z5y (z1o (zdk i_ValueError m_isinstance (z00 0) (z2w rfl m_ValueError rfl (v:=.ty "ValueError") rfl)))) (zdj (zb4 hr (zme (z00 1) zcl) z0a)))))
      (z0c (z0s zer))
      z1t)
    (z0c (z0s (zb2 (z5u (z01 zer (z01 zer (z01 zer z08)))) (zmd (z00 1) zcl)))))))
theorem zcp:FnScope ["found", "due"] ["found", "due"] (z05 (top 27)):=⟨rfl,rfl,rfl,by decide +kernel,rfl,by decide +kernel,by decide +kernel⟩
theorem zao:((["k"]:List Str)++([("found",0),("due",1)]:List (Str×Nat)).map (·.1)).Nodup:=by decide +kernel
noncomputable def z3d (f_law_same:List D→M→Option (D×M)):SV :=
    (z1p (sIf (z94 (v1 (zbv ["list", "tuple"]) (z04 1)))
      (z1p (sIf (bOr (zdg (z94 (v1 (zbv ["list", "tuple"]) (z04 0)))) (vT (v2 fNe (v1 (zcc "list") (z04 0)) (v1 (zcc "list") (z04 1)))))
        (z5f (vC (.bl false)))
        sNx)
      (z1p (sIf (vT (v2 fNe (v1 zb3 (z04 0)) (v1 zb3 (z04 1))))
        (z5f (vC (.bl false)))
        sNx)
      (z5f (v1 zlu (z50 ["k"] [("found",0),("due",1)] (ivR (v1 zb3 (z04 1))) (z03 0) zcd (vL f_law_same (z06 (v2 fIx (z04 1) (z04 0)) (z06 (v2 fIx (z04 2) (z04 0)) z1n))))))))
      sNx)
    (z1p (sIf (z94 (v1 (zcc "str") (z04 1)))
      (z5f (zj8 (v1 (zcc "str") (z04 0)) (v2 fEq (z04 0) (z04 1))))
      sNx)
    (z1p (sIf (z94 (v1 (zcc "bool") (z04 1)))
      (z5f (zj8 (v1 (zcc "bool") (z04 0)) (v2 fEq (z04 0) (z04 1))))
      sNx)
    (z5f (zj8 (v1 (zcc "int") (z04 0)) (zj8 (v1 zhy (v1 (zcc "bool") (z04 0))) (v2 fEq (z04 0) (z04 1))))))))
noncomputable def z1s (f_law_same:List D→M→Option (D×M)):List D→M→Option (D×M):=zak 2 2 (z3d f_law_same)
theorem zcz {f_law_same:List D→M→Option (D×M)} {k_law_same k:Nat} (F:Fun K "_law_same" "_law_same" (top 27) f fd) (D_law_same:Df P w K mg base k_law_same "_law_same" ["found", "due"] (spM K f_law_same)) (h_law_same:k_law_same≤k) (m_tuple:mg "tuple" = none) (m_list:mg "list" = none) (m_isinstance:mg "isinstance" = none) (m_len:mg "len" = none) (m_range:mg "range" = none) (m_all:mg "all" = none) (m_str:mg "str" = none) (m_bool:mg "bool" = none) (m_int:mg "int" = none):FnOk P w K mg base CX0 (k+1) f fd ["found", "due"] (spM K (z1s f_law_same)):=by
  unfold z1s z3d
  exact zfn F zcp fun cdv A outer s H E hr =>
    (z07 (z3z (z1o (zl0 ["list", "tuple"] m_isinstance (z00 1) (zkb (z2w rfl m_list rfl (v:=.ty "list") rfl) (zkb (z2w rfl m_tuple rfl (v:=.ty "tuple") rfl) znh))))
      (z07 (z3z (PW.pt (zfo (z5y (z1o (zl0 ["list", "tuple"] m_isinstance (z00 0) (zkb (z2w rfl m_list rfl (v:=.ty "list") rfl) (zkb (z2w rfl m_tuple rfl (v:=.ty "tuple") rfl) znh))))) (zdj (zb4 hr (zb6 "list" m_isinstance (z00 0) (z2w rfl m_list rfl (v:=.ty "list") rfl)) (zb6 "list" m_isinstance (z00 1) (z2w rfl m_list rfl (v:=.ty "list") rfl))))))
        (z0c (z0s zcl))
        z1t)
      (z07 (z3z (zb4 hr (zes m_len (z00 0)) (zes m_len (z00 1)))
        (z0c (z0s zcl))
        z1t)
      (z0c (z0s (zmg m_all (z7s (own:=["k"]) (cap:=[("found",0),("due",1)]) (z5k rfl) (z3i m_range (zes m_len (z00 1)))
      (fun _ _ _ _ _=>(z0e (i:=0) zao rfl (Or.inl rfl))) (fun _ _ _ _ _=>z6l)
      (fun _ _ _ _ _=>(z6k D_law_same (hr.mono h_law_same) (z01 (zb2 (z00 1) (z00 0)) (z01 (zb2 (z00 2) (z00 0)) z08))))))))))
      z1t)
    (z07 (z3z (z1o (zb6 "str" m_isinstance (z00 1) (z2w rfl m_str rfl (v:=.ty "str") rfl)))
      (z0c (z0s (zfz (zb6 "str" m_isinstance (z00 0) (z2w rfl m_str rfl (v:=.ty "str") rfl)) (zfu (zoe hr (z00 0) (z00 1))))))
      z1t)
    (z07 (z3z (z1o (zb6 "bool" m_isinstance (z00 1) (z2w rfl m_bool rfl (v:=.ty "bool") rfl)))
      (z0c (z0s (zfz (zb6 "bool" m_isinstance (z00 0) (z2w rfl m_bool rfl (v:=.ty "bool") rfl)) (zfu (zoe hr (z00 0) (z00 1))))))
      z1t)
    (z0c (z0s (zfz (zb6 "int" m_isinstance (z00 0) (z2w rfl m_int rfl (v:=.ty "int") rfl)) (zfz (zj3 (zb6 "bool" m_isinstance (z00 0) (z2w rfl m_bool rfl (v:=.ty "bool") rfl))) (zfu (zoe hr (z00 0) (z00 1))))))))))
theorem sc_law_refused:FnScope ["many", "sayings", "caught", "e"] ["many", "sayings"] (z05 (top 28)):=⟨rfl,rfl,rfl,by decide +kernel,rfl,by decide +kernel,by decide +kernel⟩
noncomputable def z3y (f_law_kind:List D→M→Option (D×M)) (f_surely_true:FX) (cs_HalfError:List Addr):SV :=
    (z1p (z3k (vC .non) (z03 2))
    (z1p (zsk cs_HalfError 3
      (zbh (vLX f_surely_true (upL (z06 (z04 0) (z06 (z04 1) z1n)))))
      (z3k (z04 3) (z03 2)))
    (z5f (zj8 (v2 zhx (z04 2) (vC .non)) (v2 fEq (vL f_law_kind (z06 (z04 2) z1n)) (vC (.str "fit")))))))
noncomputable def z1e (f_law_kind:List D→M→Option (D×M)) (f_surely_true:FX) (cs_HalfError:List Addr):List D→M→Option (D×M):=zak 4 2 (z3y f_law_kind f_surely_true cs_HalfError)
theorem z8y {f_law_kind:List D→M→Option (D×M)} {f_surely_true:FX} {k_law_kind k_surely_true k:Nat} {T_HalfError:Addr} {cs_HalfError:List Addr} (F:Fun K "_law_refused" "_law_refused" (top 28) f fd) (D_law_kind:Df P w K mg base k_law_kind "_law_kind" ["caught"] (spM K f_law_kind)) (h_law_kind:k_law_kind≤k) (D_surely_true:DfX P w K mg base k_surely_true "surely_true" ["many", "sayings"] (spX K f_surely_true)) (h_surely_true:k_surely_true≤k) (t_HalfError:mg "HalfError" = some (.ref T_HalfError)∧∀ C∈cs_HalfError,PySem.W.exmOne K (.ref C) (.ref T_HalfError)=some true):FnOk P w K mg base CX0 (k+1) f fd ["many", "sayings"] (spM K (z1e f_law_kind f_surely_true cs_HalfError)):=by
  unfold z1e z3y
  exact zfn F sc_law_refused fun cdv A outer s H E hr =>
    (z07 (z0v (i:=2) sc_law_refused.nd rfl (Or.inl rfl) zon)
    (z07 (zoj (i:=3) ⟨rfl,rfl⟩ sc_law_refused.nd rfl rfl t_HalfError.1 t_HalfError.2 (fun _ _ =>
      (z5x (zcf (zj1 D_surely_true (hr.mono h_surely_true) (zj0 (z01 (z00 0) (z01 (z00 1) z08))))))) fun _ =>
      (z0c (z0v (i:=2) sc_law_refused.nd rfl (Or.inl rfl) (z00 3))))
    (z0c (z0s (zfz (zom (z00 2) zon) (zfu (zoe hr (z6k D_law_kind (hr.mono h_law_kind) (z01 (z00 2) z08)) zer)))))))
theorem sc_law_right:FnScope ["many", "sayings", "handed", "due", "sure", "turn", "found", "at", "liars", "told", "saying", "kept"] ["many", "sayings"] (z05 (top 29)):=⟨rfl,rfl,rfl,by decide +kernel,rfl,by decide +kernel,by decide +kernel⟩
theorem z91:((["teller"]:List Str)++([("due",3)]:List (Str×Nat)).map (·.1)).Nodup:=by decide +kernel
theorem z90:((["liars"]:List Str)++([("teller",0)]:List (Str×Nat)).map (·.1)).Nodup:=by decide +kernel
theorem z5z:((["at", "liars"]:List Str)++([]:List (Str×Nat)).map (·.1)).Nodup:=by decide +kernel
noncomputable def z5j (f_law_all_liars:List D→M→Option (D×M)) (f_liars_that_fit:List D→M→Option (D×M)) (f_law_same:List D→M→Option (D×M)) (f_law_refused:List D→M→Option (D×M)) (f_surely_true:List D→M→Option (D×M)):SV :=
    (z1p (z3k (v1 zed (z04 1)) (z03 2))
    (z1p (z3k (vL f_law_all_liars (z06 (z04 0) (z06 (z04 1) z1n))) (z03 3))
    (z1p (z3k (z50 ["teller"] [("due",3)] (ivR (z04 0)) (z03 0) (vT (v2 fEq (z50 ["liars"] [("teller",0)] (ivL (z04 1)) (z03 0) (vT (v2 (fIn false) (z04 1) (z04 0))) (z04 0)) (vL z76 z1n))) (z04 0)) (z03 4))
    (z1p (zgk (ivR (vC (.int 2))) (z03 5)
      (z1p (z3k (vL f_liars_that_fit (z06 (z04 0) (z06 (z04 2) z1n))) (z03 6))
      (z1p (sIf (bOr (zdg (z94 (vL f_law_same (z06 (z04 6) (z06 (z04 3) z1n))))) (vT (v2 fNe (z04 2) (z04 1))))
        (z5f (vC (.bl false)))
        sNx)
      (z1p (zgk (zog (z04 6)) (z5w 2 (z18 (z03 7) (z18 (z03 8) z6w)))
        (zai (v2l zi1 (z04 8) (z04 7))))
      (z1p (sIf (vT (v2 fNe (z04 6) (z50 ["at", "liars"] [] (zog (z04 3)) (z5w 2 (z18 (z03 0) (z18 (z03 1) z6w))) zcd (v2 z35 (z04 1) (vL z76 (z06 (z04 0) z1n))))))
        (z5f (vC (.bl false)))
        sNx)
      (z1p (zai (v2l zi1 (z04 6) (vL z76 z1n)))
      (z1p (sIf (vT (v2 fEq (z04 3) (vL z76 z1n)))
        (sIf (zdg (z94 (vL f_law_refused (z06 (z04 0) (z06 (z04 2) z1n)))))
          (z5f (vC (.bl false)))
          sNx)
        (z1p (z3k (vL f_surely_true (z06 (z04 0) (z06 (z04 2) z1n))) (z03 9))
        (z1p (sIf (zdg (z94 (vL f_law_same (z06 (z04 9) (z06 (z04 4) z1n)))))
          (z5f (vC (.bl false)))
          sNx)
        (zai (v2l zi1 (z04 9) (vC (.int 0)))))))
      (sIf (vT (v2 fNe (z04 2) (z04 1)))
        (z5f (vC (.bl false)))
        sNx))))))))
    (z1p (zgk (zog (vSl (z04 1) zd2 (zf7 (vC (.int 2))))) (z5w 2 (z18 (z03 7) (z18 (z03 10) z6w)))
      (z1p (z3k (v2 z35 (vSl (z04 10) zd2 (zf7 (vC (.int 2)))) (vL zko (z06 (v1 zhy (v2 fIx (z04 10) (vC (.int 2)))) z1n))) (zas (z04 2) (z04 7)))
      (z1p (z3k (v1 zfi (z04 2)) (z03 11))
      (sIf (bOr (zdg (z94 (vL f_law_same (z06 (vL f_liars_that_fit (z06 (z04 0) (z06 (z04 2) z1n))) (z06 (vL f_law_all_liars (z06 (z04 0) (z06 (z04 11) z1n))) z1n))))) (vT (v2 fNe (z04 2) (z04 11))))
        (z5f (vC (.bl false)))
        sNx))))
    (z5f (vC (.bl true))))))))
noncomputable def z3m (f_law_all_liars:List D→M→Option (D×M)) (f_liars_that_fit:List D→M→Option (D×M)) (f_law_same:List D→M→Option (D×M)) (f_law_refused:List D→M→Option (D×M)) (f_surely_true:List D→M→Option (D×M)):List D→M→Option (D×M):=zak 12 2 (z5j f_law_all_liars f_liars_that_fit f_law_same f_law_refused f_surely_true)
theorem zbm {f_law_all_liars f_liars_that_fit f_law_same f_law_refused f_surely_true:List D→M→Option (D×M)} {k_law_all_liars k_liars_that_fit k_law_same k_law_refused k_surely_true k:Nat} (F:Fun K "_law_right" "_law_right" (top 29) f fd) (D_law_all_liars:Df P w K mg base k_law_all_liars "_law_all_liars" ["many", "sayings"] (spM K f_law_all_liars)) (h_law_all_liars:k_law_all_liars≤k) (D_liars_that_fit:Df P w K mg base k_liars_that_fit "liars_that_fit" ["many", "sayings"] (spM K f_liars_that_fit)) (h_liars_that_fit:k_liars_that_fit≤k) (D_law_same:Df P w K mg base k_law_same "_law_same" ["found", "due"] (spM K f_law_same)) (h_law_same:k_law_same≤k) (D_law_refused:Df P w K mg base k_law_refused "_law_refused" ["many", "sayings"] (spM K f_law_refused)) (h_law_refused:k_law_refused≤k) (D_surely_true:Df P w K mg base k_surely_true "surely_true" ["many", "sayings"] (spM K f_surely_true)) (h_surely_true:k_surely_true≤k) (m_list:mg "list" = none) (m_range:mg "range" = none) (m_enumerate:mg "enumerate" = none):FnOk P w K mg base CX0 (k+1) f fd ["many", "sayings"] (spM K (z3m f_law_all_liars f_liars_that_fit f_law_same f_law_refused f_surely_true)):=by
  unfold z3m z5j
  exact zfn F sc_law_right fun cdv A outer s H E hr =>
    (z07 (z0v (i:=2) sc_law_right.nd rfl (Or.inl rfl) (zmb m_list (z00 1)))
    (z07 (z0v (i:=3) sc_law_right.nd rfl (Or.inr rfl) (z6k D_law_all_liars (hr.mono h_law_all_liars) (z01 (z00 0) (z01 (z00 1) z08))))
    (z07 (z97 (i:=4) sc_law_right.nd rfl rfl (own:=["teller"]) (cap:=[("due",3)]) (z5k rfl) (z3i m_range (z00 0))
      (fun _ _ _ _ _=>(z0e (i:=0) z91 rfl (Or.inr rfl))) (fun _ _ _ _ _=>(z7r (zj5 hr (z7s (own:=["liars"]) (cap:=[("teller",0)]) (z5k rfl) (z3p (z00 1))
      (fun _ _ _ _ _=>(z0e (i:=0) z90 rfl (Or.inl rfl))) (fun _ _ _ _ _=>(z7r (zs8 (z00 1) (z00 0))))
      (fun _ _ _ _ _=>(z00 0))) (z5u z08))))
      (fun _ _ _ _ _=>(z00 0)))
    (z07 (z69 PassesOwn.never rfl (z3i m_range z0a) (z0e (i:=5) sc_law_right.nd rfl (Or.inl rfl))
      (z07 (z0v (i:=6) sc_law_right.nd rfl (Or.inl rfl) (z6k D_liars_that_fit (hr.mono h_liars_that_fit) (z01 (z00 0) (z01 (z00 2) z08))))
      (z07 (z3z (PW.pt (zfo (z5y (z1o (z6k D_law_same (hr.mono h_law_same) (z01 (z00 6) (z01 (z00 3) z08))))) (zdj (zb4 hr (z00 2) (z00 1)))))
        (z0c (z0s zcl))
        z1t)
      (z07 (z69 PassesOwn.never rfl (zcj m_enumerate (z00 6)) (z98 (n:=2) (z19 (z0e (i:=7) sc_law_right.nd rfl (Or.inl rfl)) (z19 (z0e (i:=8) sc_law_right.nd rfl (Or.inl rfl)) z6m)))
        (z0c (z7q (zfy (z00 8) (z00 7)))))
      (z07 (z3z (zb4 hr (z00 6) (z7s (own:=["at", "liars"]) (cap:=[]) (z5k rfl) (zcj m_enumerate (z00 3))
      (fun _ _ _ _ _=>(z98 (n:=2) (z19 (z0e (i:=0) z5z rfl (Or.inl rfl)) (z19 (z0e (i:=1) z5z rfl (Or.inl rfl)) z6m)))) (fun _ _ _ _ _=>z6l)
      (fun _ _ _ _ _=>(z3j (z00 1) (z5u (z01 (z00 0) z08))))))
        (z0c (z0s zcl))
        z1t)
      (z07 (z7q (zfy (z00 6) (z5u z08)))
      (z07 (z3z (zj5 hr (z00 3) (z5u z08))
        (z0c (z3z (z5y (z1o (z6k D_law_refused (hr.mono h_law_refused) (z01 (z00 0) (z01 (z00 2) z08)))))
          (z0c (z0s zcl))
          z1t))
        (z07 (z0v (i:=9) sc_law_right.nd rfl (Or.inl rfl) (z6k D_surely_true (hr.mono h_surely_true) (z01 (z00 0) (z01 (z00 2) z08))))
        (z07 (z3z (z5y (z1o (z6k D_law_same (hr.mono h_law_same) (z01 (z00 9) (z01 (z00 4) z08)))))
          (z0c (z0s zcl))
          z1t)
        (z0c (z7q (zfy (z00 9) z0a))))))
      (z0c (z3z (zb4 hr (z00 2) (z00 1))
        (z0c (z0s zcl))
        z1t)))))))))
    (z07 (z69 PassesOwn.never rfl (zcj m_enumerate (zs5 (z00 1) zci (zch z0a))) (z98 (n:=2) (z19 (z0e (i:=7) sc_law_right.nd rfl (Or.inl rfl)) (z19 (z0e (i:=10) sc_law_right.nd rfl (Or.inl rfl)) z6m)))
      (z07 (zfq (z3j (zs5 (z00 10) zci (zch z0a)) (zok (z01 (zj3 (zb2 (z00 10) z0a)) z08))) (zfr (z00 2) (z00 7)))
      (z07 (z0v (i:=11) sc_law_right.nd rfl (Or.inl rfl) (zoo m_list (z00 2)))
      (z0c (z3z (PW.pt (zfo (z5y (z1o (z6k D_law_same (hr.mono h_law_same) (z01 (z6k D_liars_that_fit (hr.mono h_liars_that_fit) (z01 (z00 0) (z01 (z00 2) z08))) (z01 (z6k D_law_all_liars (hr.mono h_law_all_liars) (z01 (z00 0) (z01 (z00 11) z08))) z08))))) (zdj (zb4 hr (z00 2) (z00 11)))))
        (z0c (z0s zcl))
        z1t)))))
    (z0c (z0s zcl)))))))
theorem sc_law:FnScope ["script", "cell", "deck", "size", "many"] ["script"] (z05 (top 30)):=⟨rfl,rfl,rfl,by decide +kernel,rfl,by decide +kernel,by decide +kernel⟩
noncomputable def zi5 (f_law_cell_at:List D→M→Option (D×M)) (f_law_deck:List D→M→Option (D×M)) (f_law_take:List D→M→Option (D×M)) (f_law_sayings:List D→M→Option (D×M)) (f_law_right:List D→M→Option (D×M)):SV :=
    (z1p (zgk (ivL (v2 z35 (vSl (z04 0) zd2 (zf7 (vC (.int 4)))) (vL z76 (z06 (vL f_law_cell_at (z06 (z04 0) (z06 (vC (.int 0)) z1n))) z1n)))) (z03 1)
      (z1p (z3k (vL f_law_deck (z06 (z04 1) z1n)) (z03 2))
      (z1p (z3k (v2 fIx (vL z76 (z06 (vC (.int 0)) (z06 (vC (.int 0)) (z06 (vC (.int 1)) (z06 (vC (.int 1)) (z06 (vC (.int 1)) (z06 (vC (.int 1)) (z06 (vC (.int 1)) (z06 (vC (.int 2)) z1n))))))))) (vL f_law_take (z06 (z04 2) (z06 (vC (.int 8)) z1n)))) (z03 3))
      (z1p (z3k (v2 fIx (vL z76 (z06 (v2 z35 (vC (.int 1)) (vL f_law_take (z06 (z04 2) (z06 (vC (.int 5)) z1n)))) (z06 (v2 z35 (vC (.int 1)) (vL f_law_take (z06 (z04 2) (z06 (vC (.int 8)) z1n)))) (z06 (vC (.int 10)) z1n)))) (z04 3)) (z03 4))
      (sIf (zdg (z94 (vL f_law_right (z06 (z04 4) (z06 (vL f_law_sayings (z06 (z04 2) (z06 (z04 4) z1n))) z1n)))))
        (z5f (vC (.bl false)))
        sNx)))))
    (z5f (vC (.bl true))))
noncomputable def ze3 (f_law_cell_at:List D→M→Option (D×M)) (f_law_deck:List D→M→Option (D×M)) (f_law_take:List D→M→Option (D×M)) (f_law_sayings:List D→M→Option (D×M)) (f_law_right:List D→M→Option (D×M)):List D→M→Option (D×M):=zak 5 1 (zi5 f_law_cell_at f_law_deck f_law_take f_law_sayings f_law_right)
theorem zqo {f_law_cell_at f_law_deck f_law_take f_law_sayings f_law_right:List D→M→Option (D×M)} {k_law_cell_at k_law_deck k_law_take k_law_sayings k_law_right k:Nat} (F:Fun K "law" "law" (top 30) f fd) (D_law_cell_at:Df P w K mg base k_law_cell_at "_law_cell_at" ["script", "k"] (spM K f_law_cell_at)) (h_law_cell_at:k_law_cell_at≤k) (D_law_deck:Df P w K mg base k_law_deck "_law_deck" ["cell"] (spM K f_law_deck)) (h_law_deck:k_law_deck≤k) (D_law_take:Df P w K mg base k_law_take "_law_take" ["deck", "many"] (spM K f_law_take)) (h_law_take:k_law_take≤k) (D_law_sayings:Df P w K mg base k_law_sayings "_law_sayings" ["deck", "many"] (spM K f_law_sayings)) (h_law_sayings:k_law_sayings≤k) (D_law_right:Df P w K mg base k_law_right "_law_right" ["many", "sayings"] (spM K f_law_right)) (h_law_right:k_law_right≤k):FnOk P w K mg base CX0 (k+1) f fd ["script"] (spM K (ze3 f_law_cell_at f_law_deck f_law_take f_law_sayings f_law_right)):=by
  unfold ze3 zi5
  exact zfn F sc_law fun cdv A outer s H E hr =>
    (z07 (z69 PassesOwn.never rfl (z3p (z3j (zs5 (z00 0) zci (zch z0a)) (z5u (z01 (z6k D_law_cell_at (hr.mono h_law_cell_at) (z01 (z00 0) (z01 z0a z08))) z08)))) (z0e (i:=1) sc_law.nd rfl (Or.inl rfl))
      (z07 (z0v (i:=2) sc_law.nd rfl (Or.inl rfl) (z6k D_law_deck (hr.mono h_law_deck) (z01 (z00 1) z08)))
      (z07 (z0v (i:=3) sc_law.nd rfl (Or.inl rfl) (zb2 (z5u (z01 z0a (z01 z0a (z01 z0a (z01 z0a (z01 z0a (z01 z0a (z01 z0a (z01 z0a z08))))))))) (z6k D_law_take (hr.mono h_law_take) (z01 (z00 2) (z01 z0a z08)))))
      (z07 (z0v (i:=4) sc_law.nd rfl (Or.inl rfl) (zb2 (z5u (z01 (z3j z0a (z6k D_law_take (hr.mono h_law_take) (z01 (z00 2) (z01 z0a z08)))) (z01 (z3j z0a (z6k D_law_take (hr.mono h_law_take) (z01 (z00 2) (z01 z0a z08)))) (z01 z0a z08)))) (z00 3)))
      (z0c (z3z (z5y (z1o (z6k D_law_right (hr.mono h_law_right) (z01 (z00 4) (z01 (z6k D_law_sayings (hr.mono h_law_sayings) (z01 (z00 2) (z01 (z00 4) z08))) z08)))))
        (z0c (z0s zcl))
        z1t))))))
    (z0c (z0s zcl)))
end
theorem wpA:type_of% (And.intro @z38 (And.intro @z39 (And.intro @z8o (And.intro @z46 (And.intro @z1y (And.intro @z8n (And.intro @z3s (And.intro @z47 (And.intro @z3r (And.intro @z1z (And.intro @z8m (And.intro @z8j (And.intro @z8l (And.intro @z3q (And.intro @z1m (And.intro @w_c (And.intro @z1g (And.intro @z1f (And.intro @w_T (And.intro @z49 (And.intro @z4a (And.intro @z4b (And.intro @z9f (And.intro @w_Yes (And.intro @z1u (And.intro @z40 (And.intro @z42 (And.intro @z9c (And.intro @z9b (And.intro @z9e (And.intro @z1h (And.intro @z1w (And.intro @z0x (And.intro @q1_ (And.intro @q2_ (And.intro @z7i (And.intro @qL_ (And.intro @qc_ (And.intro @z8s (And.intro @qT_ (And.intro @z25 (And.intro @z4j (And.intro @z2j (And.intro @z2k (And.intro @z4g (And.intro @z4h (And.intro @z4l (And.intro @z4m (And.intro @z4f (And.intro @z4e (And.intro @z9o (And.intro @z9n (And.intro @z9m (And.intro @z9l (And.intro @z9p (And.intro @z1c (And.intro @z27 (And.intro @z29 (And.intro @z28 (And.intro @z9w (And.intro @z9r (And.intro @z3t (And.intro @z3u (And.intro @z81 (And.intro @z80 (And.intro @z8t (And.intro @z16 (And.intro @z14 (And.intro @z15 (And.intro @wp_some (And.intro @ws_some (And.intro @z2n (And.intro @z4p (And.intro @za2 (And.intro @za1 (And.intro @za3 (And.intro @z8u (And.intro @z8v (And.intro @z4u (And.intro @z4r (And.intro @z4s (And.intro @z4t (And.intro @z4q (And.intro @z3v (And.intro @z2o (And.intro @z4k (And.intro @z9v (And.intro @z9t (And.intro @z9s (And.intro @z9q (And.intro @z45 (And.intro @z44 (And.intro @z24 (And.intro @z23 (And.intro @z43 (And.intro @z2e (And.intro @z2f (And.intro @z41 (And.intro @z0z (And.intro @z10 (And.intro @z21 (And.intro @z22 (And.intro @z2c (And.intro @z2d (And.intro @z26 (And.intro @z12 (And.intro @z11 (And.intro @z13 (And.intro @z1v (And.intro @z2h (And.intro @z2i (And.intro @z0y (And.intro @z2a (And.intro @z2b (And.intro @z4n (And.intro @z4o (And.intro @z2g (And.intro @z48 (And.intro @z4i (And.intro @z2l (And.intro @z2m (And.intro @z20 (And.intro @z0w (And.intro @z0k (And.intro @z0l (And.intro @z0m (And.intro @z9u (And.intro @z1x (@wt_some))))))))))))))))))))))))))))))))))))))))))))))))))))))))))))))))))))))))))))))))))))))))))))))))))))))))))))))))))))))))))))))))):=And.intro @z38 (And.intro @z39 (And.intro @z8o (And.intro @z46 (And.intro @z1y (And.intro @z8n (And.intro @z3s (And.intro @z47 (And.intro @z3r (And.intro @z1z (And.intro @z8m (And.intro @z8j (And.intro @z8l (And.intro @z3q (And.intro @z1m (And.intro @w_c (And.intro @z1g (And.intro @z1f (And.intro @w_T (And.intro @z49 (And.intro @z4a (And.intro @z4b (And.intro @z9f (And.intro @w_Yes (And.intro @z1u (And.intro @z40 (And.intro @z42 (And.intro @z9c (And.intro @z9b (And.intro @z9e (And.intro @z1h (And.intro @z1w (And.intro @z0x (And.intro @q1_ (And.intro @q2_ (And.intro @z7i (And.intro @qL_ (And.intro @qc_ (And.intro @z8s (And.intro @qT_ (And.intro @z25 (And.intro @z4j (And.intro @z2j (And.intro @z2k (And.intro @z4g (And.intro @z4h (And.intro @z4l (And.intro @z4m (And.intro @z4f (And.intro @z4e (And.intro @z9o (And.intro @z9n (And.intro @z9m (And.intro @z9l (And.intro @z9p (And.intro @z1c (And.intro @z27 (And.intro @z29 (And.intro @z28 (And.intro @z9w (And.intro @z9r (And.intro @z3t (And.intro @z3u (And.intro @z81 (And.intro @z80 (And.intro @z8t (And.intro @z16 (And.intro @z14 (And.intro @z15 (And.intro @wp_some (And.intro @ws_some (And.intro @z2n (And.intro @z4p (And.intro @za2 (And.intro @za1 (And.intro @za3 (And.intro @z8u (And.intro @z8v (And.intro @z4u (And.intro @z4r (And.intro @z4s (And.intro @z4t (And.intro @z4q (And.intro @z3v (And.intro @z2o (And.intro @z4k (And.intro @z9v (And.intro @z9t (And.intro @z9s (And.intro @z9q (And.intro @z45 (And.intro @z44 (And.intro @z24 (And.intro @z23 (And.intro @z43 (And.intro @z2e (And.intro @z2f (And.intro @z41 (And.intro @z0z (And.intro @z10 (And.intro @z21 (And.intro @z22 (And.intro @z2c (And.intro @z2d (And.intro @z26 (And.intro @z12 (And.intro @z11 (And.intro @z13 (And.intro @z1v (And.intro @z2h (And.intro @z2i (And.intro @z0y (And.intro @z2a (And.intro @z2b (And.intro @z4n (And.intro @z4o (And.intro @z2g (And.intro @z48 (And.intro @z4i (And.intro @z2l (And.intro @z2m (And.intro @z20 (And.intro @z0w (And.intro @z0k (And.intro @z0l (And.intro @z0m (And.intro @z9u (And.intro @z1x (@wt_some))))))))))))))))))))))))))))))))))))))))))))))))))))))))))))))))))))))))))))))))))))))))))))))))))))))))))))))))))))))))))))))))
local macro_rules | `(tactic| simp_arith)=>`(tactic| simp only [wpA,List.set_cons_zero,List.set_cons_succ])
local macro_rules | `(tactic| simp_arith [$ts,*])=>`(tactic| simp only [$ts,*,wpA,List.set_cons_zero,List.set_cons_succ])
def Ls (μ:M) (d:D) (ds:List D):Prop:=z5v μ d=some ds∧∃ c,lsC μ d=some (ds,c)∧z78 c μ∧∀ μ',Gr μ μ'→z78 c μ'
theorem Ls.lst {μ:M} {ds:List D}:Ls μ (.lst ds) ds:=⟨rfl,none,rfl,trivial,fun _ _=>trivial⟩
theorem Ls.ref {μ:M} {k:Nat} {ds:List D} (h:μ[k]?=some (some (.lst ds))):Ls μ (.ref k) ds:=⟨z5s h,_,zhj h,h,fun _ g=>g.get h⟩
theorem z5r {μ:M} {d:D} {ds:List D} (h:Ls μ d ds):(∃ k,d=.ref k∧μ[k]?=some (some (.lst ds)))∨(d=.lst ds)∨d=.scr ds:=by
  obtain ⟨h1,_⟩:=h
  cases d with
  | lst xs=>cases h1;exact .inr (.inl rfl)
  | scr xs=>cases h1;exact .inr (.inr rfl)
  | ref k =>
    simp only [z5v] at h1
    split at h1
    · rename_i xs hk;cases h1;exact .inl ⟨k,rfl,hk⟩
    · cases h1
  | _=>cases h1
theorem Ls.gr {μ μ':M} {d:D} {ds:List D} (h:Ls μ d ds) (g:Gr μ μ'):Ls μ' d ds:=by
  rcases z5r h with ⟨k,rfl,hk⟩ | rfl | rfl
  · exact .ref (g.get hk)
  · exact .lst
  · exact ⟨rfl,none,rfl,trivial,fun _ _=>trivial⟩
structure On (s:Nat) (μ μ':M):Prop where
  len:μ'.length=μ.length
  at_:∀ j,j≠s→μ'[j]?=μ[j]?
theorem On.refl {s:Nat} {μ:M}:On s μ μ:=⟨rfl,fun _ _=>rfl⟩
theorem zlo {s:Nat} {μ:M} {o:Option O}:On s μ (μ.set s o):=⟨by simp,fun j n=>z6p n⟩
theorem On.trans {s:Nat} {μ μ1 μ2:M} (h:On s μ μ1) (g:On s μ1 μ2):On s μ μ2:=⟨g.len.trans h.len,fun j n=>(g.at_ j n).trans (h.at_ j n)⟩
theorem On.gr {s:Nat} {μ μ1 μ2:M} (g:Gr μ μ1) (h:On s μ1 μ2) (hs:μ.length≤s):Gr μ μ2:=⟨by rw [h.len];exact g.len,fun j hj=>by rw [h.at_ j (by omega)];exact g.at_ j hj⟩
def Dk (μ:M) (k:Nat):Prop:=∃ a b c:Int,μ[k]?=some (some (.lst [.int a,.int b,.int c]))
theorem zjr {μ:M} {k:Nat} {m:Int} (h:Dk μ k) (h0:0<m) (h1:m<2 ^ 200):∃ (r:Nat) (μ':M),z0h [.ref k,.int m] μ=some (.int (r:Nat),μ')∧(r:Int)<m∧Dk μ' k∧On k μ μ':=by
  obtain ⟨a,b,c,hk⟩:=h
  have hk1:=zag (y:=some (O.lst [.int a,.int b,.int (c+1)])) hk
  have o1:On k μ (μ.set k (some (O.lst [.int a,.int b,.int (c+1)]))):=zlo
  by_cases ha:0<a
  · have q1:zca a 65536:=by unfold zca;decide
    have q2:zcb a 65536:=by unfold zcb;decide
    have q3:zca (a % 65536) m:=h0
    have hn:=Int.emod_nonneg (a % 65536) (b:=m) (by omega)
    have hlt:=Int.emod_lt_of_pos (a % 65536) h0
    refine ⟨(a % 65536 % m).toNat,(μ.set k (some (O.lst [.int a,.int b,.int (c+1)]))).set k (some (O.lst [.int (a / 65536),.int b,.int (c+1)])),?_,by omega,⟨_,_,_,zag hk1⟩,⟨by simp,fun j n=>by rw [z6p n,z6p n]⟩⟩
    have hr:(((a % 65536 % m).toNat:Nat):Int)=a % 65536 % m:=by omega
    rw [hr]
    generalize hμ1:μ.set k (some (O.lst [.int a,.int b,.int (c+1)]))=μ1 at hk1 ⊢
    simp [z0h,z56,zav hk,z35,z83 hk,hμ1,zav hk1,z83 hk1,ha,q1,q2,q3]
  · have s1:=Int.emod_nonneg ((b+7919*(c+1))*48271) (b:=2147483647) (by decide)
    have s2:=Int.emod_lt_of_pos ((b+7919*(c+1))*48271) (b:=2147483647) (by decide)
    generalize hst:(b+7919*(c+1))*48271 % 2147483647=st at s1 s2
    have t1:=Int.emod_nonneg (st*st) (b:=2147483629) (by decide)
    have t2:=Int.emod_lt_of_pos (st*st) (b:=2147483629) (by decide)
    generalize htt:st*st % 2147483629=tt at t1 t2
    generalize hz:(tt+40692*(c+1))*69621 % 2147483563 / 8=z
    have hn:=Int.emod_nonneg z (b:=m) (by omega)
    have hlt:=Int.emod_lt_of_pos z h0
    refine ⟨(z % m).toNat,μ.set k (some (O.lst [.int a,.int b,.int (c+1)])),?_,by omega,⟨_,_,_,hk1⟩,o1⟩
    have hr:(((z % m).toNat:Nat):Int)=z % m:=by omega
    rw [hr]
    generalize hμ1:μ.set k (some (O.lst [.int a,.int b,.int (c+1)]))=μ1 at hk1 ⊢
    have m1:CMul 7919 (c+1):=.inl ⟨by decide,by decide⟩
    have m2:CMul (b+7919*(c+1)) 48271:=.inr ⟨by decide,by decide⟩
    have m3:CMul st st:=.inl ⟨by omega,by omega⟩
    have m4:CMul 40692 (c+1):=.inl ⟨by decide,by decide⟩
    have m5:CMul (tt+40692*(c+1)) 69621:=.inr ⟨by decide,by decide⟩
    have p1:∀ x,zca x 2147483647:=fun x=>by unfold zca;decide
    have p2:∀ x,zca x 2147483629:=fun x=>by unfold zca;decide
    have p3:∀ x,zca x 2147483563:=fun x=>by unfold zca;decide
    have p4:∀ x,zcb x 8:=fun x=>by unfold zcb;decide
    have p5:zca z m:=h0
    simp [z0h,z56,zav hk,z35,z83 hk,hμ1,zav hk1,ha,z4x,zv3,m1,m2,m3,m4,m5,p1,p2,p3,p4,p5,hst,htt,hz]
theorem zjv {μ:M} {c:Int}:∃ k μ',z2x [.int c] μ=some (.ref k,μ')∧Dk μ' k∧Gr μ μ'∧μ.length≤k:=by
  have p1:zca c 2147483629:=by unfold zca;decide
  have p2:zrr 10 18:=⟨by decide,by decide,by decide⟩
  refine ⟨μ.length,μ++[some (.lst [.int (if 1000000000000000000<c then c - 1000000000000000000 else 0),.int (c % 2147483629),.int 0])],?_,⟨(if 1000000000000000000<c then c - 1000000000000000000 else 0),c % 2147483629,0,by simp⟩,gr_app,Nat.le_refl _⟩
  simp [z2x,z66,ziv,p1,p2]
theorem zf3 {μ:M} {ns:List Int}:∃ v:Int,z0t [.scr (ns.map D.int),.int 0] μ=some (.int v,μ):=by
  cases ns with
  | nil=>exact ⟨0,by simp [z0t,z32,zb3,z5v]⟩
  | cons a r =>
    have z:atI (D.int a::r.map D.int) 0=some (.int a):=by unfold atI;simp
    have hp:(0:Int)<(r.length:Int)+1:=by omega
    exact ⟨a,by simp [z0t,z32,zb3,z5v,hp,z]⟩
theorem zc8 {μ:M} {k:Nat} {ds:List D} {y:D} (h:μ[k]?=some (some (.lst ds))) (hl:ds.length<1000000):∃ μ',zi1 (.ref k) y μ=some (.non,μ')∧μ'[k]?=some (some (.lst (ds++[y])))∧On k μ μ' :=
  ⟨_,by simp only [zi1,z83 h,if_pos hl,zt9],zag h,zlo⟩
theorem Dk.gr {μ μ':M} {k:Nat} (h:Dk μ k) (g:Gr μ μ'):Dk μ' k:=let ⟨a,b,c,e⟩:=h;⟨a,b,c,g.get e⟩
theorem Dk.on {μ μ':M} {k r:Nat} (h:Dk μ k) (n:k≠r) (g:On r μ μ'):Dk μ' k:=let ⟨a,b,c,e⟩:=h;⟨a,b,c,by rw [g.at_ k n];exact e⟩
theorem Dk.lt {μ:M} {k:Nat} (h:Dk μ k):k<μ.length:=let ⟨_,_,_,e⟩:=h;(List.getElem?_eq_some_iff.mp e).1
theorem z33 {α:Type} {c:Ck} {g:GV} {tc:BV} {te:EV} {dn:α→D} {keep:α→Bool} {val:α→D} (Pv:G→Prop) {μ:M} {Γ:G} (hc:z78 c μ) (l:List α) (h0:Pv Γ)
    (hs:∀ a∈l,∀ Γ,Pv Γ→Wp (g (dn a) Γ μ) fun Γ1 μ1=>μ1=μ∧Pv Γ1∧Wp (tc Γ1 μ) fun b μ2=>b=keep a∧μ2=μ∧(keep a=true→Wp (te Γ1 μ) fun x μ3=>x=val a∧μ3=μ)) {R:List D→M→Prop} (hR:R ((l.filter keep).map val) μ):Wp (z1q c g tc te (l.map dn) Γ μ) R:=by
  refine comp_inv (fun done r Γ μ'=>∃ i,i≤l.length∧μ'=μ∧Pv Γ∧r=(l.drop i).map dn∧done=((l.take i).filter keep).map val) _ ⟨0,by omega,rfl,h0,rfl,rfl⟩ ?_ ?_
  · rintro done d r Γ μ' ⟨i,hi,rfl,hp,e,rfl⟩
    have hi':i<l.length:=by
      rcases Nat.lt_or_ge i l.length with z | z
      · exact z
      · rw [List.drop_eq_nil_of_le z] at e;cases e
    rw [List.drop_eq_getElem_cons hi',List.map_cons] at e
    cases e
    have ht:l.take (i+1)=l.take i++[l[i]]:=by rw [List.take_append_getElem hi']
    refine (hs l[i] (List.getElem_mem hi') Γ hp).imp fun Γ1 μ1 ⟨e,hp1,h⟩=>?_
    subst e
    refine h.imp fun b μ2 ⟨e1,e2,h⟩=>?_
    subst e1;subst e2
    cases hk:keep l[i] with
    | true =>
      show Wp _ _
      refine (h hk).imp fun x μ3 ⟨e1,e2⟩=>?_
      subst e1;subst e2
      refine ⟨hc,i+1,hi',rfl,hp1,rfl,?_⟩
      rw [ht,List.filter_append,List.map_append]
      simp [hk]
    | false =>
      show z78 c _∧_
      refine ⟨hc,i+1,hi',rfl,hp1,rfl,?_⟩
      rw [ht,List.filter_append,List.map_append]
      simp [hk]
  · rintro done Γ μ' ⟨i,hi,rfl,_,e,rfl⟩
    have:l.length≤i:=by
      have:=congrArg List.length e
      simp at this
      omega
    rw [List.take_of_length_le this]
    exact hR
theorem zm5 {μ:M} (l:List Bool):zlu (.lst (l.map D.bl)) μ=some (.bl (l.all id),μ):=by
  have:optAll inB (l.map D.bl)=some l:=by
    have:=z2p (f:=inB) (g:=D.bl) (h:=id) (l:=l) (fun x _=>rfl)
    simpa using this
  unfold zlu
  show (optAll inB (l.map D.bl)).bind _=_
  rw [this];rfl
noncomputable abbrev Az:=Int×Int×Bool
noncomputable def dZ (a:Az):D:=.tup [.int a.1,.int a.2.1,.bl a.2.2]
noncomputable def okZ (n:Int) (a:Az):Bool:=((decide (0≤a.1)&&decide (a.1<n))&&(decide (0≤a.2.1)&&decide (a.2.1<n)))&&!decide (a.1=a.2.1)
def Sm (i:Int):Prop:=i.natAbs<2 ^ 100
def SmZ (as:List Az):Prop:=∀ a∈as,Sm a.1∧Sm a.2.1
theorem Sm.log {i:Int} (h:Sm i):i.natAbs.log2<1920:=by
  by_cases h0:i.natAbs=0
  · rw [h0];decide
  · exact (Nat.log2_lt h0).mpr (Nat.lt_of_lt_of_le h (Nat.pow_le_pow_right (by decide) (by decide)))
theorem zel {Γ:G} {μ:M} {ea eb ec:EV} {i j k:Int} (h1:ea Γ μ=some (.int i,μ)) (h2:eb Γ μ=some (.int j,μ)) (h3:ec Γ μ=some (.int k,μ)):z9g fLe fLt ea eb ec Γ μ=some (.bl (decide (i≤j)&&decide (j<k)),μ):=by
  unfold z9g
  rw [h1,bs]
  show (eb Γ μ).bind _=_
  rw [h2,bs]
  show (fLe (.int i) (.int j) μ).bind _=_
  rw [z8u,bs]
  cases decide (i≤j) with
  | false=>rfl
  | true =>
    show (ec Γ μ).bind _=_
    rw [h3]
    rfl
section
variable {C CF CT CN:Addr} {n:Int} {d:D} {as:List Az} {μ:M}
theorem z73 {Γ:G} {ea:EV} {l:List EV} {i:Int} (h:ea Γ μ=some (.int i,μ)) (hs:Sm i):zmx (ea::l) Γ μ=zmx l Γ μ:=by
  show (ea Γ μ).bind _=_
  rw [h,bs]
  show (if i.natAbs.log2<1920 then _ else none)=_
  rw [if_pos hs.log]
theorem zf2 (hl:Ls μ d (as.map dZ)) (hn:Sm n) (hs:SmZ as):Wp (z17 C [.int n,d] μ) fun r μ'=>μ'=μ∧r=if n<0∨as.all (okZ n)=false then .ex C else .ok .non:=by
  unfold z17 z3f
  refine (zdn rfl).mpr ?_
  show Wt (z6r _ _ [some (.int n),some d,none,none,none] μ) _
  simp_arith
  by_cases h0:n<0
  · rw [decide_eq_true h0]
    simp_arith
    refine z7g (μ':=μ) ?_ ?_
    · rw [z73 rfl hn];rfl
    · simp_arith
      exact ⟨trivial,by rw [if_pos (.inl h0)]⟩
  rw [decide_eq_false h0]
  simp_arith
  obtain ⟨h1,c,h2,h3,h4⟩:=hl
  refine ⟨_,h2,?_⟩
  simp_arith
  refine L3.forX_inv (fun r Γ μ'=>μ'=μ∧∃ bs o2 o3 o4,r=bs.map dZ∧SmZ bs∧as.all (okZ n)=bs.all (okZ n)∧Γ=[some (.int n),some d,o2,o3,o4]) _ ⟨rfl,as,_,_,_,rfl,hs,rfl,rfl⟩ ?_ ?_
  · rintro x r Γ μ ⟨rfl,bs,o2,o3,o4,hr,hsb,ha,rfl⟩
    cases bs with
    | nil=>cases hr
    | cons a bs =>
      cases hr
      obtain ⟨s1,s2⟩:=hsb a (by simp)
      show Wp (z5w 3 _ (.tup [.int a.1,.int a.2.1,.bl a.2.2]) _ _) _
      rw [z9d (n:=3) rfl]
      simp_arith
      rw [zel (i:=0) (j:=a.1) (k:=n) rfl rfl rfl]
      simp_arith
      cases e1:(decide (0≤a.1)&&decide (a.1<n)) with
      | false =>
        simp_arith [Bool.not_false]
        refine z7g (μ':=μ) (by rw [z73 rfl s1,z73 rfl s2,z73 rfl hn];rfl) ?_
        simp_arith
        refine ⟨trivial,?_⟩
        exact (if_pos (.inr (by rw [ha,List.all_cons];simp [okZ,e1]))).symm
      | true =>
        simp_arith
        rw [zel (i:=0) (j:=a.2.1) (k:=n) rfl rfl rfl]
        simp_arith
        cases e2:(decide (0≤a.2.1)&&decide (a.2.1<n)) with
        | false =>
          simp_arith [Bool.not_false]
          refine z7g (μ':=μ) (by rw [z73 rfl s1,z73 rfl s2,z73 rfl hn];rfl) ?_
          simp_arith
          refine ⟨trivial,?_⟩
          exact (if_pos (.inr (by rw [ha,List.all_cons];simp [okZ,e2]))).symm
        | true =>
          simp_arith [Bool.not_true]
          cases e3:decide (a.1=a.2.1) with
          | true =>
            simp_arith
            refine z7g (μ':=μ) (by rw [z73 rfl s1];rfl) ?_
            simp_arith
            refine ⟨trivial,?_⟩
            exact (if_pos (.inr (by rw [ha,List.all_cons];simp [okZ,e3]))).symm
          | false =>
            simp_arith
            refine ⟨h3,trivial,bs,_,_,_,rfl,fun b hb=>hsb b (by simp [hb]),?_,rfl⟩
            rw [ha,List.all_cons]
            simp [okZ,e1,e2,e3]
  · rintro Γ μ ⟨rfl,bs,o2,o3,o4,hr,hsb,ha,rfl⟩
    simp_arith
    refine ⟨trivial,?_⟩
    have hb:bs=[]:=by cases bs with | nil=>rfl | cons _ _=>cases hr
    subst hb
    rw [if_neg]
    rintro (z | z)
    · exact h0 z
    · rw [ha] at z;cases z
end
section
variable {μ:M} {d:D} {k n:Nat} {as:List Az}
theorem z5d {m:Int} (h:Dk μ k) (h0:0<m) (h1:m<2 ^ 200):Wp (z0h [.ref k,.int m] μ) fun d μ'=>∃ r:Nat,d=.int (r:Int)∧(r:Int)<m∧Dk μ' k∧On k μ μ':=by
  obtain ⟨r,μ',e,b,d,o⟩:=zjr h h0 h1
  exact ⟨_,_,e,r,rfl,b,d,o⟩
theorem Ls.len {ds:List D} (h:Ls μ d ds):zb3 d μ=some (.int ds.length,μ):=by unfold zb3;rw [h.1]
theorem Ls.sl {ds:List D} {lo hi:Option Int} (h:Ls μ d ds):fSl d lo hi μ=some (.lst (zfj ds lo hi),μ):=by unfold fSl;rw [h.1]
theorem Ls.ix {ds:List D} {r:Nat} (h:Ls μ d ds) (hr:r<ds.length):fIx d (.int (r:Int)) μ=some (ds[r],μ):=by
  show (match z5v μ d with | some ds=>(atI ds (r:Int)).bind fun d=>some (d,μ) | none=>_)=_
  rw [h.1]
  show (atI ds (r:Int)).bind _=_
  rw [zij (List.getElem?_eq_getElem hr)]
  rfl
theorem zls {ds:List D} {r:Nat} (h:r<ds.length):fIx (.lst ds) (.int (r:Int)) μ=some (ds[r],μ):=Ls.lst.ix h
noncomputable def zmn (a:Az):Tri Int Int Bool:=⟨a.1,a.2.1,a.2.2⟩
theorem zrj (as:List Az):as.map dZ=(as.map zmn).map Enc.d:=by
  rw [List.map_map];rfl
theorem zjf {as bs:List Az} (h:as.map zmn=bs.map zmn):as=bs:=by
  refine (List.map_inj_right (f:=zmn) ?_).mp h
  rintro ⟨a,b,c⟩ ⟨a',b',c'⟩ e
  simp [zmn] at e
  obtain ⟨e1,e2,e3⟩:=e
  subst e1 e2 e3
  rfl
theorem Ls.rdsZ (h:Ls μ d (as.map dZ)):Rds μ d (List (Tri Int Int Bool)) (as.map zmn):=by
  rw [zrj] at h
  rcases z5r h with ⟨k,rfl,hk⟩ | rfl | rfl
  · exact zgq (by decide) hk
  · exact zgr (α:=List (Tri Int Int Bool)) (by decide) (as.map zmn)
  · unfold Rds
    rw [zpt,z8b (by decide)]
    rfl
theorem eqZ {x y:D} {as bs:List Az} (h1:Ls μ x (as.map dZ)) (h2:Ls μ y (bs.map dZ)):eqD x y μ=some (decide (as=bs)):=by
  have hi:∀ {z:D} {ds:List D},Ls μ z ds→isInt z=false∧zfc z=false:=fun h=>by
    rcases z5r h with ⟨k,rfl,_⟩ | rfl | rfl <;> exact ⟨rfl,rfl⟩
  rw [zax (α:=List (Tri Int Int Bool)) (by decide) h1.rdsZ h2.rdsZ (by simp [(hi h1).1]) (by simp [(hi h1).2])]
  congr 1
  rw [Bool.eq_iff_iff]
  simp only [decide_eq_true_eq]
  exact ⟨zjf,fun e=>by rw [e]⟩
theorem zmr {i:Int} (h1:-(2*10 ^ 20)≤i) (h2:i≤2*10 ^ 20):Sm i:=by
  unfold Sm
  have e:(2:Nat) ^ 100=1267650600228229401496703205376:=by decide
  rw [e]
  omega
end
noncomputable def wd:Nat→Str
  | 1 => "thing"
  | 2 => "fit"
  | 3 => "many"
  | _ => ""
section
variable {q1 q2 q3 q4 q5 q6 q7 q8 q9:Addr→Option Bool} {C:Addr}
theorem zgo {μ:M} {k:Nat} (w:Nat) (hw:w=1∨w=2∨w=3) (hk:μ[k]?=some (some (.exc C))) (h1:q1 C=some (w==3)) (h2:q2 C=some (w==2)) (h3:q3 C=some (w==1)) (h4:q4 C=some false) (h5:q5 C=some false) (h6:q6 C=some false) (h7:q7 C=some false) (h8:q8 C=some false) (h9:q9 C=some true) :
    z1a q1 q2 q3 q4 q5 q6 q7 q8 q9 [.ref k] μ=some (.str (wd w),μ):=by
  have x:∀ q b,q C=some b→zbu q (.ref k) μ=some (.bl b,μ):=fun q b h=>by simp only [zbu,hk,h,Option.bind_some]
  have y:zbt [q8,q7,q6,q5,q4] (.ref k) μ=some (.bl false,μ):=by simp [zbt,hk,optAll,h4,h5,h6,h7,h8]
  rcases hw with rfl | rfl | rfl
  · have c:zbx (.lst [.bl true,.bl false,.bl false]) (.bl true) μ=some (.int 1,μ):=rfl
    have i:zbw (.lst [.bl true,.bl false,.bl false]) (.bl true) μ=some (.int 0,μ):=rfl
    have z:atI [D.str "thing",.str "fit",.str "many"] 0=some (.str "thing"):=rfl
    simp [z1a,z3e,x _ _ h1,x _ _ h2,x _ _ h3,x _ _ h9,y,z76,z9h,z5v,c,i,fNe,z67,z,wd]
  · have c:zbx (.lst [.bl false,.bl true,.bl false]) (.bl true) μ=some (.int 1,μ):=rfl
    have i:zbw (.lst [.bl false,.bl true,.bl false]) (.bl true) μ=some (.int 1,μ):=rfl
    have z:atI [D.str "thing",.str "fit",.str "many"] 1=some (.str "fit"):=rfl
    simp [z1a,z3e,x _ _ h1,x _ _ h2,x _ _ h3,x _ _ h9,y,z76,z9h,z5v,c,i,fNe,z67,z,wd]
  · have c:zbx (.lst [.bl false,.bl false,.bl true]) (.bl true) μ=some (.int 1,μ):=rfl
    have i:zbw (.lst [.bl false,.bl false,.bl true]) (.bl true) μ=some (.int 2,μ):=rfl
    have z:atI [D.str "thing",.str "fit",.str "many"] 2=some (.str "many"):=rfl
    simp [z1a,z3e,x _ _ h1,x _ _ h2,x _ _ h3,x _ _ h9,y,z76,z9h,z5v,c,i,fNe,z67,z,wd]
end
section
variable {C CF CT A:Addr} {n:Int} {d:D} {as:List Az} {μ:M} {f:List D→M→Option (D×M)} {cs:List Addr}
end
section
variable {μ:M} {k:Nat}
theorem Ls.listM {d:D} {ds:List D} (h:Ls μ d ds):zed d μ=some (.ref μ.length,μ++[some (.lst ds)]):=by
  unfold zed
  rcases z5r h with ⟨j,rfl,hj⟩ | rfl | rfl
  · simp [zjl,hj,z5s hj]
  · rfl
  · rfl
end
theorem zlx (a b:Bool) (μ:M):eqD (.bl a) (.bl b) μ=some (a==b):=by
  cases a <;> cases b <;> rfl
noncomputable def z2s:Nat→List D→M→Option (D×M)
  | 0=>fun _ _=>none
  | n+1=>z1s (z2s n)
theorem ze9 {μ:M} {x:D} (h:tyD μ x=some "list"):zbv ["list", "tuple"] x μ=some (.bl true,μ)∧zcc "list" x μ=some (.bl true,μ):=by
  constructor
  · simp only [zbv,h,Option.bind_some];rfl
  · simp only [zcc,h,Option.bind_some];rfl
theorem zhr {μ:M} {x:D} (h:tyD μ x=some "tuple"):zbv ["list", "tuple"] x μ=some (.bl true,μ)∧zcc "list" x μ=some (.bl false,μ):=by
  constructor
  · simp only [zbv,h,Option.bind_some];rfl
  · simp only [zcc,h,Option.bind_some];rfl
theorem zdw {μ:M} {x y:D} {n:Nat} {f:List D→M→Option (D×M)} (ht:(tyD μ x=some "list" ∧ tyD μ y=some "list")∨(tyD μ x=some "tuple" ∧ tyD μ y=some "tuple")) (lx:zb3 x μ=some (.int (n:Nat),μ)) (ly:zb3 y μ=some (.int (n:Nat),μ)) (hn:n≤2000)
    (hi:∀ i,i<n→∃ a b,fIx x (.int (i:Nat)) μ=some (a,μ)∧fIx y (.int (i:Nat)) μ=some (b,μ)∧f [a,b] μ=some (.bl true,μ)):z1s f [x,y] μ=some (.bl true,μ):=by
  have hc:z1q none (z03 0) zcd (vL f (z06 (v2 fIx (z04 1) (z04 0)) (z06 (v2 fIx (z04 2) (z04 0)) z1n))) (z5n 0 n) [none,some x,some y] μ=some ((List.range n).map fun _=>D.bl true,μ):=by
    have:=zaa (g:=z03 0) (tc:=zcd) (te:=vL f (z06 (v2 fIx (z04 1) (z04 0)) (z06 (v2 fIx (z04 2) (z04 0)) z1n))) (dn:=fun k:Nat=>D.int (0+k)) (keep:=fun _=>true) (val:=fun _:Nat=>D.bl true) (fun Γ=>∃ z,Γ=[z,some x,some y]) (μ:=μ) (List.range n) [none,some x,some y] ⟨_,rfl⟩ fun a ha Γ ⟨z,hz⟩=>by
      obtain ⟨p,q,h1,h2,h3⟩:=hi a (List.mem_range.mp ha)
      refine ⟨[some (.int (0+a)),some x,some y],by subst hz;rfl,rfl,fun _=>?_,⟨_,rfl⟩⟩
      simp [h1,h2,h3]
    have hf:List.filter (fun _=>true) (List.range n)=List.range n:=List.filter_eq_self.mpr (by simp)
    rw [hf] at this
    exact this
  have ha:zlu (.lst ((List.range n).map fun _=>D.bl true)) μ=some (.bl true,μ):=by
    have e:((List.range n).map fun _=>D.bl true)=((List.range n).map fun _=>true).map D.bl:=by simp
    simp only [zlu,z5v,Option.bind_some,e,zil]
    simp
  have hr:(-1000000000:Int)≤(n:Int)∧(n:Int)≤1000000000:=by omega
  have hrl:(z5n 0 n).length=n:=zjy
  have h10:n≤1000000:=by omega
  rcases ht with ⟨t1,t2⟩ | ⟨t1,t2⟩
  · obtain ⟨a1,a2⟩:=ze9 t1
    obtain ⟨b1,b2⟩:=ze9 t2
    simp [z1s,z3d,a1,a2,b1,b2,z9h,fNe,zlx,z67,lx,ly,hr,hrl,h10,z8k,hc,ha]
  · obtain ⟨a1,a2⟩:=zhr t1
    obtain ⟨b1,b2⟩:=zhr t2
    simp [z1s,z3d,a1,a2,b1,b2,z9h,fNe,zlx,z67,lx,ly,hr,hrl,h10,z8k,hc,ha]
noncomputable def LLs (n:Nat):Nat→List (List Int)
  | 0=>[[]]
  | k+1=>LLs n k++((LLs n k).filter fun l=>decide (2*((l.length:Int)+1)<(n:Int))).map fun l=>l++[(k:Int)]
theorem zb0 (n:Nat):∀ k,(LLs n k).length≤2 ^ k
  | 0=>Nat.le_refl _
  | k+1=>by
    have h1:=zb0 n k
    have h2:=List.length_filter_le (fun l:List Int=>decide (2*((l.length:Int)+1)<(n:Int))) (LLs n k)
    simp only [LLs,List.length_append,List.length_map]
    rw [Nat.pow_succ]
    omega
theorem z7p (n:Nat):∀ k,∀ l∈LLs n k,l.length≤k
  | 0,l,h=>by
    have:l=[]:=by simpa [LLs] using h
    subst this;simp
  | k+1,l,h=>by
    simp only [LLs] at h
    rcases List.mem_append.mp h with h | h
    · have:=z7p n k l h;omega
    · obtain ⟨m,hm,rfl⟩:=List.mem_map.mp h
      have:=z7p n k m (List.mem_filter.mp hm).1
      simp;omega
theorem zis (n:Nat):∀ k,∀ l∈LLs n k,∀ x∈l,x<(k:Int)
  | 0,l,h,x,hx=>by
    have:l=[]:=by simpa [LLs] using h
    subst this;cases hx
  | k+1,l,h,x,hx=>by
    simp only [LLs] at h
    rcases List.mem_append.mp h with h | h
    · have:=zis n k l h x hx;omega
    · obtain ⟨m,hm,rfl⟩:=List.mem_map.mp h
      rcases List.mem_append.mp hx with hx | hx
      · have:=zis n k m (List.mem_filter.mp hm).1 x hx;omega
      · have:x=(k:Int):=by simpa using hx
        omega
theorem zjn {a b:List Int} {x:Int} (h:a++[x]=b++[x]):a=b:=by
  have:=congrArg List.dropLast h
  simpa using this
theorem zc9 (n:Nat):∀ k,(LLs n k).Nodup
  | 0=>by simp [LLs]
  | k+1=>by
    have ih:=zc9 n k
    simp only [LLs]
    refine List.nodup_append.mpr ⟨ih,?_,?_⟩
    · refine List.Pairwise.map _ (fun a b hab e=>hab (zjn e)) (ih.filter _)
    · intro a ha b hb e
      subst e
      obtain ⟨m,hm,rfl⟩:=List.mem_map.mp hb
      have:=zis n k _ ha (k:Int) (by simp)
      omega
theorem z7v {k:Nat} (h:k≤10):2 ^ k≤1024:=Nat.le_trans (Nat.pow_le_pow_right (by decide) h) (by decide)
noncomputable abbrev Pl:=Nat×List Int
noncomputable def dR (p:Pl):D:=.ref p.1
structure RP (m:Nat) (μ:M) (P:List Pl):Prop where
  at_:∀ p∈P,μ[p.1]?=some (some (.lst (p.2.map D.int)))
  ge:∀ p∈P,m≤p.1
  nd:(P.map (·.1)).Nodup
theorem RP.gr {m:Nat} {μ μ':M} {P:List Pl} (h:RP m μ P) (g:Gr μ μ'):RP m μ' P:=⟨fun p hp=>g.get (h.at_ p hp),h.ge,h.nd⟩
theorem RP.lt {m:Nat} {μ:M} {P:List Pl} (h:RP m μ P) {p:Pl} (hp:p∈P):p.1<μ.length:=(List.getElem?_eq_some_iff.mp (h.at_ p hp)).1
theorem RP.perm {m:Nat} {μ:M} {P Q:List Pl} (h:RP m μ P) (g:Q.Perm P):RP m μ Q:=⟨fun p hp=>h.at_ p (g.mem_iff.mp hp),fun p hp=>h.ge p (g.mem_iff.mp hp),((g.map _).nodup_iff).mpr h.nd⟩
theorem RP.filter {m:Nat} {μ:M} {P:List Pl} (h:RP m μ P) (f:Pl→Bool):RP m μ (P.filter f):=⟨fun p hp=>h.at_ p (List.mem_filter.mp hp).1,fun p hp=>h.ge p (List.mem_filter.mp hp).1,(List.filter_sublist.map _).nodup h.nd⟩
theorem RP.new {m:Nat} {μ:M} {P:List Pl} {l:List Int} (h:RP m μ P) (hm:m≤μ.length):RP m (μ++[some (.lst (l.map D.int))]) (P++[(μ.length,l)]) where
  at_ p hp:=by
    rcases List.mem_append.mp hp with hp | hp
    · exact (h.gr gr_app).at_ p hp
    · have:p=(μ.length,l):=by simpa using hp
      subst this;simp
  ge p hp:=by
    rcases List.mem_append.mp hp with hp | hp
    · exact h.ge p hp
    · have:p=(μ.length,l):=by simpa using hp
      subst this;exact hm
  nd:=by
    rw [List.map_append]
    refine List.nodup_append.mpr ⟨h.nd,by simp,?_⟩
    intro a ha b hb e
    obtain ⟨p,hp,rfl⟩:=List.mem_map.mp ha
    have:=h.lt hp
    have:b=μ.length:=by simpa using hb
    omega
theorem RP.nil {m:Nat} {μ:M}:RP m μ []:=⟨(fun p h=>by cases h),(fun p h=>by cases h),List.nodup_nil⟩
section
variable {C CF CT:Addr} {n m:Nat} {d:D} {as:List Az} {μ:M}
theorem zey {P:List Pl} (h:RP m μ P) (hn:(P.map (·.2)).Nodup):∃ Q:List Pl,z7m (.lst (P.map dR)) μ=some (.lst (Q.map dR),μ)∧Q.Perm P∧Q.map (·.2)=z1r (P.map (·.2)):=by
  have e1:optAll (zlg μ) (P.map dR)=some (P.map (·.2)):=by
    refine z2p (f:=zlg μ) (g:=dR) (h:=(·.2)) (l:=P) fun p hp=>?_
    show zlg μ (.ref p.1)=_
    have:=z2p (f:=inI) (g:=D.int) (h:=id) (l:=p.2) (fun y _=>rfl)
    simp only [zlg,h.at_ p hp]
    simpa using this
  refine ⟨P.mergeSort (fun a b=>!L2.lexLt b.2 a.2),?_,List.mergeSort_perm P _,?_⟩
  · unfold z7m
    show (optAll (zlg μ) (P.map dR)).bind _=_
    rw [e1]
    show (if (P.map (·.2)).Nodup then _ else none)=_
    rw [if_pos hn]
    have ez:(P.map dR).zip (P.map (·.2))=P.map fun p=>(dR p,p.2):=by
      rw [List.zip_map']
    rw [ez]
    have em:=List.map_mergeSort (r:=fun a b:Pl=>!L2.lexLt b.2 a.2) (s:=fun a b:D×List Int=>!L2.lexLt b.2 a.2) (f:=fun p:Pl=>(dR p,p.2)) (l:=P) (fun a _ b _=>rfl)
    unfold zpc
    rw [← em,List.map_map]
    rfl
  · refine z6d ((List.mergeSort_perm P _).map _) ?_
    rw [List.pairwise_map]
    have h3:(P.mergeSort (fun a b=>!L2.lexLt b.2 a.2)).Pairwise (fun a b=>(!L2.lexLt b.2 a.2)=true):=List.pairwise_mergeSort (le:=fun a b:Pl=>!L2.lexLt b.2 a.2) (fun a b c x y=>by
      simp only [Bool.not_eq_true'] at *
      exact z4w c.2 b.2 a.2 y x) (fun a b=>by
      cases h:L2.lexLt b.2 a.2 with
      | false=>rfl
      | true=>rw [z3c b.2 a.2 h];rfl) P
    exact h3.imp fun h=>by simpa using h
theorem z7w (nss:List (List Int)):(z1r nss).length=nss.length:=(List.mergeSort_perm nss _).length_eq
theorem zo8 {k:Nat} {l:List Int} {t:Int} (h:μ[k]?=some (some (.lst (l.map D.int)))) (hl:l.length≤100):zkr (.ref k) (.lst [.int t]) μ=some (.ref μ.length,μ++[some (.lst ((l++[t]).map D.int))]):=by
  have:zcm μ (.ref k)=some (l.map D.int):=by simp only [zcm,h]
  unfold zkr
  rw [this]
  show (if (l.map D.int).length+1≤1000000 then _ else none)=_
  rw [if_pos (by simp;omega)]
  simp
theorem zgn (hn:n≤10):Wp (z0p [.int (n:Int)] μ) fun x μ'=>∃ P:List Pl,x=.lst (P.map dR)∧P.map (·.2)=z1r (LLs n n)∧RP μ.length μ' P∧Gr μ μ':=by
  unfold z0p z2y
  refine (z7t rfl).mpr ?_
  show Ws (z1p _ _ [some (.int (n:Int)),none,none] μ) _
  simp_arith
  rw [znj (by simp)]
  simp_arith
  rw [z6f (by simp)]
  simp_arith
  rw [zcu (by omega)]
  simp_arith
  have r0:RP μ.length (μ++[some (.lst [])]) [(μ.length,[])]:=RP.new (l:=[]) (P:=[]) RP.nil (Nat.le_refl _)
  refine zat (fun k Γ μ'=>∃ (P:List Pl) (o2:Option D),Γ=[some (.int (n:Int)),some (.lst (P.map dR)),o2]∧P.map (·.2)=LLs n k∧RP μ.length μ' P∧Gr μ μ') ⟨[(μ.length,[])],_,rfl,rfl,r0,gr_app⟩ ?_ ?_
  · rintro k Γ μ1 hk ⟨P,o2,rfl,hP,r1,g1⟩
    simp_arith [zk3]
    have l1:=zb0 n k
    have l2:=z7v (k:=k) (by omega)
    have lP:P.length=(LLs n k).length:=by rw [← hP,List.length_map]
    refine ⟨by simp;omega,?_⟩
    show Wp (z1q none (z03 0) _ _ (P.map dR) [none,some (.int (k:Int)),some (.int (n:Int))] μ1) _
    refine comp_inv (fun done r Γ μ'=>∃ (i:Nat) (Q:List Pl) (o:Option D),i≤P.length∧Γ=[o,some (.int (k:Int)),some (.int (n:Int))]∧r=(P.drop i).map dR∧done=Q.map dR∧Q.map (·.2)=(((P.take i).map (·.2)).filter fun l=>decide (2*((l.length:Int)+1)<(n:Int))).map (fun l=>l++[(k:Int)])∧RP μ.length μ' (P++Q)∧Gr μ1 μ') _ ⟨0,[],_,by omega,rfl,rfl,rfl,rfl,by simpa using r1,.refl⟩ ?_ ?_
    · rintro done d r Γ μ2 ⟨i,Q,o,hi,rfl,e,rfl,hQ,r2,g2⟩
      have hi':i<P.length:=by
        rcases Nat.lt_or_ge i P.length with z | z
        · exact z
        · rw [List.drop_eq_nil_of_le z] at e;cases e
      rw [List.drop_eq_getElem_cons hi',List.map_cons] at e
      cases e
      have ht:P.take (i+1)=P.take i++[P[i]]:=by rw [List.take_append_getElem hi']
      have hmem:P[i]∈P:=List.getElem_mem hi'
      generalize P[i]=p at ht hmem
      have hat:=r2.at_ p (by simp [hmem])
      have hll:p.2.length≤10:=by
        have:p.2∈LLs n k:=by rw [← hP];exact List.mem_map.mpr ⟨p,hmem,rfl⟩
        have:=z7p n k _ this
        omega
      simp_arith
      have e1:zb3 (dR p) μ2=some (.int (p.2.length:Int),μ2):=by
        unfold dR
        have:=(Ls.ref hat).len
        rw [List.length_map] at this
        exact this
      rw [e1]
      simp_arith
      rw [z5t,if_pos (show CMul 2 ((p.2.length:Int)+1) from .inl ⟨by decide,by decide⟩)]
      simp_arith
      cases hb:decide (2*((p.2.length:Int)+1)<(n:Int)) with
      | false =>
        simp only [Bool.false_eq_true,if_false]
        refine ⟨trivial,i+1,Q,_,hi',rfl,rfl,rfl,?_,r2,g2⟩
        rw [hQ,ht,List.map_append,List.filter_append,List.map_append]
        simp [hb]
      | true =>
        simp_arith [if_true]
        rw [z6f (by simp)]
        simp_arith
        unfold dR
        rw [zo8 hat (by omega)]
        simp_arith
        refine ⟨trivial,i+1,Q++[(μ2.length,p.2++[(k:Int)])],_,hi',rfl,rfl,by simp [dR],?_,?_,g2.trans gr_app⟩
        · rw [List.map_append,hQ,ht,List.map_append,List.filter_append,List.map_append]
          simp [hb]
        · rw [← List.append_assoc]
          exact RP.new r2 (Nat.le_trans g1.len g2.len)
    · rintro done Γ μ2 ⟨i,Q,o,hi,rfl,e,rfl,hQ,r2,g2⟩
      have hi2:P.length≤i:=by
        have:=congrArg List.length e
        simp at this
        omega
      rw [List.take_of_length_le hi2,hP] at hQ
      have l3:=List.length_filter_le (fun l:List Int=>decide (2*((l.length:Int)+1)<(n:Int))) (LLs n k)
      have lQ:Q.length≤(LLs n k).length:=by
        have:=congrArg List.length hQ
        simp only [List.length_map] at this
        omega
      rw [z6i,if_pos (by simp;omega)]
      simp_arith
      refine ⟨P++Q,_,by rw [List.map_append],?_,r2,g1.trans g2⟩
      rw [List.map_append,hP,hQ]
      rfl
  · rintro Γ μ1 ⟨P,o2,rfl,hP,r1,g1⟩
    simp_arith
    obtain ⟨Q,e,hq,es⟩:=zey r1 (by rw [hP];exact zc9 n n)
    rw [e]
    simp_arith
    exact ⟨Q,rfl,by rw [es,hP],r1.perm hq,g1⟩
end
section
variable {iv:IV} {g:GV} {tc:BV} {te:EV} {own:List Str} {cap:List (Str×Nat)} {c:Ck} {Γ:G} {μ:M} {R:D→M→Prop} {ds:List D}
def qCM (own:List Str) (cap:List (Str×Nat)) (g:GV) (tc:BV) (te:EV) (Γ:G) (R:D→M→Prop):List D×Ck→M→Prop:=fun s μ=>s.1.length≤1000000∧Wp (z1q s.2 g tc te s.1 (z8k own cap Γ) μ) fun rs μ=>R (.ref μ.length) (μ++[some (.lst rs)])
theorem zu3:qCM own cap g tc te Γ R (ds,c) μ↔ds.length≤1000000∧Wp (z1q c g tc te ds (z8k own cap Γ) μ) fun rs μ=>R (.ref μ.length) (μ++[some (.lst rs)]):=Iff.rfl
theorem zg1 (h:Wp (iv Γ μ) (qCM own cap g tc te Γ R)):Wp (zb8 own cap iv g tc te Γ μ) R:=by
  obtain ⟨⟨its,c⟩,μ1,e,hl,h⟩:=h
  obtain ⟨rs,μ2,e2,h⟩:=h
  refine ⟨_,_,?_,h⟩
  unfold zb8
  rw [e]
  show (if its.length≤1000000 then _ else none)=_
  rw [if_pos hl]
  show (z1q c g tc te its (z8k own cap Γ) μ1).bind _=_
  rw [e2]
  rfl
end
section
variable {C CF CT:Addr} {n:Nat} {d:D} {as:List Az} {μ:M}
theorem zea {μ:M} {d:D} {ns:List Int} {t:Int} {b:Bool} (h:Ls μ d (ns.map D.int)):fIn b (.int t) d μ=some (.bl (b != decide (t∈ns)),μ):=by
  have hs:zjl μ d=some (ns.map D.int):=by
    rcases z5r h with ⟨k,rfl,hk⟩ | rfl | rfl
    · simp [zjl,z5s hk]
    · rfl
    · rfl
  have ho:∀ l:List Int,optAll flV (l.map D.int)=some (l.map V.int):=fun l=>by
    induction l with
    | nil=>rfl
    | cons a r ih=>simp [optAll,flV,ih]
  have hi:∀ l:List Int,inV (V.int t) (l.map V.int)=decide (t∈l):=fun l=>by
    induction l with
    | nil=>rfl
    | cons a r ih =>
      have e:eqV (V.int a) (V.int t)=decide (t=a):=by
        show decide (a=t)=_
        simp [eq_comm]
      simp [inV] at ih ⊢
      rw [e,ih]
  cases b <;> simp [fIn,flV,hs,ho,hi]
theorem z5p {μ:M} {d:D} {ns:List Int} {t:Int} (h:Ls μ d (ns.map D.int)):fIn true (.int t) d μ=some (.bl (!decide (t∈ns)),μ):=by
  rw [zea h,Bool.true_bne]
theorem in_ints {μ:M} {d:D} {ns:List Int} {t:Int} (h:Ls μ d (ns.map D.int)):fIn false (.int t) d μ=some (.bl (decide (t∈ns)),μ):=by
  rw [zea h,Bool.false_bne]
noncomputable def zec (as:List Az) (l:List Int):Bool:=as.all fun a=>decide (a.1∈l)||((!decide (a.2.1∈l))==a.2.2)
theorem zju {e:D} {l:List Int} (hl:Ls μ d (as.map dZ)) (he:Ls μ e (l.map D.int)):Wp (z1l [e,d] μ) fun x μ'=>x=.bl (zec as l)∧μ'=μ:=by
  unfold z1l z57
  refine (z7t rfl).mpr ?_
  show Ws (z1p _ _ [some e,some d,none,none,none] μ) _
  simp_arith
  obtain ⟨h1,c,h2,h3,h4⟩:=hl
  refine ⟨_,h2,?_⟩
  simp_arith
  refine z6y (fun r Γ μ'=>μ'=μ∧∃ bs o2 o3 o4,r=bs.map dZ∧zec as l=zec bs l∧Γ=[some e,some d,o2,o3,o4]) _ ⟨rfl,as,_,_,_,rfl,rfl,rfl⟩ ?_ ?_
  · rintro x r Γ μ ⟨rfl,bs,o2,o3,o4,hr,ha,rfl⟩
    cases bs with
    | nil=>cases hr
    | cons a bs =>
      cases hr
      show Wp (z5w 3 _ (.tup [.int a.1,.int a.2.1,.bl a.2.2]) _ _) _
      rw [z9d (n:=3) rfl]
      simp_arith
      rw [z5p he]
      simp_arith
      have e:zec (a::bs) l=((decide (a.1∈l)||((!decide (a.2.1∈l))==a.2.2))&&zec bs l):=rfl
      cases h1:decide (a.1∈l) with
      | true =>
        simp_arith [Bool.not_true]
        refine ⟨h3,trivial,bs,_,_,_,rfl,?_,rfl⟩
        rw [ha,e,h1];rfl
      | false =>
        simp_arith [Bool.not_false]
        rw [z5p he]
        simp_arith
        by_cases h2:(!decide (a.2.1∈l))=a.2.2
        · rw [decide_eq_true h2]
          simp_arith [Bool.not_true]
          refine ⟨h3,trivial,bs,_,_,_,rfl,?_,rfl⟩
          rw [ha,e,h1,h2];simp
        · rw [decide_eq_false h2]
          simp_arith [Bool.not_false]
          refine ⟨?_,trivial⟩
          rw [ha,e,h1]
          have:((!decide (a.2.1∈l))==a.2.2)=false:=by simpa using h2
          rw [this];rfl
  · rintro Γ μ ⟨rfl,bs,o2,o3,o4,hr,ha,rfl⟩
    have hb:bs=[]:=by cases bs with | nil=>rfl | cons _ _=>cases hr
    subst hb
    simp_arith
    exact ⟨by rw [ha];rfl,trivial⟩
noncomputable abbrev zf8 (C CT:Addr):FX:=z1k z0p z1l (z17 C) (z2t C CT) (.int 10)
noncomputable def z93 (n:Nat) (as:List Az):List (List Int):=(z1r (LLs n n)).filter (zec as)
theorem zau (hn:n≤10):(z93 n as).length≤1024:=by
  have l1:=zb0 n n
  have l2:=z7v hn
  have l3:=List.length_filter_le (zec as) (z1r (LLs n n))
  rw [z7w] at l3
  unfold z93
  omega
structure RL2 (m:Nat) (μ:M) (k:Nat) (P:List Pl):Prop where
  r:RP m μ P
  at_:μ[k]?=some (some (.lst (P.map dR)))
  ge:m≤k
  ne:∀ p∈P,p.1≠k
theorem zct (hl:Ls μ d (as.map dZ)) (h1:1≤n) (hn:n≤10) (hs:SmZ as) (ho:as.all (okZ (n:Int))=true):Wp (zf8 C CT [.int (n:Int),d] μ) fun r μ'=>∃ k P,r=.ok (.ref k)∧P.map (·.2)=z93 n as∧RL2 μ.length μ' k P∧Gr μ μ':=by
  unfold zf8 z1k z2z
  have hsn:Sm (n:Int):=zmr (by omega) (by omega)
  refine (zdn rfl).mpr ?_
  show Wt (z6r _ _ [some (.int (n:Int)),some d] μ) _
  simp_arith
  refine (zf2 hl hsn hs).imp ?_
  rintro _ μ1 ⟨rfl,rfl⟩
  rw [if_neg (fun q=>q.elim (fun z=>by omega) (fun z=>by rw [ho] at z;cases z))]
  simp_arith
  unfold z2t z58
  refine (zdn rfl).mpr ?_
  show Wt (z6r _ _ [some (.int (n:Int)),some (.int 1),some (.int 10)] μ1) _
  simp_arith
  rw [decide_eq_false (show ¬ (n:Int)<1 by omega)]
  simp_arith
  rw [decide_eq_false (show ¬ (10:Int)<(n:Int) by omega)]
  simp_arith
  refine zg1 ?_
  simp_arith
  refine (zgn hn).imp ?_
  rintro _ μ2 ⟨P,rfl,hP,r2,g2⟩
  simp_arith [zu3]
  have l1:=zb0 n n
  have l2:=z7v hn
  have lP:P.length=(LLs n n).length:=by rw [← z7w,← hP,List.length_map]
  refine ⟨by rw [List.length_map];omega,?_⟩
  show Wp (z1q none (z03 0) _ _ (P.map dR) [none,some d] μ2) _
  have hl2:=hl.gr g2
  refine z33 (c:=none) (dn:=dR) (keep:=fun p=>zec as p.2) (val:=dR) (fun Γ=>∃ o,Γ=[o,some d]) trivial _ ⟨_,rfl⟩ ?_ ?_
  · rintro p hp Γ ⟨o,rfl⟩
    simp_arith
    refine ⟨trivial,⟨_,rfl⟩,?_⟩
    refine (zju hl2 (Ls.ref (r2.at_ p hp))).imp ?_
    rintro _ μ3 ⟨rfl,rfl⟩
    simp_arith
    exact ⟨trivial,trivial,fun _=>⟨trivial,trivial⟩⟩
  · refine ⟨μ2.length,P.filter fun p=>zec as p.2,rfl,?_,⟨(r2.filter _).gr gr_app,by simp,g2.len,fun p hp=>?_⟩,g2.trans gr_app⟩
    · unfold z93
      rw [← hP,List.filter_map]
      rfl
    · have:=r2.lt (List.mem_filter.mp hp).1
      omega
noncomputable abbrev znq (C CF CT:Addr):FX:=z30 (zf8 C CT) CF
noncomputable def zpb (n:Nat) (ls:List (List Int)):List Nat:=(List.range n).filter fun t=>ls.all fun l=>!decide ((t:Int)∈l)
theorem zn1 {k:Nat} {ds:List D} {RB:Bool→M→Prop} (h:μ[k]?=some (some (.lst ds))):qTr RB (.ref k) μ↔RB (!ds.isEmpty) μ:=by
  have e:tru μ (.ref k)=some (!ds.isEmpty):=by simp [tru,h]
  exact ⟨fun ⟨_,e2,q⟩=>by rw [e] at e2;cases e2;exact q,fun q=>⟨_,e,q⟩⟩
theorem zgl (hl:Ls μ d (as.map dZ)) (h1:1≤n) (hn:n≤10) (hs:SmZ as) (ho:as.all (okZ (n:Int))=true):Wp (znq C CF CT [.int (n:Int),d] μ) fun r μ'=>Gr μ μ'∧if z93 n as=[] then r=.ex CF else ∃ k,r=.ok (.ref k)∧μ'[k]?=some (some (.lst ((zpb n (z93 n as)).map fun t:Nat=>D.int (t:Int))))∧μ.length≤k:=by
  unfold znq z30 z3w
  refine (zdn rfl).mpr ?_
  show Wt (z6r _ _ [some (.int (n:Int)),some d,none] μ) _
  simp_arith
  refine (zct (C:=C) (CT:=CT) hl h1 hn hs ho).imp ?_
  rintro r μ1 ⟨k,P,rfl,hP,r1,g1⟩
  simp_arith
  simp only [zn1 r1.at_]
  have hlen:=zau (as:=as) hn
  have lP:P.length=(z93 n as).length:=by rw [← hP,List.length_map]
  by_cases hf:z93 n as=[]
  · have:P=[]:=by
      rw [hf] at lP
      exact List.length_eq_zero_iff.mp lP
    subst this
    simp_arith [List.map_nil,List.isEmpty_nil,Bool.not_true,Bool.not_false]
    refine ⟨g1,?_⟩
    rw [if_pos hf]
    trivial
  · have:(P.map dR).isEmpty=false:=by
      cases P with
      | nil=>rw [List.length_nil] at lP;exact absurd (List.length_eq_zero_iff.mp lP.symm) hf
      | cons _ _=>rfl
    simp_arith [this,Bool.not_true,Bool.not_false]
    refine zg1 ?_
    simp_arith
    rw [zcu (by omega)]
    simp_arith [zu3]
    refine ⟨by simp [z5n];omega,?_⟩
    have er:z5n 0 n=(List.range n).map fun t:Nat=>D.int (t:Int):=by simp [z5n]
    rw [er]
    show Wp (z1q none (z03 0) _ _ ((List.range n).map fun t:Nat=>D.int (t:Int)) [none,some (.ref k)] μ1) _
    refine z33 (c:=none) (dn:=fun t:Nat=>D.int (t:Int)) (keep:=fun t=>(z93 n as).all fun l=>!decide ((t:Int)∈l)) (val:=fun t:Nat=>D.int (t:Int)) (fun Γ=>∃ o,Γ=[o,some (.ref k)]) trivial _ ⟨_,rfl⟩ ?_ ?_
    · rintro t ht Γ ⟨o,rfl⟩
      simp_arith [zgw r1.at_,zk3]
      refine ⟨trivial,⟨_,rfl⟩,by simp;omega,?_⟩
      show Wp (z1q (some (k,P.map dR)) (z03 0) zcd _ (P.map dR) [none,some (.int (t:Int))] μ1) _
      refine z33 (c:=some (k,P.map dR)) (dn:=dR) (keep:=fun _=>true) (val:=fun p=>D.bl (!decide ((t:Int)∈p.2))) (fun Γ=>∃ o,Γ=[o,some (.int (t:Int))]) r1.at_ _ ⟨_,rfl⟩ ?_ ?_
      · rintro p hp Γ ⟨o,rfl⟩
        simp_arith
        refine ⟨trivial,⟨_,rfl⟩,trivial,trivial,fun _=>?_⟩
        unfold dR
        rw [z5p (Ls.ref (r1.r.at_ p hp))]
        simp_arith
        exact ⟨trivial,trivial⟩
      · have ef:P.filter (fun _=>true)=P:=List.filter_eq_self.mpr (by simp)
        have em:(P.map fun p=>D.bl (!decide ((t:Int)∈p.2)))=((z93 n as).map fun l=>!decide ((t:Int)∈l)).map D.bl:=by rw [← hP,List.map_map,List.map_map];rfl
        rw [ef,em,zm5]
        simp_arith
        refine ⟨?_,trivial,fun _=>⟨trivial,trivial⟩⟩
        rw [List.all_map];rfl
    · refine ⟨g1.trans gr_app,?_⟩
      rw [if_neg hf]
      exact ⟨_,rfl,by simp;rfl,g1.len⟩
end
noncomputable def AL:Nat→List (List Int)
  | 0=>[[]]
  | k+1=>AL k++(AL k).map fun l=>l++[(k:Int)]
theorem zit:∀ k,(AL k).length=2 ^ k
  | 0=>rfl
  | k+1=>by
    have h1:=zit k
    simp only [AL,List.length_append,List.length_map,h1]
    rw [Nat.pow_succ]
    omega
theorem zb1:∀ k,∀ l∈AL k,l.length≤k
  | 0,l,h=>by
    have:l=[]:=by simpa [AL] using h
    subst this;simp
  | k+1,l,h=>by
    simp only [AL] at h
    rcases List.mem_append.mp h with h | h
    · have:=zb1 k l h;omega
    · obtain ⟨m,hm,rfl⟩:=List.mem_map.mp h
      have:=zb1 k m hm
      simp;omega
noncomputable def few (n:Nat) (l:List Int):Bool:=decide (2*(l.length:Int)<(n:Int))
theorem zm9 {n:Nat} (h:1≤n):∀ k,LLs n k=(AL k).filter (few n)
  | 0=>by
    have:few n []=true:=by simp [few];omega
    simp [LLs,AL,this]
  | k+1=>by
    have ih:=zm9 h k
    simp only [LLs,AL,List.filter_append,ih,List.filter_map,List.filter_filter]
    congr 2
    refine List.filter_congr fun l hl=>?_
    simp only [few,Function.comp,List.length_append,List.length_singleton,Int.natCast_add]
    rw [Bool.eq_iff_iff]
    simp
    omega
theorem zbd (q:List Int→Bool) (ls:List (List Int)):z1r (ls.filter q)=(z1r ls).filter q:=by
  refine (z6d ((List.mergeSort_perm ls _).filter q) ?_).symm
  have h3:(z1r ls).Pairwise (fun a b=>(!L2.lexLt b a)=true):=List.pairwise_mergeSort (le:=fun a b:List Int=>!L2.lexLt b a) (fun a b c x y=>by
    simp only [Bool.not_eq_true'] at *
    exact z4w c b a y x) (fun a b=>by
    cases h:L2.lexLt b a with
    | false=>rfl
    | true=>rw [z3c b a h];rfl) ls
  exact (h3.imp fun h=>by simpa using h).filter q
noncomputable def ztn (n:Nat) (as:List Az):List (List Int):=(z1r (AL n)).filter fun l=>zec as l&&few n l
theorem zee {n:Nat} {as:List Az} (h:1≤n):ztn n as=z93 n as:=by
  unfold ztn z93
  rw [zm9 h,zbd,List.filter_filter]
section
variable {n:Nat} {d:D} {as:List Az} {μ:M}
theorem zez {nss:List (List Int)}:z7n (.lst (nss.map dLI)) μ=some (.lst ((z1r nss).map dLI),μ):=by
  have:optAll zr4 (nss.map dLI)=some nss:=by
    have:=z2p (f:=zr4) (g:=dLI) (h:=id) (l:=nss) (fun x _=>by
      show optAll inI (x.map D.int)=some x
      have:=z2p (f:=inI) (g:=D.int) (h:=id) (l:=x) (fun y _=>rfl)
      simpa using this)
    simpa using this
  unfold z7n
  show (optAll zr4 (nss.map dLI)).bind _=_
  rw [this];rfl
theorem zpr {b:Bool} {eb:EV} {Γ:G} {R:D→M→Prop}:qVO eb Γ R (.bl b) μ↔(if b=true then R (.bl true) μ else Wp (eb Γ μ) R):=by
  cases b <;> first | rfl | exact wp_some
theorem zgp (hn:n≤10) (hl:Ls μ d (as.map dZ)) (hlen:as.length≤1000):Wp (z0n [.int (n:Int),d] μ) fun x μ'=>∃ k,x=.ref k∧μ'[k]?=some (some (.lst ((ztn n as).map dLI)))∧Gr μ μ'∧μ.length≤k:=by
  unfold z0n z36
  refine (z7t rfl).mpr ?_
  show Ws (z1p _ _ [some (.int (n:Int)),some d,none,none,none,none,none] μ) _
  simp_arith
  rw [z6f (by simp)]
  simp_arith
  rw [z6f (by simp)]
  simp_arith
  rw [zcu (by omega)]
  simp_arith
  refine zat (fun k Γ μ'=>μ'=μ∧∃ o3:Option D,Γ=[some (.int (n:Int)),some d,some (.lst ((AL k).map dLI)),o3,none,none,none]) ⟨rfl,_,rfl⟩ ?_ ?_
  · rintro k Γ μ1 hk ⟨rfl,o3,rfl⟩
    simp_arith [zk3]
    have l1:=zit k
    have l2:=z7v (k:=k) (by omega)
    refine ⟨by simp;omega,?_⟩
    show Wp (z1q none (z03 0) _ _ ((AL k).map dLI) [none,some (.int (k:Int))] μ1) _
    refine z33 (c:=none) (dn:=dLI) (keep:=fun _=>true) (val:=fun l=>dLI (l++[(k:Int)])) (fun Γ=>∃ o,Γ=[o,some (.int (k:Int))]) trivial _ ⟨_,rfl⟩ ?_ ?_
    · rintro l hl' Γ ⟨o,rfl⟩
      have:=zb1 k l hl'
      simp_arith
      refine ⟨trivial,⟨_,rfl⟩,trivial,trivial,fun _=>?_⟩
      rw [z6f (by simp)]
      simp_arith
      unfold dLI
      rw [z6i,if_pos (by simp;omega)]
      simp_arith
      exact ⟨by simp,trivial⟩
    · have ef:(AL k).filter (fun _=>true)=AL k:=List.filter_eq_self.mpr (by simp)
      rw [ef,z6i,if_pos (by simp;omega)]
      simp_arith
      refine ⟨trivial,some (.int (k:Int)),?_⟩
      simp [AL,Function.comp_def]
  rintro Γ μ1 ⟨rfl,o3,rfl⟩
  simp_arith
  rw [znj (by simp)]
  simp_arith
  rw [zez]
  simp_arith
  have l1:=zit n
  have l2:=z7v hn
  refine z6y (fun r Γ μ'=>∃ (i:Nat) (o5 o6:Option D),i≤(z1r (AL n)).length∧Γ=[some (.int (n:Int)),some d,some (.lst ((AL n).map dLI)),o3,some (.ref μ1.length),o5,o6]∧r=((z1r (AL n)).drop i).map dLI∧μ'[μ1.length]?=some (some (.lst ((((z1r (AL n)).take i).filter fun l=>zec as l&&few n l).map dLI)))∧Gr μ1 μ') _ ⟨0,_,_,by omega,rfl,rfl,by simp,gr_app⟩ ?_ ?_
  · rintro x r Γ μ2 ⟨i,o5,o6,hi,rfl,e,hat,g2⟩
    have hi':i<(z1r (AL n)).length:=by
      rcases Nat.lt_or_ge i (z1r (AL n)).length with z | z
      · exact z
      · rw [List.drop_eq_nil_of_le z] at e;cases e
    rw [List.drop_eq_getElem_cons hi',List.map_cons] at e
    cases e
    have ht:(z1r (AL n)).take (i+1)=(z1r (AL n)).take i++[(z1r (AL n))[i]]:=by rw [List.take_append_getElem hi']
    have hmem:(z1r (AL n))[i]∈z1r (AL n):=List.getElem_mem hi'
    generalize (z1r (AL n))[i]=l at ht hmem
    have hll:l.length≤10:=by
      have:=zb1 n l ((List.mergeSort_perm (AL n) _).mem_iff.mp hmem)
      omega
    simp_arith
    obtain ⟨h1,c,h2,h3,h4⟩:=hl.gr g2
    refine ⟨_,h2,?_⟩
    simp_arith [zk3]
    refine ⟨by simp;omega,?_⟩
    show Wp (z1q c (z5w 3 (z18 (z03 0) (z18 (z03 1) (z18 (z03 2) z6w)))) zcd _ (as.map dZ) [none,none,none,some (dLI l)] μ2) _
    refine z33 (c:=c) (dn:=dZ) (keep:=fun _=>true) (val:=fun a=>D.bl (decide (a.1∈l)||((!decide (a.2.1∈l))==a.2.2))) (fun Γ=>∃ o1 o2 o3,Γ=[o1,o2,o3,some (dLI l)]) h3 _ ⟨_,_,_,rfl⟩ ?_ ?_
    · rintro a ha Γ ⟨o1,o2,o3,rfl⟩
      show Wp (z5w 3 _ (.tup [.int a.1,.int a.2.1,.bl a.2.2]) _ _) _
      rw [z9d (n:=3) rfl]
      simp_arith
      refine ⟨trivial,⟨_,_,_,rfl⟩,trivial,trivial,fun _=>?_⟩
      rw [in_ints (d:=dLI l) Ls.lst]
      simp_arith [zpr]
      cases hb:decide (a.1∈l) with
      | true=>exact ⟨rfl,trivial⟩
      | false =>
        simp_arith [Bool.false_eq_true,if_false]
        rw [z5p (d:=dLI l) Ls.lst]
        simp_arith
        refine ⟨?_,trivial⟩
        congr 1
        cases a.2.2 <;> cases decide (a.2.1∈l) <;> rfl
    have ef:as.filter (fun _=>true)=as:=List.filter_eq_self.mpr (by simp)
    have em:(as.map fun a=>D.bl (decide (a.1∈l)||((!decide (a.2.1∈l))==a.2.2)))=(as.map fun a=>(decide (a.1∈l)||((!decide (a.2.1∈l))==a.2.2))).map D.bl:=by rw [List.map_map];rfl
    have efz:((as.map fun a=>(decide (a.1∈l)||((!decide (a.2.1∈l))==a.2.2))).all id)=zec as l:=by rw [List.all_map];rfl
    rw [ef,em,zm5,efz]
    simp_arith
    cases hz:zec as l with
    | false =>
      simp_arith
      refine ⟨trivial,i+1,_,_,hi',rfl,rfl,?_,g2⟩
      rw [ht,List.filter_append,List.map_append,hat]
      simp [hz]
    | true =>
      simp_arith
      have e1:zb3 (dLI l) μ2=some (.int (l.length:Int),μ2):=by unfold dLI;rw [zkp,List.length_map]
      rw [e1]
      simp_arith
      rw [z5t,if_pos (show CMul 2 (l.length:Int) from .inl ⟨by decide,by decide⟩)]
      simp_arith
      cases hw:decide (2*(l.length:Int)<(n:Int)) with
      | false =>
        simp_arith
        refine ⟨trivial,i+1,_,_,hi',rfl,rfl,?_,g2⟩
        rw [ht,List.filter_append,List.map_append,hat]
        simp [hz,few,hw]
      | true =>
        simp_arith [z6s hat]
        have lf:=List.length_filter_le (fun l=>zec as l&&few n l) ((z1r (AL n)).take i)
        have lt:=List.length_take_le i (z1r (AL n))
        have ls:=z7w (AL n)
        obtain ⟨μ3,e3,hr3,o3⟩:=zc8 (y:=dLI l) hat (by rw [List.length_map];omega)
        rw [e3]
        simp_arith
        refine ⟨trivial,i+1,_,_,hi',rfl,rfl,?_,o3.gr g2 (Nat.le_refl _)⟩
        rw [ht,List.filter_append,List.map_append,hr3]
        simp [hz,few,hw]
  · rintro Γ μ2 ⟨i,o5,o6,hi,rfl,e,hat,g2⟩
    have hi2:(z1r (AL n)).length≤i:=by
      have:=congrArg List.length e
      simp at this
      omega
    rw [List.take_of_length_le hi2] at hat
    simp_arith
    exact ⟨_,rfl,hat,g2,Nat.le_refl _⟩
end
section
variable {C CF CT:Addr} {n k:Nat} {d:D} {as:List Az} {μ:M} {f:List D→M→Option (D×M)} {cs:List Addr}
theorem zf1 (hd:Dk μ k) {Γ:G} {R:D→M→Prop} (hn:n≤1000) (hΓ:Γ[0]?=some (some (.ref k))) (hΓ1:Γ[1]?=some (some (.int (n:Int)))) (h:∀ (bs:List Bool) μ',bs.length=n→Dk μ' k→On k μ μ'→R (.lst (bs.map D.bl)) μ') :
    Wp (z50 ["teller"] [("deck",0)] (ivR (z04 1)) (z03 0) zcd (v2 fGt (vL z0h (z06 (z04 1) (z06 (vC (.int 3)) z1n))) (vC (.int 0))) Γ μ) R:=by
  simp_arith [zmi hΓ1]
  rw [zcu (by omega)]
  simp_arith [zk3]
  refine ⟨by simp [z5n];omega,?_⟩
  have ec:z8k (["teller"]:List Str) [("deck",0)] Γ=[none,some (.ref k)]:=by simp [z8k,hΓ]
  rw [ec]
  refine zkw (fun i done Γ μ'=>∃ (bs:List Bool) (o:Option D),done=bs.map D.bl∧bs.length=i∧Γ=[o,some (.ref k)]∧Dk μ' k∧On k μ μ') ⟨[],_,rfl,rfl,rfl,hd,.refl⟩ ?_ ?_
  · rintro i done Γ μ1 hi ⟨bs,o,rfl,hl,rfl,d1,o1⟩
    simp_arith
    refine (z5d d1 (by decide) (by decide)).imp ?_
    rintro _ μ2 ⟨r,rfl,hr,d2,o2⟩
    simp_arith
    exact ⟨bs++[decide (0<(r:Int))],_,by simp,by simp [hl],rfl,d2,o1.trans o2⟩
  · rintro done Γ μ1 ⟨bs,o,rfl,hl,rfl,d1,o1⟩
    exact h bs μ1 hl d1 o1
theorem zcr (hd:Dk μ k) (hn:n≤20):Wp (z1d z0h [.ref k,.int (n:Int)] μ) fun x μ'=>∃ (r:Nat) (as:List Az),x=.ref r∧μ'[r]?=some (some (.lst (as.map dZ)))∧(∀ a∈as,okZ (n:Int) a=true)∧as.length≤30∧Dk μ' k∧r≠k:=by
  unfold z1d z3x
  refine (z7t rfl).mpr ?_
  show Ws (z1p _ _ [some (.ref k),some (.int (n:Int)),none,none,none,none,none,none,none] μ) _
  simp only [z38,z39]
  refine zf1 hd (by omega) rfl rfl fun bs μ1 hbs d1 o1=>?_
  simp_arith
  refine (z5d d1 (by decide) (by decide)).imp ?_
  rintro _ μ2 ⟨w,rfl,hw,d2,o2⟩
  simp_arith
  rw [znj (by simp)]
  have hr3:(μ2++[some (O.lst [])])[μ2.length]?=some (some (.lst (([]:List Az).map dZ))):=by simp
  have d3:Dk (μ2++[some (O.lst [])]) k:=d2.gr gr_app
  have hkr:k≠μ2.length:=by have:=d2.lt;omega
  generalize μ2++[some (O.lst [])]=μ3 at hr3 d3
  generalize μ2.length=r at hr3 hkr
  simp_arith
  rw [z6f (by simp)]
  simp_arith
  refine (z5d d3 (by decide) (by decide)).imp ?_
  rintro _ μ4 ⟨t1,rfl,ht1,d4,o4⟩
  simp_arith
  obtain ⟨z,z0,z1,ez⟩:∃ z:Int,0<z∧z≤31∧fIx (.lst [.int 6,.int 31]) (.int (t1:Int)) μ4=some (.int z,μ4):=by
    have:t1=0∨t1=1:=by omega
    rcases this with rfl | rfl
    · exact ⟨6,by decide,by decide,rfl⟩
    · exact ⟨31,by decide,by decide,rfl⟩
  rw [ez]
  simp_arith
  refine (z5d d4 z0 (by omega)).imp ?_
  rintro _ μ5 ⟨t2,rfl,ht2,d5,o5⟩
  have hr5:μ5[r]?=some (some (.lst (([]:List Az).map dZ))):=by rw [o5.at_ r (Ne.symm hkr),o4.at_ r (Ne.symm hkr)];exact hr3
  simp_arith
  obtain ⟨m,hm30,hm0,em⟩:∃ m:Nat,m≤30∧(m≠0→2≤n)∧z4x (.int (t2:Int)) (.int (if decide (1<(n:Int))=true then 1 else 0)) μ5=some (.int (m:Int),μ5):=by
    by_cases h1:1<(n:Int)
    · refine ⟨t2,by omega,fun _=>by omega,?_⟩
      rw [decide_eq_true h1,if_pos rfl,z5t,if_pos (show CMul (t2:Int) 1 from .inl ⟨by omega,by omega⟩),Int.mul_one]
    · refine ⟨0,by omega,fun z=>absurd rfl z,?_⟩
      rw [decide_eq_false h1]
      rw [if_neg Bool.false_ne_true,z5t,if_pos (show CMul (t2:Int) 0 from .inl ⟨by omega,by omega⟩),Int.mul_zero]
      rfl
  rw [em]
  simp_arith
  rw [zcu (by omega)]
  simp_arith
  refine zat (fun i Γ μ'=>∃ (as:List Az) (p5 p6 p7 p8:Option D),Γ=[some (.ref k),some (.int (n:Int)),some (.lst (bs.map D.bl)),some (.int (w:Int)),some (.ref r),p5,p6,p7,p8]∧μ'[r]?=some (some (.lst (as.map dZ)))∧(∀ a∈as,okZ (n:Int) a=true)∧as.length=i∧Dk μ' k) ⟨[],_,_,_,_,rfl,hr5,(fun a h=>by cases h),rfl,d5⟩ ?_ ?_
  · rintro q Γ μ6 hq ⟨as,p5,p6,p7,p8,rfl,hr6,hok,hlen,d6⟩
    have hn2:=hm0 (by omega)
    simp_arith
    refine (z5d d6 (by omega) (by omega)).imp ?_
    rintro _ μ7 ⟨i,rfl,hi,d7,o7⟩
    simp_arith
    refine (z5d d7 (by omega) (by omega)).imp ?_
    rintro _ μ8 ⟨t,rfl,ht,d8,o8⟩
    simp_arith
    rw [zsz (by omega)]
    have hj0:=Int.emod_nonneg ((i:Int)+1+(t:Int)) (b:=(n:Int)) (by omega)
    have hj1:=Int.emod_lt_of_pos ((i:Int)+1+(t:Int)) (b:=(n:Int)) (by omega)
    have hjne:((i:Int)+1+(t:Int)) % (n:Int)≠(i:Int):=by
      intro e
      by_cases hlt:(i:Int)+1+(t:Int)<(n:Int)
      · rw [Int.emod_eq_of_lt (by omega) hlt] at e;omega
      · have:((i:Int)+1+(t:Int)) % (n:Int)=(i:Int)+1+(t:Int) - (n:Int):=by
          rw [← Int.sub_emod_right,Int.emod_eq_of_lt (by omega) (by omega)]
        omega
    obtain ⟨j,hj⟩:∃ j:Nat,((i:Int)+1+(t:Int)) % (n:Int)=(j:Int):=⟨(((i:Int)+1+(t:Int)) % (n:Int)).toNat,by omega⟩
    rw [hj] at hj1 hjne ⊢
    have hoz:∀ b:Bool,okZ (n:Int) ((i:Int),(j:Int),b)=true:=fun b=>by
      have e1:(0:Int)≤(i:Int):=by omega
      have e2:(i:Int)<(n:Int):=by omega
      have e3:(0:Int)≤(j:Int):=by omega
      have e5:¬ (i:Int)=(j:Int):=fun z=>hjne z.symm
      unfold okZ
      rw [decide_eq_true e1,decide_eq_true e2,decide_eq_true e3,decide_eq_true hj1,decide_eq_false e5]
      rfl
    have hr8:μ8[r]?=some (some (.lst (as.map dZ))):=by rw [o8.at_ r (Ne.symm hkr),o7.at_ r (Ne.symm hkr)];exact hr6
    simp_arith
    have hjl:j<(bs.map D.bl).length:=by rw [List.length_map];omega
    have hil:i<(bs.map D.bl).length:=by rw [List.length_map];omega
    rw [zls hjl,List.getElem_map]
    generalize bs[j]'(by simpa using hjl)=sj
    simp_arith
    rw [zls hil,List.getElem_map]
    generalize bs[i]'(by simpa using hil)=si
    simp_arith
    have last:∀ (b:Bool) (μ9:M),Dk μ9 k→On k μ8 μ9→Ws (z1p (sIf (vT (v2 fEq (vL z0h (z06 (z04 0) (z06 (vC (.int 30)) z1n))) (vC (.int 0)))) (z3k (v1 zhy (z04 8)) (z03 8)) sNx) (zai (v2l zi1 (z04 4) (vL zko (z06 (z04 6) (z06 (z04 7) (z06 (z04 8) z1n)))))) [some (.ref k),some (.int (n:Int)),some (.lst (bs.map D.bl)),some (.int (w:Int)),some (.ref r),some (.int (q:Int)),some (.int (i:Int)),some (.int (j:Int)),some (.bl b)] μ9)
        fun o Γ2 μ2=>match o with
        | .nx=>∃ (as:List Az) (p5 p6 p7 p8:Option D),Γ2=[some (.ref k),some (.int (n:Int)),some (.lst (bs.map D.bl)),some (.int (w:Int)),some (.ref r),p5,p6,p7,p8]∧μ2[r]?=some (some (.lst (as.map dZ)))∧(∀ a∈as,okZ (n:Int) a=true)∧as.length=q+1∧Dk μ2 k
        | .ct=>∃ (as:List Az) (p5 p6 p7 p8:Option D),Γ2=[some (.ref k),some (.int (n:Int)),some (.lst (bs.map D.bl)),some (.int (w:Int)),some (.ref r),p5,p6,p7,p8]∧μ2[r]?=some (some (.lst (as.map dZ)))∧(∀ a∈as,okZ (n:Int) a=true)∧as.length=q+1∧Dk μ2 k
        | _=>False:=by
      intro b μ9 d9 o9
      have hr9:μ9[r]?=some (some (.lst (as.map dZ))):=by rw [o9.at_ r (Ne.symm hkr)];exact hr8
      simp_arith
      refine (z5d d9 (by decide) (by decide)).imp ?_
      rintro _ μ10 ⟨u,rfl,hu,d10,o10⟩
      have hr10:μ10[r]?=some (some (.lst (as.map dZ))):=by rw [o10.at_ r (Ne.symm hkr)];exact hr9
      simp_arith
      have app:∀ b:Bool,Wp (zi1 (.ref r) (.tup [.int (i:Int),.int (j:Int),.bl b]) μ10) fun _ μ'=>∃ (as:List Az) (p5 p6 p7 p8:Option D),([some (.ref k),some (.int (n:Int)),some (.lst (bs.map D.bl)),some (.int (w:Int)),some (.ref r),some (.int (q:Int)),some (.int (i:Int)),some (.int (j:Int)),some (.bl b)]:G)=[some (.ref k),some (.int (n:Int)),some (.lst (bs.map D.bl)),some (.int (w:Int)),some (.ref r),p5,p6,p7,p8]∧μ'[r]?=some (some (.lst (as.map dZ)))∧(∀ a∈as,okZ (n:Int) a=true)∧as.length=q+1∧Dk μ' k:=fun b=>by
        obtain ⟨μ11,e11,hr11,o11⟩:=zc8 (y:=dZ ((i:Int),(j:Int),b)) hr10 (by simp;omega)
        refine zj6 e11 ⟨as++[((i:Int),(j:Int),b)],_,_,_,_,rfl,by rw [hr11];simp,fun a ha=>?_,by simp;omega,d10.on hkr o11⟩
        rcases List.mem_append.mp ha with ha | ha
        · exact hok a ha
        · have:a=((i:Int),(j:Int),b):=by simpa using ha
          subst this;exact hoz b
      cases hz:decide ((u:Int)=0) with
      | true =>
        simp_arith [z6s hr10]
        rw [zni (by simp)]
        simp_arith
        exact (app (!b)).imp fun _ _ h=>h
      | false =>
        simp_arith [z6s hr10]
        rw [zni (by simp)]
        simp_arith
        exact (app b).imp fun _ _ h=>h
    cases si with
    | true =>
      simp only [Bool.not_true,z3u,z8n,z1c]
      refine (last sj μ8 d8 .refl).imp fun o Γ2 μ2 h=>?_
      cases o with
      | nx=>exact h
      | ct=>exact h
      | bk=>exact absurd h id
      | rt d=>exact absurd h id
    | false =>
      simp only [Bool.not_false,z3t,z39,z8j,z8l,z1m,z8m,z1g,z1f,q1_,z3v,wp_some,qc_]
      simp_arith
      refine (z5d d8 (by decide) (by decide)).imp ?_
      rintro _ μ9 ⟨v,rfl,hv,d9,o9⟩
      simp only [z8v,wp_some,q2_,z7i,w_c,qc_,z1g,z1f,z1m,z3q,z8s,qL_]
      rw [z6f (by simp)]
      simp only [wp_some,q2_,z7i,z1g,z1f]
      have hw':w=0∨w=1∨w=2:=by omega
      obtain ⟨b,eb⟩:∃ b:Bool,fIx (.lst [.bl (!sj),.bl (decide ((v:Int)=0)),.bl sj]) (.int (w:Int)) μ9=some (.bl b,μ9):=by
        rcases hw' with rfl | rfl | rfl
        · exact ⟨_,rfl⟩
        · exact ⟨_,rfl⟩
        · exact ⟨_,rfl⟩
      rw [eb]
      simp only [wp_some,z81,z1h,z80,List.set_cons_zero,List.set_cons_succ,z1c]
      refine (last b μ9 d9 o9).imp fun o Γ2 μ2 h=>?_
      cases o with
      | nx=>exact h
      | ct=>exact h
      | bk=>exact absurd h id
      | rt d=>exact absurd h id
  · rintro Γ μ6 ⟨as,p5,p6,p7,p8,rfl,hr6,hok,hlen,d6⟩
    simp_arith
    exact ⟨r,as,rfl,hr6,hok,by omega,d6,Ne.symm hkr⟩
end
section
variable {C CF CT:Addr} {n m k:Nat} {d:D} {as:List Az} {μ:M} {f:List D→M→Option (D×M)} {cs:List Addr} {P:List Pl}
theorem zjz (h:RP m μ P) (hk:μ[k]?=some (some (.lst (P.map dR)))):Rds μ (.ref k) (List (List Int)) (P.map (·.2)):=by
  unfold Rds
  rw [zgy hk]
  have e:optAll (py 64 μ) (P.map dR)=some (P.map fun p=>(Enc.p p.2:PyData)):=by
    refine z2p (f:=py 64 μ) (g:=dR) (h:=fun p=>(Enc.p p.2:PyData)) (l:=P) fun p hp=>?_
    show py 64 μ (.ref p.1)=_
    rw [zgy (h.at_ p hp)]
    have:=z8b (α:=Int) (μ:=μ) (n:=63) (by decide) p.2
    show (optAll (py 63 μ) (p.2.map Enc.d)).bind _=_
    rw [this];rfl
  rw [e]
  show some (PyData.list _)=some (PyData.list _)
  rw [List.map_map];rfl
theorem zo5 (F:List (List Int)):F.map dLI=F.map Enc.d:=rfl
theorem zj9 {ds:List D} (h:Ls μ d ds):tyD μ d=some "list" := by
  rcases z5r h with ⟨k,rfl,hk⟩ | rfl | rfl
  · simp [tyD,hk]
  · rfl
  · rfl
theorem zjp {a:Int} {n:Nat}:z2s (n+1) [.int a,.int a] μ=some (.bl true,μ):=by
  have t1:zbv ["list", "tuple"] (.int a) μ=some (.bl false,μ):=rfl
  have t2:zcc "str" (.int a) μ=some (.bl false,μ):=rfl
  have t3:zcc "bool" (.int a) μ=some (.bl false,μ):=rfl
  have t4:zcc "int" (.int a) μ=some (.bl true,μ):=rfl
  simp [z2s,z1s,z3d,t1,t2,t3,t4,z9h,fEq,z67,zhy]
theorem zgi {x y:D} {l:List Int} {j:Nat} (hx:Ls μ x (l.map D.int)) (hy:Ls μ y (l.map D.int)) (hl:l.length≤2000):z2s (j+2) [x,y] μ=some (.bl true,μ):=by
  have lx:=hx.len
  have ly:=hy.len
  rw [List.length_map] at lx ly
  refine zdw (f:=z2s (j+1)) (.inl ⟨zj9 hx,zj9 hy⟩) lx ly hl fun i hi=>?_
  refine ⟨.int l[i],.int l[i],?_,?_,zjp⟩
  · rw [hx.ix (by simpa using hi),List.getElem_map]
  · rw [hy.ix (by simpa using hi),List.getElem_map]
theorem zdx {x y:D} {j:Nat} (hx:Ls μ x (P.map dR)) (r:RP m μ P) (hy:Ls μ y ((P.map (·.2)).map dLI)) (hl:P.length≤2000) (hll:∀ p∈P,p.2.length≤2000):z2s (j+3) [x,y] μ=some (.bl true,μ):=by
  have lx:=hx.len
  have ly:=hy.len
  rw [List.length_map] at lx ly
  rw [List.length_map] at ly
  refine zdw (f:=z2s (j+2)) (.inl ⟨zj9 hx,zj9 hy⟩) lx ly hl fun i hi=>?_
  refine ⟨dR P[i],dLI P[i].2,?_,?_,zgi (Ls.ref (r.at_ _ (List.getElem_mem hi))) Ls.lst (hll _ (List.getElem_mem hi))⟩
  · rw [hx.ix (by simpa using hi),List.getElem_map]
  · rw [hy.ix (by simpa using hi),List.getElem_map,List.getElem_map]
theorem zkd:zhx (.ref k) .non μ=some (.bl true,μ):=rfl
theorem zrb:fEq (.str "fit") (.str "fit") μ=some (.bl true,μ):=by
  have:(PyData.strOk "fit" && PyData.strOk "fit")=true:=by decide +kernel
  unfold fEq
  rw [zo3,if_pos this]
  simp
theorem zcs (hl:Ls μ d (as.map dZ)) (h1:1≤n) (hn:n≤10) (hs:SmZ as) (ho:as.all (okZ (n:Int))=true) (hf:z93 n as=[]) (hc:CF∈cs) (hk:∀ (μ:M) (k:Nat),μ[k]?=some (some (.exc CF))→f [.ref k] μ=some (.str "fit",μ)) :
    Wp (z1e f (znq C CF CT) cs [.int (n:Int),d] μ) fun x μ'=>x=.bl true∧Gr μ μ':=by
  unfold z1e z3y
  refine (z7t rfl).mpr ?_
  show Ws (z1p _ _ [some (.int (n:Int)),some d,none,none] μ) _
  simp_arith
  refine zs9 ?_
  simp_arith
  refine (zgl (C:=C) (CF:=CF) (CT:=CT) hl h1 hn hs ho).imp ?_
  rintro r μ1 ⟨g1,ho⟩
  rw [if_pos hf] at ho
  subst ho
  simp_arith
  refine ⟨hc,?_⟩
  show Ws (z3k _ _ [some (.int (n:Int)),some d,some .non,some (.ref μ1.length)] _) _
  simp_arith [zkd]
  rw [hk _ _ (by simp)]
  simp_arith [zrb]
  exact ⟨trivial,g1.trans gr_app⟩
theorem zjs {k:Nat} {F:List (List Int)} {Γ:G} {R:D→M→Prop} (hn:n≤10) (h0:Γ[0]?=some (some (.int (n:Int)))) (h3:Γ[3]?=some (some (.ref k))) (hk:μ[k]?=some (some (.lst (F.map dLI)))) (hF:F.length≤2000) (h:R (.lst ((zpb n F).map fun t:Nat=>D.int (t:Int))) μ) :
    Wp (z50 ["teller"] [("due",3)] (ivR (z04 0)) (z03 0) (vT (v2 fEq (z50 ["liars"] [("teller",0)] (ivL (z04 1)) (z03 0) (vT (v2 (fIn false) (z04 1) (z04 0))) (z04 0)) (vL z76 z1n))) (z04 0) Γ μ) R:=by
  simp_arith [zmi h0]
  rw [zcu (by omega)]
  simp_arith [zk3]
  refine ⟨by simp [z5n];omega,?_⟩
  have er:z5n 0 n=(List.range n).map fun t:Nat=>D.int (t:Int):=by simp [z5n]
  have ec:z8k (["teller"]:List Str) [("due",3)] Γ=[none,some (.ref k)]:=by simp [z8k,h3]
  rw [er,ec]
  refine z33 (c:=none) (dn:=fun t:Nat=>D.int (t:Int)) (keep:=fun t=>F.all fun l=>!decide ((t:Int)∈l)) (val:=fun t:Nat=>D.int (t:Int)) (fun Γ=>∃ o,Γ=[o,some (.ref k)]) trivial _ ⟨_,rfl⟩ ?_ h
  rintro t ht Γ ⟨o,rfl⟩
  simp_arith [zgw hk,zk3]
  refine ⟨trivial,⟨_,rfl⟩,by simp;omega,?_⟩
  show Wp (z1q (some (k,F.map dLI)) (z03 0) _ _ (F.map dLI) [none,some (.int (t:Int))] μ) _
  refine z33 (c:=some (k,F.map dLI)) (dn:=dLI) (keep:=fun l=>decide ((t:Int)∈l)) (val:=dLI) (fun Γ=>∃ o,Γ=[o,some (.int (t:Int))]) hk _ ⟨_,rfl⟩ ?_ ?_
  · rintro l hl Γ ⟨o,rfl⟩
    simp_arith
    rw [in_ints (d:=dLI l) Ls.lst]
    simp_arith
    exact ⟨trivial,⟨_,rfl⟩,trivial,trivial,fun _=>⟨trivial,trivial⟩⟩
  · rw [z6f (by simp)]
    simp_arith
    have e:fEq (.lst ((F.filter fun l=>decide ((t:Int)∈l)).map dLI)) (.lst []) μ=some (.bl (decide ((F.filter fun l=>decide ((t:Int)∈l))=[])),μ):=by
      unfold fEq
      have:=zo4 (α:=List Int) (μ:=μ) (l:=F.filter fun l=>decide ((t:Int)∈l)) (m:=[]) (by decide)
      rw [zo5]
      show (eqD _ (.lst (List.map Enc.d ([]:List (List Int)))) μ).bind _=_
      rw [this];rfl
    rw [e]
    simp_arith
    refine ⟨?_,trivial,fun _=>⟨trivial,trivial⟩⟩
    rw [Bool.eq_iff_iff]
    simp [List.filter_eq_nil_iff]
noncomputable def z3h (i:Nat) (P:List Pl):List Pl:=P.zipIdx.map fun q=>(q.1.1,if q.2<i then q.1.2++[(q.2:Int)] else q.1.2)
theorem z2u {i:Nat}:(z3h i P).length=P.length:=by simp [z3h]
theorem z5i {i:Nat}:(z3h i P).map (·.1)=P.map (·.1):=by
  unfold z3h
  rw [List.map_map]
  refine List.ext_getElem (by simp) fun j h1 h2=>?_
  simp
theorem zeb {i:Nat}:(z3h i P).map dR=P.map dR:=by
  have:dR=(fun i:Nat=>D.ref i) ∘ (fun p:Pl=>p.1):=rfl
  rw [this,← List.map_map,z5i,List.map_map]
theorem zff:z3h 0 P=P:=by
  unfold z3h
  refine List.ext_getElem (by simp) fun j h1 h2=>?_
  simp
theorem z5h {i j:Nat} (h:j<P.length):(z3h i P)[j]'(by rw [z2u];exact h)=(P[j].1,if j<i then P[j].2++[(j:Int)] else P[j].2):=by
  simp [z3h]
end
section
variable {Γ:G} {μ:M} {ea:EV} {RI:List D×Ck→M→Prop} {ds:List D} {k:Nat}
def qIE (RI:List D×Ck→M→Prop):D→M→Prop:=fun d μ=>∃ s,lsC μ d=some s∧RI (z4y s.1,s.2) μ
theorem zg0:Wp (zog ea Γ μ) RI↔Wp (ea Γ μ) (qIE RI):=wp_bind.trans ⟨fun h=>h.imp fun d μ q=>by
    obtain ⟨s,e,q⟩:=wpo_bind.mp q
    exact ⟨s,e,wp_some.mp q⟩,fun h=>h.imp fun d μ ⟨s,e,q⟩=>wpo_bind.mpr ⟨s,e,wp_some.mpr q⟩⟩
theorem zgx (h:μ[k]?=some (some (.lst ds))):qIE RI (.ref k) μ↔RI (z4y ds,some (k,ds)) μ:=by
  have e:=zhj h
  exact ⟨fun ⟨_,e2,q⟩=>by rw [e] at e2;cases e2;exact q,fun q=>⟨_,e,q⟩⟩
theorem zn2:qIE RI (.lst ds) μ↔RI (z4y ds,none) μ:=⟨fun ⟨_,e,q⟩=>by cases e;exact q,fun q=>⟨_,rfl,q⟩⟩
theorem zsa {eo ei:EV} {h i:Nat} {x:D} {ds:List D} {RG:G→M→Prop} (h0:eo Γ μ=some (.ref h,μ)) (h1:ei Γ μ=some (.int (i:Int),μ)) (hh:μ[h]?=some (some (.lst ds))) (hi:i<ds.length) (q:RG Γ (μ.set h (some (.lst (ds.set i x))))):Wp (zas eo ei x Γ μ) RG:=by
  have e:ixN ds.length (i:Int)=some i:=by unfold ixN;rw [if_pos (by omega),if_pos (by omega)];simp
  refine zj6 (a:=Γ) (μ:=μ.set h (some (.lst (ds.set i x)))) ?_ q
  unfold zas
  rw [h0,bs]
  show (ei Γ μ).bind _=_
  rw [h1,bs]
  show (onL (.ref h) μ _).bind _=_
  rw [z83 hh,e]
  rfl
end
section
variable {n m k f:Nat} {d:D} {as:List Az} {μ:M} {P:List Pl} {F:List (List Int)}
structure Bf (m:Nat) (μ μ':M):Prop where
  len:μ'.length=μ.length
  at_:∀ j,j<m→μ'[j]?=μ[j]?
theorem Bf.gr {μ0 μ μ':M} (h:Bf m μ μ') (g:Gr μ0 μ) (hm:μ0.length≤m):Gr μ0 μ':=⟨by rw [h.len];exact g.len,fun j hj=>by rw [h.at_ j (by omega)];exact g.at_ j hj⟩
theorem nodup_ne {i j:Nat} (h:(P.map (·.1)).Nodup) (hi:i<P.length) (hj:j<P.length) (hij:i≠j):P[i].1≠P[j].1:=by
  intro e
  have:=List.pairwise_iff_getElem.mp h
  rcases Nat.lt_or_gt_of_ne hij with z | z
  · exact this i j (by simpa using hi) (by simpa using hj) z (by simpa using e)
  · exact this j i (by simpa using hj) (by simpa using hi) z (by simpa using e.symm)
theorem RP.grow {μ':M} {i:Nat} (h:RP m μ (z3h i P)) (hi:i<P.length) (hat:μ'[P[i].1]?=some (some (.lst ((P[i].2++[(i:Int)]).map D.int)))) (ho:On P[i].1 μ μ'):RP m μ' (z3h (i+1) P):=by
  have hnd:(P.map (·.1)).Nodup:=by have:=h.nd;rw [z5i] at this;exact this
  refine ⟨fun p hp=>?_,fun p hp=>?_,by rw [z5i];exact hnd⟩
  · obtain ⟨j,hj,rfl⟩:=List.mem_iff_getElem.mp hp
    have hj':j<P.length:=by rw [z2u] at hj;exact hj
    rw [z5h hj']
    by_cases e:j=i
    · subst e
      rw [if_pos (by omega)]
      exact hat
    · have hne:=nodup_ne hnd hj' hi e
      have:=h.at_ ((z3h i P)[j]'(by rw [z2u];exact hj')) (List.getElem_mem _)
      rw [z5h hj'] at this
      show μ'[P[j].1]?=_
      rw [ho.at_ _ hne,this]
      by_cases z:j<i
      · rw [if_pos z,if_pos (by omega)]
      · rw [if_neg z,if_neg (by omega)]
  · obtain ⟨j,hj,rfl⟩:=List.mem_iff_getElem.mp hp
    have hj':j<P.length:=by rw [z2u] at hj;exact hj
    have:=h.ge ((z3h i P)[j]'(by rw [z2u];exact hj')) (List.getElem_mem _)
    rw [z5h hj'] at this ⊢
    exact this
theorem zdf {ds:List D} {i:Nat} (h:i<ds.length):(z4y ds)[i]'(by simp [z4y];exact h)=.tup [.int (i:Int),ds[i]]:=by simp [z4y]
theorem z6j {ds:List D}:(z4y ds).length=ds.length:=by simp [z4y]
theorem zmu {a0 a1 a2 a3 a4 a5 a6 o7 o8 a9 a10 a11:Option D} {Q:Out→G→M→Prop} (r:RL2 m μ f P) (hll:∀ p∈P,p.2.length≤100)
    (q:∀ μ' o7 o8,RL2 m μ' f (z3h P.length P)→Bf m μ μ'→Q .nx [a0,a1,a2,a3,a4,a5,a6,o7,o8,a9,a10,a11] μ') :
    Ws (ziu (some (f,P.map dR)) (z5w 2 (z18 (z03 7) (z18 (z03 8) z6w))) (zai (v2l zi1 (z04 8) (z04 7))) (z4y (P.map dR)) [a0,a1,a2,a3,a4,a5,a6,o7,o8,a9,a10,a11] μ) Q:=by
  refine z6y (fun z4d Γ μ'=>∃ (i:Nat) (o7 o8:Option D),i≤P.length∧z4d=(z4y (P.map dR)).drop i∧Γ=[a0,a1,a2,a3,a4,a5,a6,o7,o8,a9,a10,a11]∧RL2 m μ' f (z3h i P)∧Bf m μ μ') _ ⟨0,_,_,by omega,rfl,rfl,by rw [zff];exact r,⟨rfl,fun _ _=>rfl⟩⟩ ?_ ?_
  · rintro x z4d Γ μ1 ⟨i,o7,o8,hi,e,rfl,r1,b1⟩
    have hel:(z4y (P.map dR)).length=P.length:=by rw [z6j,List.length_map]
    have hi':i<P.length:=by
      rcases Nat.lt_or_ge i P.length with z | z
      · exact z
      · rw [List.drop_eq_nil_of_le (by omega)] at e;cases e
    rw [List.drop_eq_getElem_cons (by omega)] at e
    cases e
    rw [zdf (by simpa using hi'),List.getElem_map]
    have hat:=r1.r.at_ ((z3h i P)[i]'(by rw [z2u];exact hi')) (List.getElem_mem _)
    have hne:=r1.ne ((z3h i P)[i]'(by rw [z2u];exact hi')) (List.getElem_mem _)
    have hge:=r1.r.ge ((z3h i P)[i]'(by rw [z2u];exact hi')) (List.getElem_mem _)
    rw [z5h hi',if_neg (by omega)] at hat hne hge
    have hl:=hll P[i] (List.getElem_mem hi')
    rw [z9d (n:=2) rfl]
    simp_arith
    unfold dR
    simp_arith [z6s hat]
    obtain ⟨μ2,e2,hr2,o2⟩:=zc8 (y:=.int (i:Int)) hat (by rw [List.length_map];show P[i].2.length<_;omega)
    rw [e2]
    simp_arith
    have hf:μ2[f]?=some (some (.lst (P.map dR))):=by
      rw [o2.at_ f (Ne.symm hne)]
      have:=r1.at_
      rw [zeb] at this
      exact this
    refine ⟨hf,i+1,_,_,hi',rfl,rfl,⟨r1.r.grow hi' (by rw [hr2];simp) o2,by rw [zeb];exact hf,r1.ge,fun p hp=>?_⟩,⟨o2.len.trans b1.len,fun j hj=>?_⟩⟩
    · have:p.1∈(z3h (i+1) P).map (·.1):=List.mem_map.mpr ⟨p,hp,rfl⟩
      rw [z5i,← z5i (i:=i)] at this
      obtain ⟨q,hq,e⟩:=List.mem_map.mp this
      rw [← e]
      exact r1.ne q hq
    · rw [o2.at_ j (by show j≠P[i].1;have:m≤P[i].1:=hge;omega)]
      exact b1.at_ j hj
  · rintro Γ μ1 ⟨i,o7,o8,hi,e,rfl,r1,b1⟩
    have hi2:P.length≤i:=by
      have:=congrArg List.length e
      rw [List.length_drop,z6j,List.length_map] at this
      simp at this
      omega
    have:i=P.length:=by omega
    subst this
    exact q μ1 o7 o8 r1 b1
noncomputable def za4 (F:List (List Int)):List (List Int):=F.zipIdx.map fun q=>q.1++[(q.2:Int)]
theorem zfg:(z3h P.length P).map (·.2)=za4 (P.map (·.2)):=by
  refine List.ext_getElem (by simp [z3h,za4]) fun j h1 h2=>?_
  have hj:j<P.length:=by simpa [za4] using h2
  rw [List.getElem_map,z5h hj,if_pos hj]
  simp [za4]
theorem zjt {Γ:G} {R:D→M→Prop} (h3:Γ[3]?=some (some (.ref k))) (hk:μ[k]?=some (some (.lst (F.map dLI)))) (hF:F.length≤2000) (hll:∀ l∈F,l.length≤100) (h:R (.lst ((za4 F).map dLI)) μ) :
    Wp (z50 ["at", "liars"] [] (zog (z04 3)) (z5w 2 (z18 (z03 0) (z18 (z03 1) z6w))) zcd (v2 z35 (z04 1) (vL z76 (z06 (z04 0) z1n))) Γ μ) R:=by
  simp_arith [zg0,zmi h3,zgx hk,zk3]
  refine ⟨by rw [z6j,List.length_map];omega,?_⟩
  have ee:z4y (F.map dLI)=F.zipIdx.map fun q=>D.tup [.int (q.2:Int),dLI q.1]:=by
    refine List.ext_getElem (by simp [z4y]) fun j h1 h2=>?_
    rw [zdf (by rw [z6j] at h1;exact h1)]
    simp
  rw [ee]
  show Wp (z1q (some (k,F.map dLI)) _ _ _ _ [none,none] μ) _
  refine z33 (c:=some (k,F.map dLI)) (dn:=fun q:List Int×Nat=>D.tup [.int (q.2:Int),dLI q.1]) (keep:=fun _=>true) (val:=fun q=>dLI (q.1++[(q.2:Int)])) (fun Γ=>∃ o1 o2,Γ=[o1,o2]) hk _ ⟨_,_,rfl⟩ ?_ ?_
  · rintro q hq Γ ⟨o1,o2,rfl⟩
    have hl:q.1.length≤100:=hll q.1 (by
      obtain ⟨j,hj,rfl⟩:=List.mem_iff_getElem.mp hq
      simp)
    rw [z9d (n:=2) rfl]
    simp_arith
    refine ⟨trivial,⟨_,_,rfl⟩,trivial,trivial,fun _=>?_⟩
    rw [z6f (by simp)]
    simp_arith
    unfold dLI
    rw [z6i,if_pos (by simp;omega)]
    simp_arith
    exact ⟨by simp,trivial⟩
  · have ef:F.zipIdx.filter (fun _=>true)=F.zipIdx:=List.filter_eq_self.mpr (by simp)
    rw [ef]
    have:(F.zipIdx.map fun q=>dLI (q.1++[(q.2:Int)]))=(za4 F).map dLI:=by unfold za4;rw [List.map_map];rfl
    rw [this]
    exact h
theorem zkh (r:RL2 m μ f (z3h P.length P)):fNe (.ref f) (.lst ((za4 (P.map (·.2))).map dLI)) μ=some (.bl false,μ):=by
  unfold fNe
  have h1:=zjz r.r r.at_
  rw [zfg] at h1
  have h2:Rds μ (.lst ((za4 (P.map (·.2))).map dLI)) (List (List Int)) (za4 (P.map (·.2))):=zgr (α:=List (List Int)) (by decide) _
  rw [zax (α:=List (List Int)) (by decide) h1 h2 rfl rfl]
  simp
end
section
variable {C CF CT:Addr} {n s:Nat} {as:List Az} {μ:M} {fk:List D→M→Option (D×M)} {cs:List Addr}
noncomputable abbrev miR (fk:List D→M→Option (D×M)) (C CF CT:Addr) (cs:List Addr):List D→M→Option (D×M):=z3m z0n (dn (zf8 C CT)) (z2s 10) (z1e fk (znq C CF CT) cs) (dn (znq C CF CT))
theorem zlq (hn:n≤10) (ho:as.all (okZ (n:Int))=true):SmZ as:=fun a ha=>by
  have:=List.all_eq_true.mp ho a ha
  simp [okZ] at this
  exact ⟨zmr (by omega) (by omega),zmr (by omega) (by omega)⟩
theorem zbs (hn:n≤10):∀ l∈z93 n as,l.length≤10:=fun l hl=>by
  have:=z7p n n l ((List.mergeSort_perm (LLs n n) _).mem_iff.mp (List.mem_filter.mp hl).1)
  omega
theorem zrw {x y:D} (h1:Ls μ x (as.map dZ)) (h2:Ls μ y (as.map dZ)):fNe x y μ=some (.bl false,μ):=by
  unfold fNe
  rw [eqZ h1 h2]
  simp
theorem zvc {as:List Az}:zfj (as.map dZ) none (some 2)=(as.take 2).map dZ:=by
  have:zfj (as.map dZ) none (some ((2:Nat):Int))=(as.map dZ).take (min 2 (as.map dZ).length):=by
    unfold zfj
    rw [HT.sIx_none,HT.sIx_nat,List.drop_zero,Nat.sub_zero]
  show zfj (as.map dZ) none (some ((2:Nat):Int))=_
  rw [this,List.map_take]
  by_cases h:2≤(as.map dZ).length
  · rw [Nat.min_eq_left h]
  · rw [Nat.min_eq_right (by omega),List.take_of_length_le (Nat.le_refl _),List.take_of_length_le (by omega)]
theorem zjw {h:Nat} {a0 a1 a3 a4 a5 a6 o7 a8 a9 o10 o11:Option D} {Q:Out→G→M→Prop} (h1:1≤n) (hn:n≤10) (hh:μ[h]?=some (some (.lst (as.map dZ)))) (ho:as.all (okZ (n:Int))=true) (hlen:as.length≤30) (h0:a0=some (.int (n:Int)))
    (q:∀ Γ μ',Q .nx Γ μ') :
    Ws (ziu none (z5w 2 (z18 (z03 7) (z18 (z03 10) z6w)))
      (z1p (z3k (v2 z35 (vSl (z04 10) zd2 (zf7 (vC (.int 2)))) (vL zko (z06 (v1 zhy (v2 fIx (z04 10) (vC (.int 2)))) z1n))) (zas (z04 2) (z04 7)))
      (z1p (z3k (v1 zfi (z04 2)) (z03 11))
      (sIf (bOr (zdg (z94 (vL (z2s 10) (z06 (vL (dn (zf8 C CT)) (z06 (z04 0) (z06 (z04 2) z1n))) (z06 (vL z0n (z06 (z04 0) (z06 (z04 11) z1n))) z1n))))) (vT (v2 fNe (z04 2) (z04 11))))
        (z5f (vC (.bl false)))
        sNx))) (z4y ((as.take 2).map dZ)) [a0,a1,some (.ref h),a3,a4,a5,a6,o7,a8,a9,o10,o11] μ) Q:=by
  subst h0
  refine z6y (fun z4d Γ μ'=>∃ (i:Nat) (bs:List Az) (o7 o10 o11:Option D),i≤(as.take 2).length∧z4d=(z4y ((as.take 2).map dZ)).drop i∧Γ=[some (.int (n:Int)),a1,some (.ref h),a3,a4,a5,a6,o7,a8,a9,o10,o11]∧μ'[h]?=some (some (.lst (bs.map dZ)))∧bs.length=as.length∧bs.all (okZ (n:Int))=true) _ ⟨0,as,_,_,_,by omega,rfl,rfl,hh,rfl,ho⟩ ?_ ?_
  · rintro x z4d Γ μ1 ⟨i,bs,o7,o10,o11,hi,e,rfl,hh1,hbl,hbo⟩
    have hel:(z4y ((as.take 2).map dZ)).length=(as.take 2).length:=by rw [z6j,List.length_map]
    have hi':i<(as.take 2).length:=by
      rcases Nat.lt_or_ge i (as.take 2).length with z | z
      · exact z
      · rw [List.drop_eq_nil_of_le (by omega)] at e;cases e
    rw [List.drop_eq_getElem_cons (by omega)] at e
    cases e
    rw [zdf (by simpa using hi'),List.getElem_map]
    have hmem:(as.take 2)[i]∈as:=List.mem_of_mem_take (List.getElem_mem hi')
    have hia:i<as.length:=by rw [List.length_take] at hi';omega
    generalize (as.take 2)[i]=a at hmem
    have hoka:=List.all_eq_true.mp ho a hmem
    rw [z9d (n:=2) rfl]
    simp_arith
    have e1:fSl (dZ a) none (some 2) μ1=some (.tup [.int a.1,.int a.2.1],μ1):=rfl
    rw [e1]
    simp_arith
    have e2:fIx (dZ a) (.int 2) μ1=some (.bl a.2.2,μ1):=rfl
    rw [e2]
    simp_arith
    rw [zni (by simp)]
    simp_arith
    have e3:z35 (.tup [.int a.1,.int a.2.1]) (.tup [.bl (!a.2.2)]) μ1=some (dZ (a.1,a.2.1,!a.2.2),μ1):=by
      have hc:([D.int a.1,.int a.2.1]:List D)≠[]∧([D.int a.1,.int a.2.1]:List D).length+([D.bl (!a.2.2)]:List D).length≤1000000:=⟨by simp,by simp⟩
      simp only [z35,zi0,zjg,Option.bind_some]
      rw [if_pos hc]
      rfl
    rw [e3]
    simp_arith
    refine zsa rfl rfl hh1 (by rw [List.length_map];omega) ?_
    have hh2:=zag (y:=some (O.lst ((bs.map dZ).set i (dZ (a.1,a.2.1,!a.2.2))))) hh1
    generalize μ1.set h (some (O.lst ((bs.map dZ).set i (dZ (a.1,a.2.1,!a.2.2)))))=μ2 at hh2
    rw [← List.map_set] at hh2
    have hol:(bs.set i (a.1,a.2.1,!a.2.2)).all (okZ (n:Int))=true:=by
      refine List.all_eq_true.mpr fun b hb=>?_
      rcases List.mem_or_eq_of_mem_set hb with hb | rfl
      · exact List.all_eq_true.mp hbo b hb
      · exact hoka
    have hll:(bs.set i (a.1,a.2.1,!a.2.2)).length=as.length:=by rw [List.length_set];exact hbl
    generalize bs.set i (a.1,a.2.1,!a.2.2)=ds at hh2 hol hll
    simp_arith
    have e4:zfi (.ref h) μ2=some (.lst (ds.map dZ),μ2):=by
      unfold zfi zjl
      rw [z5s hh2]
      rfl
    rw [e4]
    simp_arith
    refine zsb ((zct (C:=C) (CT:=CT) (Ls.ref hh2) h1 hn (zlq hn hol) hol).imp ?_)
    rintro _ μ4 ⟨f,P,rfl,hP,r4,g4⟩
    refine ⟨_,rfl,?_⟩
    simp_arith
    refine (zgp hn (d:=.lst (ds.map dZ)) Ls.lst (by omega)).imp ?_
    rintro _ μ5 ⟨du,rfl,hdu,g5,ge5⟩
    rw [zee h1,← hP] at hdu
    simp_arith
    have hPl:P.length≤2000:=by
      have:=zau (as:=ds) hn
      rw [← hP,List.length_map] at this
      omega
    have hPe:∀ p∈P,p.2.length≤2000:=fun p hp=>by
      have:=zbs (as:=ds) hn p.2 (by rw [← hP];exact List.mem_map.mpr ⟨p,hp,rfl⟩)
      omega
    have hsame:z2s 10 [.ref f,.ref du] μ5=some (.bl true,μ5):=zdx (j:=7) (Ls.ref (g5.get r4.at_)) (r4.r.gr g5) (Ls.ref hdu) hPl hPe
    rw [hsame]
    simp_arith [Bool.not_true]
    have hh5:=g5.get (g4.get hh2)
    rw [zrw (Ls.ref hh5) Ls.lst]
    simp_arith
    exact ⟨trivial,i+1,ds,_,_,_,hi',rfl,rfl,hh5,hll,hol⟩
  · rintro Γ μ1 ⟨i,bs,o7,o10,o11,hi,e,rfl,hh1,hbl,hbo⟩
    exact q _ _
end
section
variable {C CF CT:Addr} {n s:Nat} {as:List Az} {μ:M} {fk:List D→M→Option (D×M)} {cs:List Addr}
theorem zgd {T:List Nat}:(T.map fun t:Nat=>D.int (t:Int))=(T.map fun t:Nat=>(t:Int)).map D.int:=by rw [List.map_map];rfl
theorem zgm (h1:1≤n) (hn:n≤10) (hs:μ[s]?=some (some (.lst (as.map dZ)))) (ho:as.all (okZ (n:Int))=true) (hlen:as.length≤30) (hc:CF∈cs) (hk:∀ (μ:M) (k:Nat),μ[k]?=some (some (.exc CF))→fk [.ref k] μ=some (.str "fit",μ)) :
    Wp (miR fk C CF CT cs [.int (n:Int),.ref s] μ) fun x μ'=>x=.bl true:=by
  have hsm:=zlq hn ho
  unfold miR z3m z5j
  refine (z7t rfl).mpr ?_
  show Ws (z1p _ _ [some (.int (n:Int)),some (.ref s),none,none,none,none,none,none,none,none,none,none] μ) _
  simp_arith
  rw [(Ls.ref hs).listM]
  have hs1:(μ++[some (O.lst (as.map dZ))])[s]?=some (some (.lst (as.map dZ))):=gr_app.get hs
  have hh1:(μ++[some (O.lst (as.map dZ))])[μ.length]?=some (some (.lst (as.map dZ))):=by simp
  generalize μ++[some (O.lst (as.map dZ))]=μ1 at hs1 hh1
  generalize μ.length=h at hh1
  simp_arith
  refine (zgp hn (Ls.ref hs1) (by omega)).imp ?_
  rintro _ μ2 ⟨du,rfl,hdu,g2,ge2⟩
  rw [zee h1] at hdu
  have hs2:=g2.get hs1
  have hh2:=g2.get hh1
  have hFl:=zau (as:=as) hn
  have hFe:=zbs (as:=as) hn
  simp only [z1h,z39,z38,z1c,z81,z80,List.set_cons_zero,List.set_cons_succ]
  refine zjs hn rfl rfl hdu (by omega) ?_
  simp only [z1h,z39,z38,z1c,z81,z80,List.set_cons_zero,List.set_cons_succ,z3s,z3r,w_c]
  refine (zcu (k:=2) (by omega)).mpr ?_
  simp only [z8t]
  refine zat (fun _ Γ μ'=>∃ o5 o6 o7 o8 o9:Option D,Γ=[some (.int (n:Int)),some (.ref s),some (.ref h),some (.ref du),some (.lst ((zpb n (z93 n as)).map fun t:Nat=>D.int (t:Int))),o5,o6,o7,o8,o9,none,none]∧Gr μ2 μ') ⟨_,_,_,_,_,rfl,.refl⟩ ?_ ?_
  · rintro t Γ μ3 ht ⟨o5,o6,o7,o8,o9,rfl,g3⟩
    have hh3:=g3.get hh2
    simp_arith
    refine zsb ((zct (C:=C) (CT:=CT) (Ls.ref hh3) h1 hn hsm ho).imp ?_)
    rintro _ μ4 ⟨f,P,rfl,hP,r4,g4⟩
    refine ⟨_,rfl,?_⟩
    have hdu4:=g4.get (g3.get hdu)
    have hPl:P.length≤2000:=by
      rw [← hP,List.length_map] at hFl
      omega
    have hPe:∀ p∈P,p.2.length≤100:=fun p hp=>by
      have:=hFe p.2 (by rw [← hP];exact List.mem_map.mpr ⟨p,hp,rfl⟩)
      omega
    have hsame:z2s 10 [.ref f,.ref du] μ4=some (.bl true,μ4):=zdx (j:=7) (Ls.ref r4.at_) r4.r (by rw [hP];exact Ls.ref hdu4) hPl fun p hp=>Nat.le_trans (hPe p hp) (by decide)
    simp_arith
    rw [hsame]
    simp_arith [Bool.not_true]
    rw [zrw (Ls.ref (g4.get hh3)) (Ls.ref (g4.get (g3.get hs2)))]
    simp_arith [zg0,zgx r4.at_]
    refine zmu r4 hPe fun μ5 o7' o8' r5 b5=>?_
    have g5:Gr μ3 μ5:=b5.gr g4 (Nat.le_refl _)
    have hdu5:=g5.get (g3.get hdu)
    simp only [z38,z1c,z8o,w_T,z8j,z1f,z1g,q2_,z7i]
    refine zjt rfl hdu5 (by omega) (fun l hl=>Nat.le_trans (hFe l hl) (by decide)) ?_
    have hng:=zkh r5
    rw [hP] at hng
    simp only [z7i]
    rw [hng]
    simp_arith [z6s r5.at_]
    rw [z6f (by simp)]
    simp_arith
    obtain ⟨μ6,e6,hr6,on6⟩:=zc8 (y:=.lst []) r5.at_ (by rw [List.length_map,z2u];omega)
    rw [e6]
    have g6:Gr μ3 μ6:=on6.gr g5 r5.ge
    simp_arith
    rw [z6f (by simp)]
    simp_arith
    have hdu6:=g6.get (g3.get hdu)
    have hh6:=g6.get hh3
    have hs6:=g6.get (g3.get hs2)
    have he:fEq (.ref du) (.lst []) μ6=some (.bl (decide (z93 n as=[])),μ6):=by
      unfold fEq
      have:=zkt (α:=List Int) (μ:=μ6) (k:=du) (l:=z93 n as) (m:=[]) (by decide) hdu6
      show (eqD _ (.lst (List.map Enc.d ([]:List (List Int)))) μ6).bind _=_
      rw [this];rfl
    rw [he]
    by_cases hf:z93 n as=[]
    · rw [decide_eq_true hf]
      simp_arith
      refine (zcs (C:=C) (CF:=CF) (CT:=CT) (Ls.ref hh6) h1 hn hsm ho hf hc hk).imp ?_
      rintro _ μ7 ⟨rfl,g7⟩
      simp_arith [Bool.not_true]
      rw [zrw (Ls.ref (g7.get hh6)) (Ls.ref (g7.get hs6))]
      simp_arith
      exact ⟨_,_,_,_,_,rfl,g3.trans (g6.trans g7)⟩
    · rw [decide_eq_false hf]
      simp_arith
      refine zsb ((zgl (C:=C) (CF:=CF) (CT:=CT) (Ls.ref hh6) h1 hn hsm ho).imp ?_)
      rintro r μ7 ⟨g7,ho7⟩
      rw [if_neg hf] at ho7
      obtain ⟨kt,rfl,hkt,ge7⟩:=ho7
      refine ⟨_,rfl,?_⟩
      have hTl:(zpb n (z93 n as)).length≤n:=by
        have:=List.length_filter_le (fun t:Nat=>(z93 n as).all fun l=>!decide ((t:Int)∈l)) (List.range n)
        rw [List.length_range] at this
        exact this
      have hsame2:z2s 10 [.ref kt,.lst ((zpb n (z93 n as)).map fun t:Nat=>D.int (t:Int))] μ7=some (.bl true,μ7):=by
        rw [zgd] at hkt ⊢
        exact zgi (j:=8) (Ls.ref hkt) Ls.lst (by rw [List.length_map];omega)
      simp_arith
      rw [hsame2]
      simp_arith [Bool.not_true,z6s hkt]
      obtain ⟨μ8,e8,hr8,on8⟩:=zc8 (y:=.int 0) hkt (by rw [List.length_map];omega)
      rw [e8]
      have g8:Gr μ6 μ8:=on8.gr g7 ge7
      simp_arith
      rw [zrw (Ls.ref (g8.get hh6)) (Ls.ref (g8.get hs6))]
      simp_arith
      exact ⟨_,_,_,_,_,rfl,g3.trans (g6.trans g8)⟩
  · rintro Γ μ3 ⟨o5,o6,o7,o8,o9,rfl,g3⟩
    have hh3:=g3.get hh2
    have hs3:=g3.get hs2
    simp_arith [zg0]
    rw [(Ls.ref hs3).sl,zvc]
    simp_arith [zn2]
    refine zjw h1 hn hh3 ho hlen rfl fun Γ μ'=>?_
    simp_arith
end
section
variable {C CF CT:Addr} {fk:List D→M→Option (D×M)} {cs:List Addr}
noncomputable abbrev zt6 (fk:List D→M→Option (D×M)) (C CF CT:Addr) (cs:List Addr):List D→M→Option (D×M):=ze3 z0t z2x z0h (z1d z0h) (miR fk C CF CT cs)
theorem zmv (hc:CF∈cs) (hk:∀ (μ:M) (k:Nat),μ[k]?=some (some (.exc CF))→fk [.ref k] μ=some (.str "fit",μ)) (ns:List Int) (hn:ns.length≤63):∃ μ',zt6 fk C CF CT cs [.scr (ns.map D.int)] []=some (.bl true,μ'):=by
  suffices h:Wp (zt6 fk C CF CT cs [.scr (ns.map D.int)] []) fun d _=>d=.bl true by
    obtain ⟨d,μ',e,rfl⟩:=h
    exact ⟨μ',e⟩
  unfold zt6 ze3 zi5
  refine (z7t rfl).mpr ?_
  show Ws (z1p _ _ [some (.scr (ns.map D.int)),none,none,none,none] []) _
  simp_arith
  have e1:fSl (.scr (ns.map D.int)) none (some 4) []=some (.lst ((ns.take 4).map D.int),[]):=by
    show some (D.lst (zfj (ns.map D.int) none (some ((4:Nat):Int))),([]:M))=_
    unfold zfj
    rw [HT.sIx_none,HT.sIx_nat,List.drop_zero,Nat.sub_zero]
    congr 3
    rw [← List.map_take]
    by_cases h:4≤(ns.map D.int).length
    · rw [Nat.min_eq_left h]
    · rw [Nat.min_eq_right (by omega),List.length_map,List.take_length,List.take_of_length_le (by rw [List.length_map] at h;omega)]
  rw [e1]
  simp_arith
  obtain ⟨v,e0⟩:=zf3 (μ:=[]) (ns:=ns)
  refine zj6 e0 ?_
  simp_arith
  rw [z6f (by simp)]
  simp_arith
  rw [z6i,if_pos (by simp;omega)]
  simp_arith
  refine z6y (fun r Γ μ'=>(∀ x∈r,∃ c:Int,x=.int c)∧∃ o1 o2 o3 o4,Γ=[some (.scr (ns.map D.int)),o1,o2,o3,o4]) _ ⟨?_,_,_,_,_,rfl⟩ ?_ ?_
  · intro x hx
    rcases List.mem_append.mp hx with h | h
    · obtain ⟨c,_,rfl⟩:=List.mem_map.mp h;exact ⟨c,rfl⟩
    · exact ⟨v,by simpa using h⟩
  · rintro x r Γ μ0 ⟨hr,o1,o2,o3,o4,rfl⟩
    obtain ⟨c,rfl⟩:=hr x (by simp)
    simp_arith
    obtain ⟨k,μ1,e1,d1,_,_⟩:=zjv (μ:=μ0) (c:=c)
    refine zj6 e1 ?_
    simp_arith
    rw [z6f (by simp)]
    simp_arith
    refine (z5d d1 (by decide) (by decide)).imp ?_
    rintro _ μ2 ⟨t,rfl,ht,d2,_⟩
    simp_arith
    obtain ⟨z,hz,ez⟩:∃ z:Nat,z≤2∧fIx (.lst [.int 0,.int 0,.int 1,.int 1,.int 1,.int 1,.int 1,.int 2]) (.int (t:Int)) μ2=some (.int (z:Int),μ2):=by
      have:t=0∨t=1∨t=2∨t=3∨t=4∨t=5∨t=6∨t=7:=by omega
      rcases this with rfl | rfl | rfl | rfl | rfl | rfl | rfl | rfl
      · exact ⟨0,by decide,rfl⟩
      · exact ⟨0,by decide,rfl⟩
      · exact ⟨1,by decide,rfl⟩
      · exact ⟨1,by decide,rfl⟩
      · exact ⟨1,by decide,rfl⟩
      · exact ⟨1,by decide,rfl⟩
      · exact ⟨1,by decide,rfl⟩
      · exact ⟨2,by decide,rfl⟩
    rw [ez]
    simp_arith
    refine (z5d d2 (by decide) (by decide)).imp ?_
    rintro _ μ3 ⟨t5,rfl,h5,d3,_⟩
    simp_arith
    refine (z5d d3 (by decide) (by decide)).imp ?_
    rintro _ μ4 ⟨t8,rfl,h8,d4,_⟩
    simp_arith
    rw [z6f (by simp)]
    simp_arith
    obtain ⟨n,n1,n10,en⟩:∃ n:Nat,1≤n∧n≤10∧fIx (.lst [.int (1+(t5:Int)),.int (1+(t8:Int)),.int 10]) (.int (z:Int)) μ4=some (.int (n:Int),μ4):=by
      have:z=0∨z=1∨z=2:=by omega
      rcases this with rfl | rfl | rfl
      · refine ⟨1+t5,by omega,by omega,?_⟩
        rw [Int.natCast_add];rfl
      · refine ⟨1+t8,by omega,by omega,?_⟩
        rw [Int.natCast_add];rfl
      · exact ⟨10,by decide,by decide,rfl⟩
    rw [en]
    simp_arith
    refine (zcr d4 (by omega)).imp ?_
    rintro _ μ5 ⟨r5,as,rfl,hr5,hok,hlen,d5,hrk⟩
    simp_arith
    refine (zgm (C:=C) (CF:=CF) (CT:=CT) n1 n10 hr5 (List.all_eq_true.mpr hok) hlen hc hk).imp ?_
    rintro _ μ6 rfl
    simp_arith [Bool.not_true]
    exact ⟨trivial,fun x hx=>hr x (by simp [hx]),_,_,_,_,rfl⟩
  · rintro Γ μ1 ⟨hr,o1,o2,o3,o4,rfl⟩
    simp_arith
end
@[elab_as_elim] theorem zt5 {α:Type} {P:List α→Prop} (us:List α) (h:us.length=1) (k:∀ a,P [a]):P us:=match us,h with | [a],_=>k a
@[elab_as_elim] theorem zhi {α:Type} {P:List α→Prop} (us:List α) (h:us.length=2) (k:∀ a b,P [a,b]):P us:=match us,h with | [a,b],_=>k a b
@[elab_as_elim] theorem zuv {α:Type} {P:List α→Prop} (us:List α) (h:us.length=3) (k:∀ a b c,P [a,b,c]):P us:=match us,h with | [a,b,c],_=>k a b c
theorem all_mk {l:PySem.W.OpenLaw} {w:World} {K:PySem.W.Frag} {h:Heap} {mg:Str→Option Value} {fa f1 f2 f3 f4 f5 f6 f7 f8 f9 f10 f11 f12 f13 f14 f15 f16 c_NoThing c_TooMany c_NoFit c_NoneYet c_NoText c_NoName c_NoForm c_NoAsk c_HalfError:Addr} {cd_c_NoThing cd_c_TooMany cd_c_NoFit cd_c_HalfError:ClassData} (X:K.In h) (G:h.Ns mainGlobals mg) (hfa:mg "law" = some (.ref fa))
    {od1 an1 od2 an2 od3 an3 od4 an4 od5 an5 od6 an6 od7 an7 od8 an8 od9 an9 od10 an10 od11 an11 od12 an12 od13 an13 od14 an14 od15 an15 od16 an16:Option Addr} {sl1 sl2 sl3 sl4 sl5 sl6 sl7 sl8 sl9 sl10 sl11 sl12 sl13 sl14 sl15 sl16:Array (Option Value)} {oc1 kV1 dc1 pm1 cd1 ct1 oc2 kV2 dc2 pm2 cd2 ct2 oc3 kV3 dc3 pm3 cd3 ct3 oc4 kV4 dc4 pm4 cd4 ct4 oc5 kV5 dc5 pm5 cd5 ct5 oc6 kV6 dc6 pm6 cd6 ct6 oc7 kV7 dc7 pm7 cd7 ct7 oc8 kV8 dc8 pm8 cd8 ct8 oc9 kV9 dc9 pm9 cd9 ct9 oc10 kV10 dc10 pm10 cd10 ct10 oc11 kV11 dc11 pm11 cd11 ct11 oc12 kV12 dc12 pm12 cd12 ct12 oc13 kV13 dc13 pm13 cd13 ct13 oc14 kV14 dc14 pm14 cd14 ct14 oc15 kV15 dc15 pm15 cd15 ct15 oc16 kV16 dc16 pm16 cd16 ct16:Value}
    (a1:PySem.W.nsIn K mainGlobals "check_things" = some (some (.ref f1)))
    (l1:K.lookup f1=some ⟨oc1,od1,.func (PySem.W.fnOf "check_things" "check_things" (z0u (top 11)) (z0o (top 11)) (z05 (top 11)) .none kV1 dc1 pm1 an1 cd1 ct1),sl1⟩) (c1:PySem.W.codeIn K cd1 "check_things" = true) (k1:PySem.W.keepIn K (.ref f1)=true)
    (a2:PySem.W.nsIn K mainGlobals "check_many" = some (some (.ref f2)))
    (l2:K.lookup f2=some ⟨oc2,od2,.func (PySem.W.fnOf "check_many" "check_many" (z0u (top 13)) (z0o (top 13)) (z05 (top 13)) .none kV2 dc2 pm2 an2 cd2 ct2),sl2⟩) (c2:PySem.W.codeIn K cd2 "check_many" = true) (k2:PySem.W.keepIn K (.ref f2)=true)
    (a3:PySem.W.nsIn K mainGlobals "lists_of_liars" = some (some (.ref f3)))
    (l3:K.lookup f3=some ⟨oc3,od3,.func (PySem.W.fnOf "lists_of_liars" "lists_of_liars" (z0u (top 16)) (z0o (top 16)) (z05 (top 16)) .none kV3 dc3 pm3 an3 cd3 ct3),sl3⟩) (c3:PySem.W.codeIn K cd3 "lists_of_liars" = true) (k3:PySem.W.keepIn K (.ref f3)=true)
    (a4:PySem.W.nsIn K mainGlobals "fits_liars" = some (some (.ref f4)))
    (l4:K.lookup f4=some ⟨oc4,od4,.func (PySem.W.fnOf "fits_liars" "fits_liars" (z0u (top 17)) (z0o (top 17)) (z05 (top 17)) .none kV4 dc4 pm4 an4 cd4 ct4),sl4⟩) (c4:PySem.W.codeIn K cd4 "fits_liars" = true) (k4:PySem.W.keepIn K (.ref f4)=true)
    (a5:PySem.W.nsIn K mainGlobals "liars_that_fit" = some (some (.ref f5)))
    (l5:K.lookup f5=some ⟨oc5,od5,.func (PySem.W.fnOf "liars_that_fit" "liars_that_fit" (z0u (top 18)) (z0o (top 18)) (z05 (top 18)) .none kV5 dc5 pm5 an5 cd5 ct5),sl5⟩) (c5:PySem.W.codeIn K cd5 "liars_that_fit" = true) (k5:PySem.W.keepIn K (.ref f5)=true)
    (a6:PySem.W.nsIn K mainGlobals "surely_true" = some (some (.ref f6)))
    (l6:K.lookup f6=some ⟨oc6,od6,.func (PySem.W.fnOf "surely_true" "surely_true" (z0u (top 19)) (z0o (top 19)) (z05 (top 19)) .none kV6 dc6 pm6 an6 cd6 ct6),sl6⟩) (c6:PySem.W.codeIn K cd6 "surely_true" = true) (k6:PySem.W.keepIn K (.ref f6)=true)
    (a7:PySem.W.nsIn K mainGlobals "_law_cell_at" = some (some (.ref f7)))
    (l7:K.lookup f7=some ⟨oc7,od7,.func (PySem.W.fnOf "_law_cell_at" "_law_cell_at" (z0u (top 21)) (z0o (top 21)) (z05 (top 21)) .none kV7 dc7 pm7 an7 cd7 ct7),sl7⟩) (c7:PySem.W.codeIn K cd7 "_law_cell_at" = true) (k7:PySem.W.keepIn K (.ref f7)=true)
    (a8:PySem.W.nsIn K mainGlobals "_law_deck" = some (some (.ref f8)))
    (l8:K.lookup f8=some ⟨oc8,od8,.func (PySem.W.fnOf "_law_deck" "_law_deck" (z0u (top 22)) (z0o (top 22)) (z05 (top 22)) .none kV8 dc8 pm8 an8 cd8 ct8),sl8⟩) (c8:PySem.W.codeIn K cd8 "_law_deck" = true) (k8:PySem.W.keepIn K (.ref f8)=true)
    (a9:PySem.W.nsIn K mainGlobals "_law_take" = some (some (.ref f9)))
    (l9:K.lookup f9=some ⟨oc9,od9,.func (PySem.W.fnOf "_law_take" "_law_take" (z0u (top 23)) (z0o (top 23)) (z05 (top 23)) .none kV9 dc9 pm9 an9 cd9 ct9),sl9⟩) (c9:PySem.W.codeIn K cd9 "_law_take" = true) (k9:PySem.W.keepIn K (.ref f9)=true)
    (a10:PySem.W.nsIn K mainGlobals "_law_sayings" = some (some (.ref f10)))
    (l10:K.lookup f10=some ⟨oc10,od10,.func (PySem.W.fnOf "_law_sayings" "_law_sayings" (z0u (top 24)) (z0o (top 24)) (z05 (top 24)) .none kV10 dc10 pm10 an10 cd10 ct10),sl10⟩) (c10:PySem.W.codeIn K cd10 "_law_sayings" = true) (k10:PySem.W.keepIn K (.ref f10)=true)
    (a11:PySem.W.nsIn K mainGlobals "_law_all_liars" = some (some (.ref f11)))
    (l11:K.lookup f11=some ⟨oc11,od11,.func (PySem.W.fnOf "_law_all_liars" "_law_all_liars" (z0u (top 25)) (z0o (top 25)) (z05 (top 25)) .none kV11 dc11 pm11 an11 cd11 ct11),sl11⟩) (c11:PySem.W.codeIn K cd11 "_law_all_liars" = true) (k11:PySem.W.keepIn K (.ref f11)=true)
    (a12:PySem.W.nsIn K mainGlobals "_law_kind" = some (some (.ref f12)))
    (l12:K.lookup f12=some ⟨oc12,od12,.func (PySem.W.fnOf "_law_kind" "_law_kind" (z0u (top 26)) (z0o (top 26)) (z05 (top 26)) .none kV12 dc12 pm12 an12 cd12 ct12),sl12⟩) (c12:PySem.W.codeIn K cd12 "_law_kind" = true) (k12:PySem.W.keepIn K (.ref f12)=true)
    (a13:PySem.W.nsIn K mainGlobals "_law_same" = some (some (.ref f13)))
    (l13:K.lookup f13=some ⟨oc13,od13,.func (PySem.W.fnOf "_law_same" "_law_same" (z0u (top 27)) (z0o (top 27)) (z05 (top 27)) .none kV13 dc13 pm13 an13 cd13 ct13),sl13⟩) (c13:PySem.W.codeIn K cd13 "_law_same" = true) (k13:PySem.W.keepIn K (.ref f13)=true)
    (a14:PySem.W.nsIn K mainGlobals "_law_refused" = some (some (.ref f14)))
    (l14:K.lookup f14=some ⟨oc14,od14,.func (PySem.W.fnOf "_law_refused" "_law_refused" (z0u (top 28)) (z0o (top 28)) (z05 (top 28)) .none kV14 dc14 pm14 an14 cd14 ct14),sl14⟩) (c14:PySem.W.codeIn K cd14 "_law_refused" = true) (k14:PySem.W.keepIn K (.ref f14)=true)
    (a15:PySem.W.nsIn K mainGlobals "_law_right" = some (some (.ref f15)))
    (l15:K.lookup f15=some ⟨oc15,od15,.func (PySem.W.fnOf "_law_right" "_law_right" (z0u (top 29)) (z0o (top 29)) (z05 (top 29)) .none kV15 dc15 pm15 an15 cd15 ct15),sl15⟩) (c15:PySem.W.codeIn K cd15 "_law_right" = true) (k15:PySem.W.keepIn K (.ref f15)=true)
    (a16:PySem.W.nsIn K mainGlobals "law" = some (some (.ref f16)))
    (l16:K.lookup f16=some ⟨oc16,od16,.func (PySem.W.fnOf "law" "law" (z0u (top 30)) (z0o (top 30)) (z05 (top 30)) .none kV16 dc16 pm16 an16 cd16 ct16),sl16⟩) (c16:PySem.W.codeIn K cd16 "law" = true) (k16:PySem.W.keepIn K (.ref f16)=true)
    {t_MOST_TELLERS:Tok} (z_MOST_TELLERS:PySem.W.nsIn K mainGlobals "MOST_TELLERS" = some (some (.int 10 t_MOST_TELLERS)))
    (z_range:PySem.W.nsIn K mainGlobals "range" = some none)
    (z_len:PySem.W.nsIn K mainGlobals "len" = some none)
    (z_sorted:PySem.W.nsIn K mainGlobals "sorted" = some none)
    (z_all:PySem.W.nsIn K mainGlobals "all" = some none)
    (z_max:PySem.W.nsIn K mainGlobals "max" = some none)
    (z_int:PySem.W.nsIn K mainGlobals "int" = some none)
    (z_isinstance:PySem.W.nsIn K mainGlobals "isinstance" = some none)
    (z_ValueError:PySem.W.nsIn K mainGlobals "ValueError" = some none)
    (z_tuple:PySem.W.nsIn K mainGlobals "tuple" = some none)
    (z_list:PySem.W.nsIn K mainGlobals "list" = some none)
    (z_str:PySem.W.nsIn K mainGlobals "str" = some none)
    (z_bool:PySem.W.nsIn K mainGlobals "bool" = some none)
    (z_enumerate:PySem.W.nsIn K mainGlobals "enumerate" = some none)
    (zc_NoThing:PySem.W.nsIn K mainGlobals "NoThing" = some (some (.ref c_NoThing)))
    (zc_TooMany:PySem.W.nsIn K mainGlobals "TooMany" = some (some (.ref c_TooMany)))
    (zc_NoFit:PySem.W.nsIn K mainGlobals "NoFit" = some (some (.ref c_NoFit)))
    (zc_NoneYet:PySem.W.nsIn K mainGlobals "NoneYet" = some (some (.ref c_NoneYet)))
    (zc_NoText:PySem.W.nsIn K mainGlobals "NoText" = some (some (.ref c_NoText)))
    (zc_NoName:PySem.W.nsIn K mainGlobals "NoName" = some (some (.ref c_NoName)))
    (zc_NoForm:PySem.W.nsIn K mainGlobals "NoForm" = some (some (.ref c_NoForm)))
    (zc_NoAsk:PySem.W.nsIn K mainGlobals "NoAsk" = some (some (.ref c_NoAsk)))
    (zc_HalfError:PySem.W.nsIn K mainGlobals "HalfError" = some (some (.ref c_HalfError)))
    (ks_HalfError:PySem.W.subIn K (.ref c_HalfError) (.type "BaseException")=some true) (kc_HalfError:PySem.W.clsIn K c_HalfError=some cd_c_HalfError) (ky_HalfError:PySem.W.typeIn K (.ref c_HalfError)=some (.type "type"))
    {nm_NoFit qn_NoFit N_NoFit bs_NoFit bm_NoFit hd_NoFit sn_NoFit su_NoFit ab_NoFit co_NoFit dd_NoFit k0_NoFit k1_NoFit k2_NoFit k3_NoFit k5_NoFit:_} (el_NoFit:K.lookup c_NoFit=some (excClassObj nm_NoFit qn_NoFit c_NoFit N_NoFit bs_NoFit bm_NoFit hd_NoFit sn_NoFit su_NoFit ab_NoFit co_NoFit dd_NoFit k0_NoFit k1_NoFit k2_NoFit k3_NoFit k5_NoFit "ValueError.__new__")) (et_NoFit:PySem.W.tailIn K zot bm_NoFit=true) (en_NoFit:PySem.W.nsOkIn K N_NoFit=true) (ez_NoFit:PySem.W.nsIn K N_NoFit "__init__" = some none)
    (xhga_NoFit:PySem.W.findIn K (.ref c_NoFit) "__getattribute__" = some (some (.builtin "BaseException.__getattribute__")))
    (xhgn_NoFit:PySem.W.findIn K (.ref c_NoFit) "__getattr__" = some none)
    (xhmB_NoFit:PySem.W.mroIn K c_NoFit (.type "BaseException")=some true)
    (xha_NoFit:PySem.W.findIn K (.ref c_NoFit) "__class__" = some (some (.builtin "object.__class__")))
    (xhn_NoFit:PySem.W.specialIn K (.builtin "object.__class__") "__get__" = some (some (.builtin "getset_descriptor.__get__")))
    (xhtk_NoFit:PySem.W.takesIn K (.builtin "object.__class__")=some true)
    (xhm_NoFit:PySem.W.mroIn K c_NoFit (.type "object")=some true)
    (xcls_NoFit:PySem.W.clsIn K c_NoFit=some cd_c_NoFit)
    (kq_TooMany_NoFit:PySem.W.kitOne K (.ref c_NoFit) (.ref c_TooMany)=some false)
    (kq_NoFit_NoFit:PySem.W.kitOne K (.ref c_NoFit) (.ref c_NoFit)=some true)
    (kq_NoThing_NoFit:PySem.W.kitOne K (.ref c_NoFit) (.ref c_NoThing)=some false)
    (kq_NoneYet_NoFit:PySem.W.kitOne K (.ref c_NoFit) (.ref c_NoneYet)=some false)
    (kq_NoText_NoFit:PySem.W.kitOne K (.ref c_NoFit) (.ref c_NoText)=some false)
    (kq_NoName_NoFit:PySem.W.kitOne K (.ref c_NoFit) (.ref c_NoName)=some false)
    (kq_NoForm_NoFit:PySem.W.kitOne K (.ref c_NoFit) (.ref c_NoForm)=some false)
    (kq_NoAsk_NoFit:PySem.W.kitOne K (.ref c_NoFit) (.ref c_NoAsk)=some false)
    (kq_ValueError_NoFit:PySem.W.kitOne K (.ref c_NoFit) (.type "ValueError")=some true)
    (kt_HalfError_NoFit:PySem.W.subIn K (.ref c_NoFit) (.ref c_HalfError)=some true)
    {nm_NoThing qn_NoThing N_NoThing bs_NoThing bm_NoThing hd_NoThing sn_NoThing su_NoThing ab_NoThing co_NoThing dd_NoThing k0_NoThing k1_NoThing k2_NoThing k3_NoThing k5_NoThing:_} (el_NoThing:K.lookup c_NoThing=some (excClassObj nm_NoThing qn_NoThing c_NoThing N_NoThing bs_NoThing bm_NoThing hd_NoThing sn_NoThing su_NoThing ab_NoThing co_NoThing dd_NoThing k0_NoThing k1_NoThing k2_NoThing k3_NoThing k5_NoThing "ValueError.__new__")) (et_NoThing:PySem.W.tailIn K zot bm_NoThing=true) (en_NoThing:PySem.W.nsOkIn K N_NoThing=true) (ez_NoThing:PySem.W.nsIn K N_NoThing "__init__" = some none)
    (xhga_NoThing:PySem.W.findIn K (.ref c_NoThing) "__getattribute__" = some (some (.builtin "BaseException.__getattribute__")))
    (xhgn_NoThing:PySem.W.findIn K (.ref c_NoThing) "__getattr__" = some none)
    (xhmB_NoThing:PySem.W.mroIn K c_NoThing (.type "BaseException")=some true)
    (xha_NoThing:PySem.W.findIn K (.ref c_NoThing) "__class__" = some (some (.builtin "object.__class__")))
    (xhn_NoThing:PySem.W.specialIn K (.builtin "object.__class__") "__get__" = some (some (.builtin "getset_descriptor.__get__")))
    (xhtk_NoThing:PySem.W.takesIn K (.builtin "object.__class__")=some true)
    (xhm_NoThing:PySem.W.mroIn K c_NoThing (.type "object")=some true)
    (xcls_NoThing:PySem.W.clsIn K c_NoThing=some cd_c_NoThing)
    (kq_TooMany_NoThing:PySem.W.kitOne K (.ref c_NoThing) (.ref c_TooMany)=some false)
    (kq_NoFit_NoThing:PySem.W.kitOne K (.ref c_NoThing) (.ref c_NoFit)=some false)
    (kq_NoThing_NoThing:PySem.W.kitOne K (.ref c_NoThing) (.ref c_NoThing)=some true)
    (kq_NoneYet_NoThing:PySem.W.kitOne K (.ref c_NoThing) (.ref c_NoneYet)=some false)
    (kq_NoText_NoThing:PySem.W.kitOne K (.ref c_NoThing) (.ref c_NoText)=some false)
    (kq_NoName_NoThing:PySem.W.kitOne K (.ref c_NoThing) (.ref c_NoName)=some false)
    (kq_NoForm_NoThing:PySem.W.kitOne K (.ref c_NoThing) (.ref c_NoForm)=some false)
    (kq_NoAsk_NoThing:PySem.W.kitOne K (.ref c_NoThing) (.ref c_NoAsk)=some false)
    (kq_ValueError_NoThing:PySem.W.kitOne K (.ref c_NoThing) (.type "ValueError")=some true)
    (kt_HalfError_NoThing:PySem.W.subIn K (.ref c_NoThing) (.ref c_HalfError)=some true)
    {nm_TooMany qn_TooMany N_TooMany bs_TooMany bm_TooMany hd_TooMany sn_TooMany su_TooMany ab_TooMany co_TooMany dd_TooMany k0_TooMany k1_TooMany k2_TooMany k3_TooMany k5_TooMany:_} (el_TooMany:K.lookup c_TooMany=some (excClassObj nm_TooMany qn_TooMany c_TooMany N_TooMany bs_TooMany bm_TooMany hd_TooMany sn_TooMany su_TooMany ab_TooMany co_TooMany dd_TooMany k0_TooMany k1_TooMany k2_TooMany k3_TooMany k5_TooMany "ValueError.__new__")) (et_TooMany:PySem.W.tailIn K zot bm_TooMany=true) (en_TooMany:PySem.W.nsOkIn K N_TooMany=true) (ez_TooMany:PySem.W.nsIn K N_TooMany "__init__" = some none)
    (xhga_TooMany:PySem.W.findIn K (.ref c_TooMany) "__getattribute__" = some (some (.builtin "BaseException.__getattribute__")))
    (xhgn_TooMany:PySem.W.findIn K (.ref c_TooMany) "__getattr__" = some none)
    (xhmB_TooMany:PySem.W.mroIn K c_TooMany (.type "BaseException")=some true)
    (xha_TooMany:PySem.W.findIn K (.ref c_TooMany) "__class__" = some (some (.builtin "object.__class__")))
    (xhn_TooMany:PySem.W.specialIn K (.builtin "object.__class__") "__get__" = some (some (.builtin "getset_descriptor.__get__")))
    (xhtk_TooMany:PySem.W.takesIn K (.builtin "object.__class__")=some true)
    (xhm_TooMany:PySem.W.mroIn K c_TooMany (.type "object")=some true)
    (xcls_TooMany:PySem.W.clsIn K c_TooMany=some cd_c_TooMany)
    (kq_TooMany_TooMany:PySem.W.kitOne K (.ref c_TooMany) (.ref c_TooMany)=some true)
    (kq_NoFit_TooMany:PySem.W.kitOne K (.ref c_TooMany) (.ref c_NoFit)=some false)
    (kq_NoThing_TooMany:PySem.W.kitOne K (.ref c_TooMany) (.ref c_NoThing)=some false)
    (kq_NoneYet_TooMany:PySem.W.kitOne K (.ref c_TooMany) (.ref c_NoneYet)=some false)
    (kq_NoText_TooMany:PySem.W.kitOne K (.ref c_TooMany) (.ref c_NoText)=some false)
    (kq_NoName_TooMany:PySem.W.kitOne K (.ref c_TooMany) (.ref c_NoName)=some false)
    (kq_NoForm_TooMany:PySem.W.kitOne K (.ref c_TooMany) (.ref c_NoForm)=some false)
    (kq_NoAsk_TooMany:PySem.W.kitOne K (.ref c_TooMany) (.ref c_NoAsk)=some false)
    (kq_ValueError_TooMany:PySem.W.kitOne K (.ref c_TooMany) (.type "ValueError")=some true)
    (kt_HalfError_TooMany:PySem.W.subIn K (.ref c_TooMany) (.ref c_HalfError)=some true) :
    ∃ fd:FuncData,(∀ (s:Shared) (v:Value),BindsTo s fd ⟨[v],[]⟩ [("script",v)])∧∀ base:Heap,K.In base→base.Ns mainGlobals mg→FnOk l.prog w K mg base CX0 13 fa fd ["script"] (zjm K):=by
  have e:=hfa.symm.trans (PySem.W.mg_of X G a16)
  cases e
  have F1:=z37 (st:=(top 11)) l1 c1 k1
  have b1:=F1.binds (ps:=["many", "answers"]) fun _ _ _ _ _ _ us hl=>zhi us hl fun _ _=>rfl
  have g1:=PySem.W.mg_of X G a1
  have F2:=z37 (st:=(top 13)) l2 c2 k2
  have b2:=F2.binds (ps:=["many", "least", "greatest"]) fun _ _ _ _ _ _ us hl=>zuv us hl fun _ _ _=>rfl
  have g2:=PySem.W.mg_of X G a2
  have F3:=z37 (st:=(top 16)) l3 c3 k3
  have b3:=F3.binds (ps:=["many"]) fun _ _ _ _ _ _ us hl=>zt5 us hl fun _=>rfl
  have g3:=PySem.W.mg_of X G a3
  have F4:=z37 (st:=(top 17)) l4 c4 k4
  have b4:=F4.binds (ps:=["liars", "sayings"]) fun _ _ _ _ _ _ us hl=>zhi us hl fun _ _=>rfl
  have g4:=PySem.W.mg_of X G a4
  have F5:=z37 (st:=(top 18)) l5 c5 k5
  have b5:=F5.binds (ps:=["many", "sayings"]) fun _ _ _ _ _ _ us hl=>zhi us hl fun _ _=>rfl
  have g5:=PySem.W.mg_of X G a5
  have F6:=z37 (st:=(top 19)) l6 c6 k6
  have b6:=F6.binds (ps:=["many", "sayings"]) fun _ _ _ _ _ _ us hl=>zhi us hl fun _ _=>rfl
  have g6:=PySem.W.mg_of X G a6
  have F7:=z37 (st:=(top 21)) l7 c7 k7
  have b7:=F7.binds (ps:=["script", "k"]) fun _ _ _ _ _ _ us hl=>zhi us hl fun _ _=>rfl
  have g7:=PySem.W.mg_of X G a7
  have F8:=z37 (st:=(top 22)) l8 c8 k8
  have b8:=F8.binds (ps:=["cell"]) fun _ _ _ _ _ _ us hl=>zt5 us hl fun _=>rfl
  have g8:=PySem.W.mg_of X G a8
  have F9:=z37 (st:=(top 23)) l9 c9 k9
  have b9:=F9.binds (ps:=["deck", "many"]) fun _ _ _ _ _ _ us hl=>zhi us hl fun _ _=>rfl
  have g9:=PySem.W.mg_of X G a9
  have F10:=z37 (st:=(top 24)) l10 c10 k10
  have b10:=F10.binds (ps:=["deck", "many"]) fun _ _ _ _ _ _ us hl=>zhi us hl fun _ _=>rfl
  have g10:=PySem.W.mg_of X G a10
  have F11:=z37 (st:=(top 25)) l11 c11 k11
  have b11:=F11.binds (ps:=["many", "sayings"]) fun _ _ _ _ _ _ us hl=>zhi us hl fun _ _=>rfl
  have g11:=PySem.W.mg_of X G a11
  have F12:=z37 (st:=(top 26)) l12 c12 k12
  have b12:=F12.binds (ps:=["caught"]) fun _ _ _ _ _ _ us hl=>zt5 us hl fun _=>rfl
  have g12:=PySem.W.mg_of X G a12
  have F13:=z37 (st:=(top 27)) l13 c13 k13
  have b13:=F13.binds (ps:=["found", "due"]) fun _ _ _ _ _ _ us hl=>zhi us hl fun _ _=>rfl
  have g13:=PySem.W.mg_of X G a13
  have F14:=z37 (st:=(top 28)) l14 c14 k14
  have b14:=F14.binds (ps:=["many", "sayings"]) fun _ _ _ _ _ _ us hl=>zhi us hl fun _ _=>rfl
  have g14:=PySem.W.mg_of X G a14
  have F15:=z37 (st:=(top 29)) l15 c15 k15
  have b15:=F15.binds (ps:=["many", "sayings"]) fun _ _ _ _ _ _ us hl=>zhi us hl fun _ _=>rfl
  have g15:=PySem.W.mg_of X G a15
  have F16:=z37 (st:=(top 30)) l16 c16 k16
  have m_range:=PySem.W.mg_none_of X G z_range
  have m_len:=PySem.W.mg_none_of X G z_len
  have m_sorted:=PySem.W.mg_none_of X G z_sorted
  have m_all:=PySem.W.mg_none_of X G z_all
  have m_max:=PySem.W.mg_none_of X G z_max
  have m_int:=PySem.W.mg_none_of X G z_int
  have m_isinstance:=PySem.W.mg_none_of X G z_isinstance
  have m_ValueError:=PySem.W.mg_none_of X G z_ValueError
  have m_tuple:=PySem.W.mg_none_of X G z_tuple
  have m_list:=PySem.W.mg_none_of X G z_list
  have m_str:=PySem.W.mg_none_of X G z_str
  have m_bool:=PySem.W.mg_none_of X G z_bool
  have m_enumerate:=PySem.W.mg_none_of X G z_enumerate
  have g_MOST_TELLERS:mg "MOST_TELLERS" = some (.int 10 t_MOST_TELLERS)∧RelV (.int 10) (.int 10 t_MOST_TELLERS)∧∀ W,DR K W (.int 10) (.int 10):=⟨PySem.W.mg_of X G z_MOST_TELLERS,⟨_,rfl⟩,fun _=>.int _⟩
  have ei_NoFit:ExcIn K c_NoFit:=⟨xhga_NoFit,xhgn_NoFit,xhmB_NoFit,xha_NoFit,xhn_NoFit,xhtk_NoFit,xhm_NoFit,by rw [xcls_NoFit];rfl⟩
  have ei_NoThing:ExcIn K c_NoThing:=⟨xhga_NoThing,xhgn_NoThing,xhmB_NoThing,xha_NoThing,xhn_NoThing,xhtk_NoThing,xhm_NoThing,by rw [xcls_NoThing];rfl⟩
  have ei_TooMany:ExcIn K c_TooMany:=⟨xhga_TooMany,xhgn_TooMany,xhmB_TooMany,xha_TooMany,xhn_TooMany,xhtk_TooMany,xhm_TooMany,by rw [xcls_TooMany];rfl⟩
  have e_NoThing:mg "NoThing" = some (.ref c_NoThing)∧z3g K c_NoThing:=⟨PySem.W.mg_of X G zc_NoThing,_,_,_,_,_,_,_,_,_,_,_,_,_,_,_,_,el_NoThing,et_NoThing,en_NoThing,ez_NoThing⟩
  have e_TooMany:mg "TooMany" = some (.ref c_TooMany)∧z3g K c_TooMany:=⟨PySem.W.mg_of X G zc_TooMany,_,_,_,_,_,_,_,_,_,_,_,_,_,_,_,_,el_TooMany,et_TooMany,en_TooMany,ez_TooMany⟩
  have e_NoFit:mg "NoFit" = some (.ref c_NoFit)∧z3g K c_NoFit:=⟨PySem.W.mg_of X G zc_NoFit,_,_,_,_,_,_,_,_,_,_,_,_,_,_,_,_,el_NoFit,et_NoFit,en_NoFit,ez_NoFit⟩
  have i_TooMany:mg "TooMany" = some (.ref c_TooMany)∧IsX K (.ref c_TooMany) (qOf K (.ref c_TooMany)):=⟨PySem.W.mg_of X G zc_TooMany,zar rfl⟩
  have fq_TooMany_NoFit:(qOf K (.ref c_TooMany)) c_NoFit=some false:=z6t ei_NoFit kq_TooMany_NoFit
  have fq_TooMany_NoThing:(qOf K (.ref c_TooMany)) c_NoThing=some false:=z6t ei_NoThing kq_TooMany_NoThing
  have fq_TooMany_TooMany:(qOf K (.ref c_TooMany)) c_TooMany=some true:=z6t ei_TooMany kq_TooMany_TooMany
  have i_NoFit:mg "NoFit" = some (.ref c_NoFit)∧IsX K (.ref c_NoFit) (qOf K (.ref c_NoFit)):=⟨PySem.W.mg_of X G zc_NoFit,zar rfl⟩
  have fq_NoFit_NoFit:(qOf K (.ref c_NoFit)) c_NoFit=some true:=z6t ei_NoFit kq_NoFit_NoFit
  have fq_NoFit_NoThing:(qOf K (.ref c_NoFit)) c_NoThing=some false:=z6t ei_NoThing kq_NoFit_NoThing
  have fq_NoFit_TooMany:(qOf K (.ref c_NoFit)) c_TooMany=some false:=z6t ei_TooMany kq_NoFit_TooMany
  have i_NoThing:mg "NoThing" = some (.ref c_NoThing)∧IsX K (.ref c_NoThing) (qOf K (.ref c_NoThing)):=⟨PySem.W.mg_of X G zc_NoThing,zar rfl⟩
  have fq_NoThing_NoFit:(qOf K (.ref c_NoThing)) c_NoFit=some false:=z6t ei_NoFit kq_NoThing_NoFit
  have fq_NoThing_NoThing:(qOf K (.ref c_NoThing)) c_NoThing=some true:=z6t ei_NoThing kq_NoThing_NoThing
  have fq_NoThing_TooMany:(qOf K (.ref c_NoThing)) c_TooMany=some false:=z6t ei_TooMany kq_NoThing_TooMany
  have i_NoneYet:mg "NoneYet" = some (.ref c_NoneYet)∧IsX K (.ref c_NoneYet) (qOf K (.ref c_NoneYet)):=⟨PySem.W.mg_of X G zc_NoneYet,zar rfl⟩
  have fq_NoneYet_NoFit:(qOf K (.ref c_NoneYet)) c_NoFit=some false:=z6t ei_NoFit kq_NoneYet_NoFit
  have fq_NoneYet_NoThing:(qOf K (.ref c_NoneYet)) c_NoThing=some false:=z6t ei_NoThing kq_NoneYet_NoThing
  have fq_NoneYet_TooMany:(qOf K (.ref c_NoneYet)) c_TooMany=some false:=z6t ei_TooMany kq_NoneYet_TooMany
  have i_NoText:mg "NoText" = some (.ref c_NoText)∧IsX K (.ref c_NoText) (qOf K (.ref c_NoText)):=⟨PySem.W.mg_of X G zc_NoText,zar rfl⟩
  have fq_NoText_NoFit:(qOf K (.ref c_NoText)) c_NoFit=some false:=z6t ei_NoFit kq_NoText_NoFit
  have fq_NoText_NoThing:(qOf K (.ref c_NoText)) c_NoThing=some false:=z6t ei_NoThing kq_NoText_NoThing
  have fq_NoText_TooMany:(qOf K (.ref c_NoText)) c_TooMany=some false:=z6t ei_TooMany kq_NoText_TooMany
  have i_NoName:mg "NoName" = some (.ref c_NoName)∧IsX K (.ref c_NoName) (qOf K (.ref c_NoName)):=⟨PySem.W.mg_of X G zc_NoName,zar rfl⟩
  have fq_NoName_NoFit:(qOf K (.ref c_NoName)) c_NoFit=some false:=z6t ei_NoFit kq_NoName_NoFit
  have fq_NoName_NoThing:(qOf K (.ref c_NoName)) c_NoThing=some false:=z6t ei_NoThing kq_NoName_NoThing
  have fq_NoName_TooMany:(qOf K (.ref c_NoName)) c_TooMany=some false:=z6t ei_TooMany kq_NoName_TooMany
  have i_NoForm:mg "NoForm" = some (.ref c_NoForm)∧IsX K (.ref c_NoForm) (qOf K (.ref c_NoForm)):=⟨PySem.W.mg_of X G zc_NoForm,zar rfl⟩
  have fq_NoForm_NoFit:(qOf K (.ref c_NoForm)) c_NoFit=some false:=z6t ei_NoFit kq_NoForm_NoFit
  have fq_NoForm_NoThing:(qOf K (.ref c_NoForm)) c_NoThing=some false:=z6t ei_NoThing kq_NoForm_NoThing
  have fq_NoForm_TooMany:(qOf K (.ref c_NoForm)) c_TooMany=some false:=z6t ei_TooMany kq_NoForm_TooMany
  have i_NoAsk:mg "NoAsk" = some (.ref c_NoAsk)∧IsX K (.ref c_NoAsk) (qOf K (.ref c_NoAsk)):=⟨PySem.W.mg_of X G zc_NoAsk,zar rfl⟩
  have fq_NoAsk_NoFit:(qOf K (.ref c_NoAsk)) c_NoFit=some false:=z6t ei_NoFit kq_NoAsk_NoFit
  have fq_NoAsk_NoThing:(qOf K (.ref c_NoAsk)) c_NoThing=some false:=z6t ei_NoThing kq_NoAsk_NoThing
  have fq_NoAsk_TooMany:(qOf K (.ref c_NoAsk)) c_TooMany=some false:=z6t ei_TooMany kq_NoAsk_TooMany
  have i_ValueError:IsX K (.ty "ValueError") (qOf K (.type "ValueError")):=zar rfl
  have fq_ValueError_NoFit:(qOf K (.type "ValueError")) c_NoFit=some true:=z6t ei_NoFit kq_ValueError_NoFit
  have fq_ValueError_NoThing:(qOf K (.type "ValueError")) c_NoThing=some true:=z6t ei_NoThing kq_ValueError_NoThing
  have fq_ValueError_TooMany:(qOf K (.type "ValueError")) c_TooMany=some true:=z6t ei_TooMany kq_ValueError_TooMany
  have t_HalfError:mg "HalfError" = some (.ref c_HalfError)∧∀ C∈([c_NoFit,c_NoThing,c_TooMany]:List Addr),PySem.W.exmOne K (.ref C) (.ref c_HalfError)=some true:=⟨PySem.W.mg_of X G zc_HalfError,fun C hC=>by
    simp only [List.mem_cons,List.not_mem_nil,or_false] at hC
    rcases hC with rfl | rfl | rfl
    · exact zi3 ks_HalfError kc_HalfError ky_HalfError kt_HalfError_NoFit
    · exact zi3 ks_HalfError kc_HalfError ky_HalfError kt_HalfError_NoThing
    · exact zi3 ks_HalfError kc_HalfError ky_HalfError kt_HalfError_TooMany⟩
  refine ⟨PySem.W.fnOf "law" "law" (z0u (top 30)) (z0o (top 30)) (z05 (top 30)) .none kV16 dc16 pm16 an16 cd16 ct16,fun s v=>.of_eq rfl,fun base _ _=>?_⟩
  have D_check_things:DfX l.prog w K mg base 1 "check_things" ["many", "answers"] (spX K (z17 c_NoThing)):=⟨_,_,z84 F1 e_NoThing,b1,k1,g1⟩
  have D_check_many:DfX l.prog w K mg base 1 "check_many" ["many", "least", "greatest"] (spX K (z2t c_NoThing c_TooMany)):=⟨_,_,zam F2 e_NoThing e_TooMany,b2,k2,g2⟩
  have D_lists_of_liars:Df l.prog w K mg base 1 "lists_of_liars" ["many"] (spM K (z0p)):=⟨_,_,z6u F3 m_range m_len m_sorted,b3,k3,g3⟩
  have D_fits_liars:Df l.prog w K mg base 1 "fits_liars" ["liars", "sayings"] (spM K (z1l)):=⟨_,_,zal F4,b4,k4,g4⟩
  have D_liars_that_fit:DfX l.prog w K mg base 2 "liars_that_fit" ["many", "sayings"] (spX K (zf8 c_NoThing c_TooMany)):=⟨_,_,z6v F5 (D_lists_of_liars) (by omega) (D_fits_liars) (by omega) (D_check_things) (by omega) (D_check_many) (by omega) g_MOST_TELLERS,b5,k5,g5⟩
  have D_surely_true:DfX l.prog w K mg base 3 "surely_true" ["many", "sayings"] (spX K (znq c_NoThing c_NoFit c_TooMany)):=⟨_,_,z8w F6 (D_liars_that_fit) (by omega) e_NoFit m_range m_all,b6,k6,g6⟩
  have D_law_cell_at:Df l.prog w K mg base 1 "_law_cell_at" ["script", "k"] (spM K (z0t)):=⟨_,_,z8z F7 m_len,b7,k7,g7⟩
  have D_law_deck:Df l.prog w K mg base 1 "_law_deck" ["cell"] (spM K (z2x)):=⟨_,_,zd1 F8 m_max,b8,k8,g8⟩
  have D_law_take:Df l.prog w K mg base 1 "_law_take" ["deck", "many"] (spM K (z0h)):=⟨_,_,zcy F9,b9,k9,g9⟩
  have D_law_sayings:Df l.prog w K mg base 2 "_law_sayings" ["deck", "many"] (spM K (z1d z0h)):=⟨_,_,z8x F10 (D_law_take) (by omega) m_range m_int,b10,k10,g10⟩
  have D_law_all_liars:Df l.prog w K mg base 1 "_law_all_liars" ["many", "sayings"] (spM K (z0n)):=⟨_,_,z7b F11 m_range m_sorted m_all m_len,b11,k11,g11⟩
  have D_law_kind:Df l.prog w K mg base 1 "_law_kind" ["caught"] (spM K (z1a (qOf K (.ref c_TooMany)) (qOf K (.ref c_NoFit)) (qOf K (.ref c_NoThing)) (qOf K (.ref c_NoneYet)) (qOf K (.ref c_NoText)) (qOf K (.ref c_NoName)) (qOf K (.ref c_NoForm)) (qOf K (.ref c_NoAsk)) (qOf K (.type "ValueError")))):=⟨_,_,zd0 F12 i_TooMany i_NoFit i_NoThing i_NoneYet i_NoText i_NoName i_NoForm i_NoAsk i_ValueError m_isinstance m_ValueError,b12,k12,g12⟩
  have D_law_same:∀ n,Df l.prog w K mg base (1+n) "_law_same" ["found", "due"] (spM K (z2s n)):=fun n=>by
    induction n with
    | zero=>exact ⟨_,_,zny,b13,k13,g13⟩
    | succ n ih=>exact (show Df l.prog w K mg base (1+n+1) "_law_same" ["found", "due"] (spM K (z2s (n+1))) from ⟨_,_,zcz F13 ih (by omega) m_tuple m_list m_isinstance m_len m_range m_all m_str m_bool m_int,b13,k13,g13⟩)
  have D_law_refused:Df l.prog w K mg base 4 "_law_refused" ["many", "sayings"] (spM K (z1e (z1a (qOf K (.ref c_TooMany)) (qOf K (.ref c_NoFit)) (qOf K (.ref c_NoThing)) (qOf K (.ref c_NoneYet)) (qOf K (.ref c_NoText)) (qOf K (.ref c_NoName)) (qOf K (.ref c_NoForm)) (qOf K (.ref c_NoAsk)) (qOf K (.type "ValueError"))) (znq c_NoThing c_NoFit c_TooMany) [c_NoFit,c_NoThing,c_TooMany])):=⟨_,_,z8y F14 (D_law_kind) (by omega) (D_surely_true) (by omega) t_HalfError,b14,k14,g14⟩
  have D_law_right:Df l.prog w K mg base 12 "_law_right" ["many", "sayings"] (spM K (miR (z1a (qOf K (.ref c_TooMany)) (qOf K (.ref c_NoFit)) (qOf K (.ref c_NoThing)) (qOf K (.ref c_NoneYet)) (qOf K (.ref c_NoText)) (qOf K (.ref c_NoName)) (qOf K (.ref c_NoForm)) (qOf K (.ref c_NoAsk)) (qOf K (.type "ValueError"))) c_NoThing c_NoFit c_TooMany [c_NoFit,c_NoThing,c_TooMany])):=⟨_,_,zbm F15 (D_law_all_liars) (by omega) (Df.dn (D_liars_that_fit)) (by omega) (D_law_same 10) (by omega) (D_law_refused) (by omega) (Df.dn (D_surely_true)) (by omega) m_list m_range m_enumerate,b15,k15,g15⟩
  exact zqv (zqo F16 (D_law_cell_at) (by omega) (D_law_deck) (by omega) (D_law_take) (by omega) (D_law_sayings) (by omega) (D_law_right) (by omega)) (zmv (C:=c_NoThing) (CF:=c_NoFit) (CT:=c_TooMany) (cs:=[c_NoFit,c_NoThing,c_TooMany]) (by simp) fun μ k hk=>zgo 2 (.inr (.inl rfl)) hk fq_TooMany_NoFit fq_NoFit_NoFit fq_NoThing_NoFit fq_NoneYet_NoFit fq_NoText_NoFit fq_NoName_NoFit fq_NoForm_NoFit fq_NoAsk_NoFit fq_ValueError_NoFit)
theorem walk {l:PySem.W.OpenLaw} {q:Program} {loose:List Str} {XP:(Str→Option Value)→Heap→Prop} {YP:World→Heap→Prop} {d:DefRec} {K:Params→PySem.W.Frag} (hn:l.most=some 63) (hdf:d.params.defaults=[])
    (hY:∀ (w:World) (h:Heap),YP w h→(K w.params).In h)
    (F:∀ (w:World) (mg:Str→Option Value) (fa:Addr) (h:Heap),(K w.params).In h→h.Ns mainGlobals mg→mg d.name=some (.ref fa) →
      ∃ fd:FuncData,(∀ (s:Shared) (u:Value),BindsTo s fd ⟨[u],[]⟩ [("script",u)])∧∀ base:Heap,(K w.params).In base→base.Ns mainGlobals mg→FnOk l.prog w (K w.params) mg base CX0 13 fa fd ["script"] (zjm (K w.params))) :
    PySem.W.WalkO q loose XP YP l.row.toRowW d [] (fun f vs=>PySem.call f vs) :=
  L2.walk_of (n:=63) (k:=13) (x := "script") (CX:=fun _=>CX0) (sp:=fun w=>zjm (K w.params)) hn (by decide) hdf ⟨rfl,by decide,by decide⟩ hY F (fun _ _ a ns hl hO hS=>⟨a,ns,rfl,hO,hS,hl,fun _=>rfl⟩) fun _ _ _ _ _ z=>z
end Law
open PySem PySem.W PyProof.Rows
set_option maxRecDepth 100000 in
set_option maxHeartbeats 0 in
theorem PySem.Challenge.cw_morethanhalf_k36_liars_that_fit_holds : PySem.Challenge.rw_morethanhalf_k36_liars_that_fit.Holds := by
  w_on;o_law;k_head;(case hw=>w_witness2)
  k_fill
  refine Law.walk (l:=PySem.Challenge.rw_morethanhalf_k36_liars_that_fit) rfl rfl (fun w h Y=>PySem.W.kIn_of Y) ?F
  case F =>
    intro w mg fa h KX G hmg
    refine' Law.all_mk KX G hmg ?a1 ?l1 ?c1 ?k1 ?a2 ?l2 ?c2 ?k2 ?a3 ?l3 ?c3 ?k3 ?a4 ?l4 ?c4 ?k4 ?a5 ?l5 ?c5 ?k5 ?a6 ?l6 ?c6 ?k6 ?a7 ?l7 ?c7 ?k7 ?a8 ?l8 ?c8 ?k8 ?a9 ?l9 ?c9 ?k9 ?a10 ?l10 ?c10 ?k10 ?a11 ?l11 ?c11 ?k11 ?a12 ?l12 ?c12 ?k12 ?a13 ?l13 ?c13 ?k13 ?a14 ?l14 ?c14 ?k14 ?a15 ?l15 ?c15 ?k15 ?a16 ?l16 ?c16 ?k16 ?z_MOST_TELLERS ?z_range ?z_len ?z_sorted ?z_all ?z_max ?z_int ?z_isinstance ?z_ValueError ?z_tuple ?z_list ?z_str ?z_bool ?z_enumerate ?zc_NoThing ?zc_TooMany ?zc_NoFit ?zc_NoneYet ?zc_NoText ?zc_NoName ?zc_NoForm ?zc_NoAsk ?zc_HalfError ?ks_HalfError ?kc_HalfError ?ky_HalfError ?el_NoFit ?et_NoFit ?en_NoFit ?ez_NoFit ?xhga_NoFit ?xhgn_NoFit ?xhmB_NoFit ?xha_NoFit ?xhn_NoFit ?xhtk_NoFit ?xhm_NoFit ?xcls_NoFit ?kq_TooMany_NoFit ?kq_NoFit_NoFit ?kq_NoThing_NoFit ?kq_NoneYet_NoFit ?kq_NoText_NoFit ?kq_NoName_NoFit ?kq_NoForm_NoFit ?kq_NoAsk_NoFit ?kq_ValueError_NoFit ?kt_HalfError_NoFit ?el_NoThing ?et_NoThing ?en_NoThing ?ez_NoThing ?xhga_NoThing ?xhgn_NoThing ?xhmB_NoThing ?xha_NoThing ?xhn_NoThing ?xhtk_NoThing ?xhm_NoThing ?xcls_NoThing ?kq_TooMany_NoThing ?kq_NoFit_NoThing ?kq_NoThing_NoThing ?kq_NoneYet_NoThing ?kq_NoText_NoThing ?kq_NoName_NoThing ?kq_NoForm_NoThing ?kq_NoAsk_NoThing ?kq_ValueError_NoThing ?kt_HalfError_NoThing ?el_TooMany ?et_TooMany ?en_TooMany ?ez_TooMany ?xhga_TooMany ?xhgn_TooMany ?xhmB_TooMany ?xha_TooMany ?xhn_TooMany ?xhtk_TooMany ?xhm_TooMany ?xcls_TooMany ?kq_TooMany_TooMany ?kq_NoFit_TooMany ?kq_NoThing_TooMany ?kq_NoneYet_TooMany ?kq_NoText_TooMany ?kq_NoName_TooMany ?kq_NoForm_TooMany ?kq_NoAsk_TooMany ?kq_ValueError_TooMany ?kt_HalfError_TooMany
    (case zc_NoThing=>k_is)
    (case zc_TooMany=>k_is)
    (case zc_NoFit=>k_is)
    (case zc_NoneYet=>k_is)
    (case zc_NoText=>k_is)
    (case zc_NoName=>k_is)
    (case zc_NoForm=>k_is)
    (case zc_NoAsk=>k_is)
    (case zc_HalfError=>k_is)
    (case a1=>k_is)
    (case l1=>k_is)
    (case c1=>k_is)
    (case k1=>k_is)
    (case a2=>k_is)
    (case l2=>k_is)
    (case c2=>k_is)
    (case k2=>k_is)
    (case a3=>k_is)
    (case l3=>k_is)
    (case c3=>k_is)
    (case k3=>k_is)
    (case a4=>k_is)
    (case l4=>k_is)
    (case c4=>k_is)
    (case k4=>k_is)
    (case a5=>k_is)
    (case l5=>k_is)
    (case c5=>k_is)
    (case k5=>k_is)
    (case a6=>k_is)
    (case l6=>k_is)
    (case c6=>k_is)
    (case k6=>k_is)
    (case a7=>k_is)
    (case l7=>k_is)
    (case c7=>k_is)
    (case k7=>k_is)
    (case a8=>k_is)
    (case l8=>k_is)
    (case c8=>k_is)
    (case k8=>k_is)
    (case a9=>k_is)
    (case l9=>k_is)
    (case c9=>k_is)
    (case k9=>k_is)
    (case a10=>k_is)
    (case l10=>k_is)
    (case c10=>k_is)
    (case k10=>k_is)
    (case a11=>k_is)
    (case l11=>k_is)
    (case c11=>k_is)
    (case k11=>k_is)
    (case a12=>k_is)
    (case l12=>k_is)
    (case c12=>k_is)
    (case k12=>k_is)
    (case a13=>k_is)
    (case l13=>k_is)
    (case c13=>k_is)
    (case k13=>k_is)
    (case a14=>k_is)
    (case l14=>k_is)
    (case c14=>k_is)
    (case k14=>k_is)
    (case a15=>k_is)
    (case l15=>k_is)
    (case c15=>k_is)
    (case k15=>k_is)
    (case a16=>k_is)
    (case l16=>k_is)
    (case c16=>k_is)
    (case k16=>k_is)
    (case z_MOST_TELLERS=>k_is)
    (case z_range=>k_is)
    (case z_len=>k_is)
    (case z_sorted=>k_is)
    (case z_all=>k_is)
    (case z_max=>k_is)
    (case z_int=>k_is)
    (case z_isinstance=>k_is)
    (case z_ValueError=>k_is)
    (case z_tuple=>k_is)
    (case z_list=>k_is)
    (case z_str=>k_is)
    (case z_bool=>k_is)
    (case z_enumerate=>k_is)
    (case ks_HalfError=>k_is)
    (case kc_HalfError=>k_is)
    (case ky_HalfError=>k_is)
    (case el_NoFit=>k_is)
    (case et_NoFit=>kernel_rfl)
    (case en_NoFit=>kernel_rfl)
    (case ez_NoFit=>k_is)
    (case xhga_NoFit=>k_is)
    (case xhgn_NoFit=>k_is)
    (case xhmB_NoFit=>k_is)
    (case xha_NoFit=>k_is)
    (case xhn_NoFit=>k_is)
    (case xhtk_NoFit=>k_is)
    (case xhm_NoFit=>k_is)
    (case xcls_NoFit=>k_is)
    (case kq_TooMany_NoFit=>kit_is)
    (case kq_NoFit_NoFit=>kit_is)
    (case kq_NoThing_NoFit=>kit_is)
    (case kq_NoneYet_NoFit=>kit_is)
    (case kq_NoText_NoFit=>kit_is)
    (case kq_NoName_NoFit=>kit_is)
    (case kq_NoForm_NoFit=>kit_is)
    (case kq_NoAsk_NoFit=>kit_is)
    (case kq_ValueError_NoFit=>kit_is)
    (case kt_HalfError_NoFit=>k_is)
    (case el_NoThing=>k_is)
    (case et_NoThing=>kernel_rfl)
    (case en_NoThing=>kernel_rfl)
    (case ez_NoThing=>k_is)
    (case xhga_NoThing=>k_is)
    (case xhgn_NoThing=>k_is)
    (case xhmB_NoThing=>k_is)
    (case xha_NoThing=>k_is)
    (case xhn_NoThing=>k_is)
    (case xhtk_NoThing=>k_is)
    (case xhm_NoThing=>k_is)
    (case xcls_NoThing=>k_is)
    (case kq_TooMany_NoThing=>kit_is)
    (case kq_NoFit_NoThing=>kit_is)
    (case kq_NoThing_NoThing=>kit_is)
    (case kq_NoneYet_NoThing=>kit_is)
    (case kq_NoText_NoThing=>kit_is)
    (case kq_NoName_NoThing=>kit_is)
    (case kq_NoForm_NoThing=>kit_is)
    (case kq_NoAsk_NoThing=>kit_is)
    (case kq_ValueError_NoThing=>kit_is)
    (case kt_HalfError_NoThing=>k_is)
    (case el_TooMany=>k_is)
    (case et_TooMany=>kernel_rfl)
    (case en_TooMany=>kernel_rfl)
    (case ez_TooMany=>k_is)
    (case xhga_TooMany=>k_is)
    (case xhgn_TooMany=>k_is)
    (case xhmB_TooMany=>k_is)
    (case xha_TooMany=>k_is)
    (case xhn_TooMany=>k_is)
    (case xhtk_TooMany=>k_is)
    (case xhm_TooMany=>k_is)
    (case xcls_TooMany=>k_is)
    (case kq_TooMany_TooMany=>kit_is)
    (case kq_NoFit_TooMany=>kit_is)
    (case kq_NoThing_TooMany=>kit_is)
    (case kq_NoneYet_TooMany=>kit_is)
    (case kq_NoText_TooMany=>kit_is)
    (case kq_NoName_TooMany=>kit_is)
    (case kq_NoForm_TooMany=>kit_is)
    (case kq_NoAsk_TooMany=>kit_is)
    (case kq_ValueError_TooMany=>kit_is)
    (case kt_HalfError_TooMany=>k_is)
