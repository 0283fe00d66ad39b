import PyProof.Rows.All
import Wide.All
import OpenK.AllK
import Wide.FinOn
import Lean
import PyProof.EqAt
import PyProof.EqKinds
import PyProof.TupleCall
import PyProof.NsDelKeeps
import KE.KTryMore
import OpenK.KOwn
import PyProof.ExcBaseAll.ValueError
import PyProof.Rows.CountFlat
import PyProof.Rows.SeqMore2
import PyProof.SumWalkG
import PyProof.FitsBits
import PyProof.Rows.IntMath
import PyProof.P3Eq
import PyProof.ZipIter
import PyProof.TupleIter
import PyProof.TupleOfSeq
import PyProof.TupleOfGen
import PyProof.ListRange
import PyProof.Rows.SeqMore
import PySem.Challenge.RW_morethanhalf_k39_whole_tellers
set_option Elab.async false
set_option linter.all false
set_option compiler.extract_closed false
set_option maxRecDepth 100000
set_option maxHeartbeats 0
theorem bq {p:Prop} (h:¬ p→False):p:=Classical.byContradiction h
namespace L2
open PySem PySem.Spec PyProof.Rows
noncomputable abbrev Key:=Sum Int Str
noncomputable def zrn:Key→Value→Bool
  | .inl k,v=>Value.isInt k v
  | .inr x,v=>Value.isStrOf x v
noncomputable def zvq (w:World):Key→Int
  | .inl k=>hashInt k
  | .inr x=>hashStr w x
theorem z2f:∀ {k:Key} {v:Value},zrn k v=true→(∃ i t,k=Sum.inl i∧v=Value.int i t)∨(∃ x t,k=Sum.inr x∧v=Value.str x t)
  | .inl i,v,h=>by
    obtain ⟨t,e⟩:=Value.isInt_shape (k:=i) (v:=v) h
    exact .inl ⟨i,t,rfl,e⟩
  | .inr x,v,h=>by
    refine bq fun bG=>?_
    obtain ⟨t,e⟩:=Value.isStrOf_shape (x:=x) (v:=v) h
    exact bG (.inr ⟨x,t,rfl,e⟩)
theorem zrm (a b:Int):decide ((Sum.inl a:Key)=Sum.inl b)=(a==b):=by
  by_cases e:a=b
  · subst e;simp
  · have h:¬ (Sum.inl a:Key)=Sum.inl b:=fun q=>e (Sum.inl.inj q)
    rw [decide_eq_false h]
    exact (beq_eq_false_iff_ne.mpr e).symm
theorem zrj (a b:Str):decide ((Sum.inr a:Key)=Sum.inr b)=decide (a=b):=by
  by_cases e:a=b
  · subst e;simp
  · have h:¬ (Sum.inr a:Key)=Sum.inr b:=fun q=>e (Sum.inr.inj q)
    rw [decide_eq_false h,decide_eq_false e]
theorem zrl (a:Int) (b:Str):decide ((Sum.inl a:Key)=Sum.inr b)=false:=decide_eq_false (fun q=>nomatch q)
theorem zrk (a:Str) (b:Int):decide ((Sum.inr a:Key)=Sum.inl b)=false:=decide_eq_false (fun q=>nomatch q)
noncomputable def zic (prog:Program) (w:World):PySem.KeyKind prog w Key where
  is:=zrn
  hash:=zvq w
  inj:=fun v a b ha hb=>by
    rcases z2f ha with ⟨i,t,rfl,rfl⟩ | ⟨x,t,rfl,rfl⟩
    · rcases z2f hb with ⟨j,u,rfl,e⟩ | ⟨y,u,rfl,e⟩
      · injection e with e1 _;rw [e1]
      · exact nomatch e
    · rcases z2f hb with ⟨j,u,rfl,e⟩ | ⟨y,u,rfl,e⟩
      · exact nomatch e
      · injection e with e1 _;rw [e1]
  byValue:=fun k v h=>by
    rcases z2f h with ⟨i,t,rfl,rfl⟩ | ⟨x,t,rfl,rfl⟩ <;> rfl
  pyHash:=fun hv h=>by
    rcases z2f hv with ⟨i,t,rfl,rfl⟩ | ⟨x,t,rfl,rfl⟩
    · exact wpAny_pyHash_int h
    · exact wpAny_pyHash_str h
  eqBool:=fun hu hv h=>by
    rcases z2f hu with ⟨i,t,rfl,rfl⟩ | ⟨x,t,rfl,rfl⟩
    · rcases z2f hv with ⟨j,u,rfl,rfl⟩ | ⟨y,u,rfl,rfl⟩
      · rw [zrm] at h;exact wpAny_eqBool_int h
      · rw [zrl] at h;exact SeqAt.EqAt.int_str i t y u _ _ _ _ h
    · rcases z2f hv with ⟨j,u,rfl,rfl⟩ | ⟨y,u,rfl,rfl⟩
      · rw [zrk] at h;exact SeqAt.EqAt.str_int x t j u _ _ _ _ h
      · rw [zrj] at h;exact wpAny_eqBool_str h
  «strs»:=fun k x t v h=>by
    rcases z2f h with ⟨i,u,rfl,e⟩ | ⟨y,u,rfl,e⟩
    · exact nomatch e
    · injection e with e1 _
      subst e1
      cases v <;> rfl
inductive V where
  | non | bl (b:Bool) | int (i:Int) | str (x:Str) | byt (b:Array UInt8) | flt (b:UInt64) | ref (a:Addr) | ty (n:String)
  deriving DecidableEq
def RelV:V→Value→Prop
  | .non,u=>u=Value.none
  | .bl b,u=>u=Value.bool b
  | .int i,u=>∃ t,u=Value.int i t
  | .str x,u=>∃ t,u=Value.str x t
  | .byt b,u=>∃ t,u=Value.bytes b t
  | .flt b,u=>∃ t,u=Value.float b t
  | .ref a,u=>u=Value.ref a
  | .ty n,u=>u=Value.type n
noncomputable abbrev Vals:List V→List Value→Prop:=Paired RelV
theorem Vals.length {xs:List V} {us:List Value} (r:Vals xs us):xs.length=us.length:=Paired.length r
theorem Vals.get:∀ {xs:List V} {us:List Value} {i:Nat} {x:V},Vals xs us→xs[i]?=some x→∃ u,us[i]?=some u∧RelV x u
  | _,_,_,_,.nil,e=>by simp at e
  | _,_,0,_,.cons r _,e=>by simp at e;subst e;exact ⟨_,rfl,r⟩
  | _,_,i+1,x,.cons _ t,e=>by
    refine bq fun bG=>?_
    obtain ⟨u,h1,h2⟩:=Vals.get (i:=i) (x:=x) t (by simpa using e)
    exact bG (⟨u,by simpa using h1,h2⟩)
theorem Vals.set {x:V} {u:Value} (r:RelV x u):∀ {xs:List V} {us:List Value} (i:Nat),Vals xs us→Vals (xs.set i x) (us.set i u)
  | _,_,_,.nil=>.nil
  | _,_,0,.cons _ t=>.cons r t
  | _,_,i+1,.cons q t=>.cons q (Vals.set r i t)
theorem Vals.append:∀ {xs ys:List V} {us ws:List Value},Vals xs us→Vals ys ws→Vals (xs++ys) (us++ws)
  | _,_,_,_,.nil,s=>s
  | _,_,_,_,.cons r t,s=>.cons r (Vals.append t s)
theorem Vals.take:∀ {xs:List V} {us:List Value} (n:Nat),Vals xs us→Vals (xs.take n) (us.take n)
  | _,_,0,_=>.nil
  | _,_,_+1,.nil=>.nil
  | _,_,n+1,.cons r t=>.cons r (Vals.take n t)
theorem Vals.drop:∀ {xs:List V} {us:List Value} (n:Nat),Vals xs us→Vals (xs.drop n) (us.drop n)
  | _,_,0,r=>r
  | _,_,_+1,.nil=>.nil
  | _,_,n+1,.cons _ t=>Vals.drop n t
def zv2:Option V→Option Value→Prop
  | some v,some u=>RelV v u
  | none,none=>True
  | _,_=>False
def KV {κ:Type}:List (κ×V)→List (κ×Value)→Prop:=Paired fun (p:κ×V) (q:κ×Value)=>p.1=q.1∧RelV p.2 q.2
noncomputable def kV:Key→V
  | .inl i=>.int i
  | .inr x=>.str x
noncomputable abbrev NK:=List Int×Int
section
variable {P:Program} {w:World}
def NkIs (P:Program) (w:World) (h:Heap) (k:NK) (a:Addr):Prop:=∃ (o:Obj) (b:Addr) (t:Tok) (c:Nat),h.get? a=some o∧o.cls=.type "tuple" ∧ o.data=.seq #[.ref b,.int k.2 t] c∧IsTupleKey (intKind P w) h k.1 b
noncomputable def zia (P:Program) (w:World) (k:NK):Int:=reduceHash (Builtin.Tuple.tupleHashOf [tupleKeyHash (intKind P w) k.1,hashInt k.2])
variable {A:Around} {E:Value→Shared→Prop} {s:Shared} {k m:NK} {a b:Addr}
theorem NkIs.ty (x:NkIs P w s.heap k a):s.TypeIs (.ref a) "tuple" := let ⟨o,_,_,_,h1,h2,_⟩:=x;⟨o,h1,h2⟩
theorem NkIs.inj {h:Heap} (x:NkIs P w h k a) (y:NkIs P w h m a):k=m:=by
  obtain ⟨o,b,t,c,h1,_,h3,h4⟩:=x
  obtain ⟨o',b',t',c',g1,_,g3,g4⟩:=y
  rw [h1] at g1;cases g1
  rw [h3] at g3
  obtain ⟨k1,k2⟩:=k
  obtain ⟨m1,m2⟩:=m
  simp only [Data.seq.injEq,Array.mk.injEq,List.cons.injEq,Value.ref.injEq,Value.int.injEq] at g3
  obtain ⟨⟨e1,⟨e2,_⟩,_⟩,_⟩:=g3
  subst e1;subst e2
  have:=h4.inj g4
  simp only at this
  subst this
  rfl
theorem NkIs.keeps {h h':Heap} {d:Addr} {o:Obj} {es ep} (x:NkIs P w h k a) (ho:h.get? d=some o) (hd:o.data=.dict es ep) (hs:Heap.SameBut d h h'):NkIs P w h' k a:=by
  obtain ⟨q,b,t,c,h1,h2,h3,h4⟩:=x
  refine ⟨q,b,t,c,(hs.2 a ?_).trans h1,h2,h3,h4.keeps ho hd hs⟩
  intro e
  subst e
  rw [ho] at h1
  cases h1
  rw [h3] at hd
  cases hd
theorem zoa {Q:Int→Shared→Prop} (hu:A.units+4<cLine) (x:NkIs P w s.heap k a) (h:Q (zia P w k) { s with toks:=s.toks+(k.1.length+3) }):wpAny (model P w) A (pyHash (.ref a)) Q E s:=by
  have hT:=x.ty
  obtain ⟨o,b,t,c,h1,_,h3,h4⟩:=x
  unfold pyHash
  first | unfold pyHashByItsType | skip
  first | refine wpAny_bind (wpAny_cRoomFor_or (.inr (by omega)) ?_) | skip
  refine wpAny_bind (wpAny_specialOf hT F.slot_tuple_hash.lookup ?_)
  show wpAny _ _ (if (some (Value.builtin "tuple.__hash__")==some Value.none)=true then _ else _) Q E s
  rw [if_neg (by rw [beq_builtin_none];exact Bool.false_ne_true)]
  refine wpAny_bind (wpAny_specialOf hT F.slot_tuple_hash.lookup ?_)
  show wpAny _ _ (callSpecialIfBoundUnlessNone? (.ref a) "__hash__" _ >>= _) Q E s
  refine wpAny_bind (wpAny_callSpecialIfBoundUnlessNone?_slot hT F.slot_tuple_hash (wpAny_call_entry F.slot_tuple_hash hT F.entry_tuple_hash ?_ (F.args_tuple_hash_1 _)))
  show wpAny _ _ (Builtin.Tuple.tupleItemsOf (.ref a) >>= _) _ _ s
  refine wpAny_bind (wpAny_tupleItemsOf h1 h3 ?_)
  refine wpAny_bind ?_
  rw [← Array.forIn_toList]
  show wpAny _ _ (forIn [Value.ref b,Value.int k.2 t] (#[]:Array Int) _) _ _ _
  rw [List.forIn_cons]
  refine wpAny_bind (wpAny_bind (wpAny_pyHash_tuple (show A.in1.units<cLine by show A.units+1<cLine;omega) h4 (wpAny_pure ?_)))
  show wpAny _ _ (forIn [Value.int k.2 t] (#[tupleKeyHash (intKind P w) k.1]:Array Int) _) _ _ _
  rw [List.forIn_cons]
  refine wpAny_bind (wpAny_bind ((intKind P w).pyHash (k:=k.2) (by simp [intKind,Value.isInt]) (wpAny_pure ?_)))
  show wpAny _ _ (forIn [] (#[tupleKeyHash (intKind P w) k.1,hashInt k.2]:Array Int) _) _ _ _
  rw [List.forIn_nil]
  refine wpAny_pure ?_
  show wpAny _ _ (retInt (Builtin.Tuple.tupleHashOf [tupleKeyHash (intKind P w) k.1,hashInt k.2])) _ _ _
  refine wpAny_ret_mkInt ?_
  have et:s.toks+(k.1.length+1)+1+1=s.toks+(k.1.length+3):=by omega
  unfold zia reduceHash at h
  generalize Builtin.Tuple.tupleHashOf [tupleKeyHash (intKind P w) k.1,hashInt k.2]=z at h ⊢
  show wpAny _ _ (ite ((decide (-(2:Int) ^ 63≤z)&&decide (z<2 ^ 63))=true) _ _) Q E _
  rw [← et] at h
  by_cases hr:(decide (-(2:Int) ^ 63≤z)&&decide (z<2 ^ 63))=true
  · rw [if_pos hr] at h ⊢
    exact wpAny_pure h
  · rw [if_neg hr] at h ⊢
    exact wpAny_bind (wpAny_rule (wpAny_pure h))
theorem zi9 {Q:Fin→Shared→Prop} (hu:A.units<cLine) (x:NkIs P w s.heap k a) (y:NkIs P w s.heap m b) (h:Q (.done (.ret (.bool (decide (k=m))))) s):wpAny (model P w) A (Builtin.«tuple.__eq__» ⟨[.ref a,.ref b],[]⟩) Q E s:=by
  have hTb:=y.ty
  obtain ⟨o,b1,t,c,h1,_,h3,h4⟩:=x
  obtain ⟨o',b1',t',c',g1,_,g3,g4⟩:=y
  show wpAny _ _ (isInstance (.ref b) (.type "tuple") >>= _) _ _ s
  refine wpAny_bind (wpAny_isInstance hTb isSubtype_tuple_tuple ?_)
  simp only [Bool.not_true,Bool.false_eq_true,if_false]
  refine wpAny_bind (wpAny_tupleItemsOf h1 h3 ?_)
  refine wpAny_bind (wpAny_tupleItemsOf g1 g3 ?_)
  refine wpAny_bind ?_
  show wpAny _ _ (forIn [(Value.ref b1,Value.ref b1'),(Value.int k.2 t,Value.int m.2 t')] ((none:Option PySem.Fin),()) _) _ _ _
  rw [List.forIn_cons]
  refine wpAny_bind (wpAny_bind (wpAny_eqBool_tuple hu h4 g4 ?_))
  by_cases e1:k.1=m.1
  · rw [decide_eq_true e1]
    simp only [Bool.not_true,Bool.false_eq_true,if_false]
    refine wpAny_pure ?_
    show wpAny _ _ (forIn [(Value.int k.2 t,Value.int m.2 t')] ((none:Option PySem.Fin),()) _) _ _ _
    rw [List.forIn_cons]
    refine wpAny_bind (wpAny_bind ((intKind P w).eqBool (a:=k.2) (b:=m.2) (by simp [intKind,Value.isInt]) (by simp [intKind,Value.isInt]) ?_))
    by_cases e2:k.2=m.2
    · have e:k=m:=Prod.ext e1 e2
      rw [decide_eq_true e] at h
      rw [decide_eq_true e2]
      simp only [Bool.not_true,Bool.false_eq_true,if_false]
      refine wpAny_pure ?_
      show wpAny _ _ (forIn [] ((none:Option PySem.Fin),()) _) _ _ _
      rw [List.forIn_nil]
      refine wpAny_pure ?_
      exact wpAny_pure h
    · have e:¬ k=m:=fun z=>e2 (by rw [z])
      rw [decide_eq_false e] at h
      rw [decide_eq_false e2]
      simp only [Bool.not_false,if_true]
      exact wpAny_bind (wpAny_pure (wpAny_pure (wpAny_pure (wpAny_pure h))))
  · have e:¬ k=m:=fun z=>e1 (by rw [z])
    rw [decide_eq_false e] at h
    rw [decide_eq_false e1]
    simp only [Bool.not_false,if_true]
    exact wpAny_bind (wpAny_pure (wpAny_pure (wpAny_pure (wpAny_pure h))))
theorem ztv {Q:Bool→Shared→Prop} (hu:A.units+4<cLine) (x:NkIs P w s.heap k a) (y:NkIs P w s.heap m b) (h:Q (decide (k=m)) s):wpAny (model P w) A (eqBool (.ref a) (.ref b)) Q E s:=by
  unfold eqBool
  try with_reducible refine wpAny_holding ?_
  show wpAny _ _ (ite ((Value.ref a==Value.ref b)=true) _ _) Q E s
  by_cases hab:a=b
  · subst hab
    rw [if_pos (by simp)]
    have:=x.inj y
    subst this
    exact wpAny_bind (wpAny_rule (wpAny_pure (by simpa using h)))
  · rw [if_neg (by simpa using hab)]
    exact wpAny_bind (wpAny_richCompare_same_room (op:=.Eq) x.ty y.ty F.slot_tuple_eq (wpAny_call_entry F.slot_tuple_eq x.ty F.entry_tuple_eq (zi9 (by show A.units+1<cLine;omega) x y ⟨_,rfl,(fun e=>nomatch e),wpAny_truthy_bool h⟩) (F.args_tuple_eq_2 _ _)) (by omega))
theorem zhu {ks:List Int} {n:Nat} {Q:Bool→Shared→Prop} (x:IsTupleKey (intKind P w) s.heap ks a) (h:Q true s):wpAny (model P w) A (eqIsQuiet (n+1) (.ref a)) Q E s:=by
  have hT:=x.typeIs
  obtain ⟨o,items,c,h1,_,h3,h4⟩:=x
  unfold eqIsQuiet
  refine wpAny_bind (wpAny_specialOf hT F.slot_tuple_eq.lookup ?_)
  show wpAny _ _ (isInstance (.ref a) (.type "tuple") >>= _) _ _ s
  refine wpAny_bind (wpAny_isInstance hT isSubtype_tuple_tuple ?_)
  simp only [Bool.not_true,Bool.false_eq_true,if_false]
  refine wpAny_bind (wpAny_seqItems h1 h3 ?_)
  refine wpAny_bind ?_
  show wpAny _ _ (forIn items _ _) _ _ s
  rw [← Array.forIn_toList]
  refine wpAny_forIn_list _ (fun z5t r s'=>r.1=none∧s'=s∧∀ v∈z5t,carriedByValue v=true) _ ?_ ?_ _ _ ⟨rfl,rfl,h4.byValue⟩
  · intro v z5t r s' q
    obtain ⟨_,e,q⟩:=q
    subst e
    rw [eqIsQuiet_byValue _ (q v (by simp))]
    refine wpAny_bind (wpAny_pure ?_)
    simp only [Bool.not_true,Bool.false_eq_true,if_false]
    exact wpAny_pure ⟨rfl,rfl,fun u hu=>q u (by simp [hu])⟩
  · intro r s' q
    obtain ⟨r1,r2⟩:=r
    obtain ⟨e1,e2,_⟩:=q
    cases e1
    subst e2
    exact wpAny_pure h
theorem zl6 {Q:Bool→Shared→Prop} (x:NkIs P w s.heap k a) (h:Q true s):wpAny (model P w) A (eqIsQuiet 8 (.ref a)) Q E s:=by
  have hT:=x.ty
  obtain ⟨o,b,t,c,h1,_,h3,h4⟩:=x
  unfold eqIsQuiet
  refine wpAny_bind (wpAny_specialOf hT F.slot_tuple_eq.lookup ?_)
  show wpAny _ _ (isInstance (.ref a) (.type "tuple") >>= _) _ _ s
  refine wpAny_bind (wpAny_isInstance hT isSubtype_tuple_tuple ?_)
  simp only [Bool.not_true,Bool.false_eq_true,if_false]
  refine wpAny_bind (wpAny_seqItems h1 h3 ?_)
  refine wpAny_bind ?_
  rw [← Array.forIn_toList]
  show wpAny _ _ (forIn [Value.ref b,Value.int k.2 t] _ _) _ _ s
  rw [List.forIn_cons]
  refine wpAny_bind (wpAny_bind (zhu h4 ?_))
  simp only [Bool.not_true,Bool.false_eq_true,if_false]
  refine wpAny_pure ?_
  show wpAny _ _ (forIn [Value.int k.2 t] _ _) _ _ s
  rw [List.forIn_cons,eqIsQuiet_byValue _ rfl]
  refine wpAny_bind (wpAny_bind (wpAny_pure ?_))
  simp only [Bool.not_true,Bool.false_eq_true,if_false]
  refine wpAny_pure ?_
  show wpAny _ _ (forIn [] _ _) _ _ s
  rw [List.forIn_nil]
  exact wpAny_pure (wpAny_pure h)
end
noncomputable def zrb (P:Program) (w:World):HeapKind P w NK where
  is:=NkIs P w
  hash:=zia P w
  draws:=fun k=>k.1.length+3
  room:=fun A=>A.units+4<cLine
  inj:=fun x y=>x.inj y
  keeps:=fun x h1 h2 h3=>x.keeps h1 h2 h3
  pyHash:=fun h x q=>zoa h x q
  eqBool:=fun h x y q=>ztv h x y q
  quiet:=fun x q=>zl6 x q
inductive HO where
  | lst (xs:List V)
  | tup (xs:List V)
  | dK (kvs:List (Key×V)) | dT (kvs:List (NK×V))
  | set (S:Int→Bool) (n:Nat)
  | ins (C dx:Addr) (fs:List (Str×V))
  | own (x:Addr)
  | xd (fs:List (Str×V))
  | met (f x:Addr)
  | rng (lo hi:Int)
  | frz (o:Obj) (u:HO)
  | tbl (ps:Array Value)
  | ext (φ:Heap→Prop)
noncomputable abbrev Hp:=Addr→Option HO
def NKey (H:Hp) (b:Addr) (k:NK):Prop:=∃ c,H b=some (.tup [.ref c,.int k.2])∧H c=some (.tup (k.1.map V.int))
theorem NKey.up {H H':Hp} {b:Addr} {k:NK} (e:NKey H b k) (ht:∀ b xs,H b=some (.tup xs)→H' b=some (.tup xs)):NKey H' b k:=let ⟨c,h1,h2⟩:=e;⟨c,ht _ _ h1,ht _ _ h2⟩
noncomputable def upd (H:Hp) (a:Addr) (o:HO):Hp:=fun b=>if b=a then some o else H b
theorem z15 {H:Hp} {a:Addr} {o:HO}:upd H a o a=some o:=by unfold upd;rw [if_pos rfl]
theorem z0z {H:Hp} {a b:Addr} {o:HO} (h:b≠a):upd H a o b=H b:=by unfold upd;rw [if_neg h]
theorem z0x {H:Hp} {a b:Addr} {o:HO} (h:H a=some o) (h':H b=none):a≠b:=by
  intro e;subst e;rw [h] at h';cases h'
section
variable (P:Program) (w:World)
def ObjOk (H:Hp) (h:Heap) (a:Addr):HO→Prop
  | .lst xs=>xs.length≤sizeLine∧∃ (its:List Value) (n:Nat),Vals xs its∧h.get? a=some { cls:=.type "list",data:=.seq its.toArray n }
  | .tup xs=>xs.length≤sizeLine∧∃ its:List Value,Vals xs its∧IsTup h a its.toArray
  | .dK kvs=>kvs.length≤sizeLine∧(a==sysModules)=false∧∃ vs,KV kvs vs∧h.DictOf (zic P w) a vs
  | .dT kvs=>kvs.length≤sizeLine∧(a==sysModules)=false∧∃ xs:List (NK×Addr×Value),
      Paired (fun (p:NK×V) (q:NK×Addr×Value)=>p.1=q.1∧NKey H q.2.1 p.1∧RelV p.2 q.2.2) kvs xs ∧
      ∃ o es ep,h.get? a=some o∧o.ExactDict∧o.data=.dict es ep∧es.toList=xs.map (entryOfKey (zrb P w))∧(xs.map (·.1)).Nodup
  | .set S n=>h.SetOf (intKind P w) a S n
  | .ins C dx fs=>H dx=some (.own a)∧fs.length≤1000∧dx≠a∧h.get? a=some (PySem.W.instObj C dx) ∧
      ∃ mA,h.Ns1 dx mA∧(∀ f,zv2 (fs.lookup f) (mA f))∧PySem.Within mA (fs.map (·.1))
  | .own _=>∃ o,h.get? a=some o
  | .xd fs=>∃ mA,h.Ns1 a mA∧∀ f,zv2 (fs.lookup f) (mA f)
  | .rng lo hi=>∃ t u v,h.get? a=some { cls:=.type "range",data:=.fields #[.int lo t,.int hi u,.int 1 v] }
  | .frz o u=>h.get? a=some o∧ObjOk H h a u
  | .tbl ps=>h.get? a=some { cls:=.none,data:=.fields ps }
  | .met f x=>h.get? a=some (PySem.W.methodObj (.ref f) (.ref x))
  | .ext φ=>φ h∧(∃ o,h.get? a=some o)∧∀ h1 h2:Heap,φ h1→(∀ o,h1.get? a=some o→h2.get? a=some o)→φ h2
def HOk (H:Hp) (h:Heap):Prop:=∀ a o,H a=some o→ObjOk P w H h a o
end
section
variable {P:Program} {w:World} {H H':Hp} {h h':Heap} {a:Addr} {o:HO}
theorem ObjOk.lt (x:ObjOk P w H h a o):a<h.objs.size:=by
  cases o with
  | lst xs=>obtain ⟨_,_,_,_,e⟩:=x;exact Heap.lt_size e
  | tup xs=>obtain ⟨_,_,_,p⟩:=x;exact p.lt
  | dK kvs=>obtain ⟨_,_,_,_,o,_,_,e,_⟩:=x;exact Heap.lt_size e
  | dT kvs=>obtain ⟨_,_,_,_,o,_,_,e,_⟩:=x;exact Heap.lt_size e
  | set S n=>obtain ⟨o,_,_,_,e,_⟩:=x;exact Heap.lt_size e
  | ins C dx fs=>obtain ⟨_,_,_,e,_⟩:=x;exact Heap.lt_size e
  | own y=>obtain ⟨_,e⟩:=x;exact Heap.lt_size e
  | xd fs=>obtain ⟨_,⟨_,_,_,e,_⟩,_⟩:=x;exact Heap.lt_size e
  | rng lo hi=>obtain ⟨_,_,_,e⟩:=x;exact Heap.lt_size e
  | frz ob u=>obtain ⟨e,_⟩:=x;exact Heap.lt_size e
  | tbl ps=>exact Heap.lt_size (show h.get? a=some _ from x)
  | met f y=>exact Heap.lt_size (show h.get? a=some _ from x)
  | ext φ=>obtain ⟨_,⟨_,e⟩,_⟩:=x;exact Heap.lt_size e
theorem Paired.mapP {α β:Type} {F G:α→β→Prop}:∀ {l₁:List α} {l₂:List β},Paired F l₁ l₂→(∀ a b,F a b→G a b)→Paired G l₁ l₂
  | _,_,.nil,_=>.nil
  | _,_,.cons r t,f=>.cons (f _ _ r) (Paired.mapP t f)
theorem ObjOk.stay (x:ObjOk P w H h a o) (k:∀ b u,(b=a∨H b=some (.own a))→h.get? b=some u→h'.get? b=some u)
    (ho:∀ b,H b=some (.own a)→H' b=some (.own a)) (ht:∀ b xs,H b=some (.tup xs)→H' b=some (.tup xs)):ObjOk P w H' h' a o:=by
  induction o with
  | lst xs=>obtain ⟨z,its,n,r,e⟩:=x;exact ⟨z,its,n,r,k _ _ (.inl rfl) e⟩
  | tup xs=>obtain ⟨z,its,r,ob,e,c⟩:=x;exact ⟨z,its,r,ob,k _ _ (.inl rfl) e,c⟩
  | dK kvs=>obtain ⟨z,y,vs,r,ob,es,ep,e,c⟩:=x;exact ⟨z,y,vs,r,ob,es,ep,k _ _ (.inl rfl) e,c⟩
  | dT kvs =>
    obtain ⟨z,y,xs,r,ob,es,ep,e,c⟩:=x
    exact ⟨z,y,xs,Paired.mapP r fun p q z=>⟨z.1,z.2.1.up ht,z.2.2⟩,ob,es,ep,k _ _ (.inl rfl) e,c⟩
  | set S n=>obtain ⟨ob,es,ep,t,e,c⟩:=x;exact ⟨ob,es,ep,t,k _ _ (.inl rfl) e,c⟩
  | ins C dx fs =>
    obtain ⟨d,z,ne,e,mA,⟨od,es,ep,e2,c⟩,r⟩:=x
    exact ⟨ho _ d,z,ne,k _ _ (.inl rfl) e,mA,⟨od,es,ep,k _ _ (.inr d) e2,c⟩,r⟩
  | own y=>obtain ⟨ob,e⟩:=x;exact ⟨ob,k _ _ (.inl rfl) e⟩
  | xd fs=>obtain ⟨mA,⟨od,es,ep,e,c⟩,r⟩:=x;exact ⟨mA,⟨od,es,ep,k _ _ (.inl rfl) e,c⟩,r⟩
  | rng lo hi=>obtain ⟨t,u,v,e⟩:=x;exact ⟨t,u,v,k _ _ (.inl rfl) e⟩
  | frz ob u ih=>obtain ⟨e,q⟩:=x;exact ⟨k _ _ (.inl rfl) e,ih q⟩
  | tbl ps =>
    have e:h.get? a=some { cls:=.none,data:=.fields ps }:=x
    show h'.get? a=some { cls:=.none,data:=.fields ps }
    exact k a _ (.inl rfl) e
  | met f y =>
    have e:h.get? a=some (PySem.W.methodObj (.ref f) (.ref y)):=x
    show h'.get? a=some (PySem.W.methodObj (.ref f) (.ref y))
    exact k a _ (.inl rfl) e
  | ext φ=>obtain ⟨p,⟨o,e⟩,st⟩:=x;exact ⟨st _ _ p fun o q=>k _ _ (.inl rfl) q,⟨o,k _ _ (.inl rfl) e⟩,st⟩
theorem HOk.lt (x:HOk P w H h) (e:H a=some o):a<h.objs.size:=(x a o e).lt
theorem HOk.fresh (x:HOk P w H h) (e:h.objs.size≤a):H a=none:=by
  cases q:H a with
  | none=>rfl
  | some u=>exact absurd (Nat.lt_of_lt_of_le (x.lt q) e) (Nat.lt_irrefl _)
theorem HOk.kept (x:HOk P w H h) (k:∀ b u,h.get? b=some u→h'.get? b=some u):HOk P w H h':=fun a o e =>
  (x a o e).stay (fun b u _ q=>k b u q) (fun _ q=>q) fun _ _ q=>q
theorem HOk.laid (x:HOk P w H h) (k:∀ b u,h.get? b=some u→h'.get? b=some u) (hp:h.objs.size≤a) (new:ObjOk P w (upd H a o) h' a o):HOk P w (upd H a o) h':=fun b u e=>by
  have hn:=x.fresh hp
  by_cases hb:b=a
  · subst hb;rw [z15] at e;cases e;exact new
  · rw [z0z hb] at e
    exact (x b u e).stay (fun c v _ q=>k c v q) (fun c q=>by rw [z0z (z0x q hn)];exact q) fun c xs q=>by rw [z0z (z0x q hn)];exact q
end
def Rd (H:Hp) (a:Addr) (u:HO):Prop:=H a=some u∨∃ o,H a=some (.frz o u)
theorem Rd.ok {P:Program} {w:World} {H:Hp} {h:Heap} {a:Addr} {u:HO} (r:Rd H a u) (x:HOk P w H h):ObjOk P w H h a u:=by
  rcases r with r | ⟨o,r⟩
  · exact x a u r
  · obtain ⟨_,q⟩:=x a _ r
    exact q
def Mut:Option HO→Prop
  | some (.lst _)=>True
  | some (.dK _)=>True
  | some (.dT _)=>True
  | some (.set _ _)=>True
  | some (.ins _ _ _)=>True
  | some (.ext _)=>True
  | _=>False
section
variable {P:Program} {w:World} {H:Hp} {h h':Heap} {x e:Addr} {o':HO}
theorem HOk.write (ok:HOk P w H h) (mu:Mut (H x)) (he:e=x∨H e=some (.own x)) (k:∀ b u,b≠e→h.get? b=some u→h'.get? b=some u) (heo:∃ u,h'.get? e=some u)
    (new:ObjOk P w (upd H x o') h' x o'):HOk P w (upd H x o') h':=fun b u q=>by
  have nown:∀ c y,H c=some (.own y)→c≠x:=fun c y r z=>by subst z;rw [r] at mu;exact mu
  have ntup:∀ c xs,H c=some (.tup xs)→c≠x:=fun c xs r z=>by subst z;rw [r] at mu;exact mu
  by_cases hb:b=x
  · subst hb;rw [z15] at q;cases q;exact new
  · rw [z0z hb] at q
    by_cases hbe:b=e
    · have q':H b=some (.own x):=by
        rcases he with z | z
        · exact absurd (hbe.trans z) hb
        · rw [hbe];exact z
      rw [q] at q';cases q'
      obtain ⟨v,hv⟩:=heo
      exact ⟨v,by rw [hbe];exact hv⟩
    · refine (ok b u q).stay (fun c v hc r=>k c v ?_ r) (fun c r=>by rw [z0z (nown c b r)];exact r) fun c xs r=>by rw [z0z (ntup c xs r)];exact r
      rcases hc with rfl | hc
      · exact hbe
      · rintro rfl
        rcases he with z | z
        · exact nown c b hc z
        · rw [hc] at z;cases z;exact hb rfl
end
structure Un (fs ex:List Addr) (H H':Hp) (h h':Heap):Prop where
  keep:∀ b o,h.get? b=some o→H b=none→b∉fs→b∉ex→h'.get? b=some o
  slot:∀ b o,h.get? b=some o→H b=none→b∈fs→b∉ex→∃ sl,h'.get? b=some { o with slots:=sl }
  free:∀ b o,h.get? b=some o→H b=none→b∉ex→H' b=none
  there:∀ b o,h.get? b=some o→b∉ex→∃ o',h'.get? b=some o'
  tups:∀ b xs,H b=some (.tup xs)→H' b=some (.tup xs)
  frzs:∀ b o u,H b=some (.frz o u)→H' b=some (.frz o u)
  tbls:∀ b ps,H b=some (.tbl ps)→∃ more,H' b=some (.tbl (ps++more))
section
variable {fs fs' ex ex':List Addr} {H H1 H2:Hp} {h h1 h2 h':Heap} {a x e:Addr} {o:HO}
theorem Un.any (u:Un fs ex H H1 h h1) {b:Addr} {ob:Obj} (q:h.get? b=some ob) (n:H b=none) (hx:b∉ex):∃ sl,h1.get? b=some { ob with slots:=sl }:=by
  by_cases hb:b∈fs
  · exact u.slot b ob q n hb hx
  · exact ⟨ob.slots,u.keep b ob q n hb hx⟩
theorem Un.kept (k:∀ b u,h.get? b=some u→h'.get? b=some u):Un fs ex H H h h' :=
  ⟨fun b ob q _ _ _=>k b ob q,fun b ob q _ _ _=>⟨ob.slots,k b ob q⟩,fun _ _ _ n _=>n,fun b ob q _=>⟨ob,k b ob q⟩,fun _ _ q=>q,fun _ _ _ q=>q,fun _ ps q=>⟨#[],by rw [q];simp⟩⟩
theorem Un.refl:Un fs ex H H h h:=Un.kept fun _ _ q=>q
theorem Un.laid (k:∀ b u,h.get? b=some u→h'.get? b=some u) (hp:h.objs.size≤a) (hn:H a=none):Un fs ex H (upd H a o) h h' where
  keep:=fun b u q _ _ _=>k b u q
  slot:=fun b u q _ _ _=>⟨u.slots,k b u q⟩
  free:=fun b u q n _=>by rw [z0z (Nat.ne_of_lt (Nat.lt_of_lt_of_le (Heap.lt_size q) hp))];exact n
  there:=fun b u q _=>⟨u,k b u q⟩
  tups:=fun b xs q=>by rw [z0z (z0x q hn)];exact q
  frzs:=fun b u xs q=>by rw [z0z (z0x q hn)];exact q
  tbls:=fun b ps q=>⟨#[],by rw [z0z (z0x q hn),q];simp⟩
theorem Un.write (mu:Mut (H x)) (he:e=x∨H e=some (.own x)) (k:∀ b u,b≠e→h.get? b=some u→h'.get? b=some u) (heo:∃ u,h'.get? e=some u):Un fs ex H (upd H x o) h h':=by
  have hx:∀ b,H b=none→b≠x:=fun b n z=>by subst z;rw [n] at mu;exact mu
  have hb:∀ b,H b=none→b≠e:=fun b n z=>by
    subst z
    rcases he with r | r
    · exact hx b n r
    · rw [n] at r;cases r
  have hm:∀ b u,H b=some u→¬ Mut (some u)→b≠x:=fun b u q nm z=>by subst z;rw [q] at mu;exact nm mu
  refine ⟨fun b u q n _ _=>k b u (hb b n) q,fun b u q n _ _=>⟨u.slots,k b u (hb b n) q⟩,fun b u q n _=>by rw [z0z (hx b n)];exact n,fun b u q _=>?_,
    fun b xs q=>by rw [z0z (hm b _ q fun z=>z)];exact q,fun b u xs q=>by rw [z0z (hm b _ q fun z=>z)];exact q,fun b ps q=>⟨#[],by rw [z0z (hm b _ q fun z=>z),q];simp⟩⟩
  by_cases hbe:b=e
  · subst hbe;exact heo
  · exact ⟨u,k b u hbe q⟩
end
noncomputable def trk (h:Heap) (H:Hp):List Addr:=(List.range h.objs.size).filter fun a=>(H a).isSome
noncomputable def zld (h:Heap) (H:Hp):Heap:=PySem.W.hideAll h (trk h H)
theorem ziq (h:Heap) (H:Hp):(zld h H).objs.size=h.objs.size:=PySem.W.hideAll_size _ _
theorem zlc {h:Heap} {H:Hp} {b:Addr} {o:Obj} (e:h.get? b=some o) (n:H b=none):(zld h H).get? b=some o :=
  PySem.W.hideAll_get _ e fun hm=>by
    have q:(H b).isSome=true:=(List.mem_filter.mp hm).2
    rw [n] at q;simp at q
theorem zo7 {h:Heap} {H:Hp} {b:Addr} {o:Obj} (e:(zld h H).get? b=some o):h.get? b=some o∧H b=none:=by
  have e':h.get? b=some o:=PySem.W.of_hideAll (trk h H) e
  refine ⟨e',?_⟩
  cases q:H b with
  | none=>rfl
  | some x =>
    have hm:b∈trk h H:=List.mem_filter.mpr ⟨List.mem_range.mpr (Heap.lt_size e'),by simp [q]⟩
    have z:(zld h H).get? b=none:=PySem.W.hideAll_none (trk h H) hm
    rw [z] at e;cases e
noncomputable def zot (g h:Heap) (L:Addr):List (Addr×Obj):=(List.range h.objs.size).filterMap fun a=>if a=L∨(g.get? a).isSome=true then none else (h.get? a).map fun o=>(a,o)
noncomputable def z5t (g h:Heap) (L d:Addr):List (Addr×Obj):=(zot g h L).filter fun p=>decide (p.1≠d)
structure Mod (K:PySem.W.Frag) (mg:Str→Option Value) (base:Heap):Prop where
  kin:K.In base
  glob:base.Ns mainGlobals mg
  blt:∃ mb,base.Ns builtinsNs mb∧∀ x:Str,x ≠ "__name__" → mb x=bootBuiltins x
  nolimit:base.NoLimit
structure Cx where
  prog:Program
  w:World
  K:PySem.W.Frag
  mg:Str→Option Value
  base:Heap
  A:Around
  N:List Str
  s₀:Shared
  H₀:Hp
  env:Env
  outer:List Env
  stack:List Env
  ex:List Addr
  fn:Str→Bool
  calm:Bool
  pn:List (Addr×Obj)
  xe:Value→Shared→Prop
noncomputable def frs (l:List Env):List Addr:=l.filterMap (·.frame)
noncomputable abbrev Cx.fs (X:Cx):List Addr:=frs X.outer
def Vis (sc:Scope) (x:Str):Prop:=sc.names.lookup x=some .local∨sc.names.lookup x=some .cell∨sc.names.lookup x=some .free
def Loc (sc:Scope) (x:Str):Prop:=sc.names.lookup x=some .local∨sc.names.lookup x=some .cell
noncomputable def zwc (env:Env) (h:Heap) (m:Str→Option Value) (x:Str) (u:Value):Prop :=
  (env.kindOf x=some .local∧m x=some u)∨((env.kindOf x=some .cell∨env.kindOf x=some .free)∧∃ c,env.cells.lookup x=some c∧h.IsCell c (some u))
structure Cx.Ok (X:Cx):Prop where
  mod:Mod X.K X.mg X.base
  kind:X.env.scope.kind=.function
  glob:X.env.globals=mainGlobals
  blt:X.env.builtins=builtinsNs
  above:X.s₀.heap.objs.size≤X.env.locals
  inj:∀ x y c,X.env.cells.lookup x=some c→X.env.cells.lookup y=some c→x=y
  has:∀ x,(X.env.kindOf x=some .cell∨X.env.kindOf x=some .free)→∃ c,X.env.cells.lookup x=some c
  cab:∀ x c,X.fn x=true→X.env.cells.lookup x=some c→X.s₀.heap.objs.size≤c
  hd:X.calm=true→X.A.handled=none
  frames:X.A.frames=some X.stack
  stk:X.stack=X.outer∨(X.stack=X.env::X.outer∧X.env.frame=some X.env.locals)
  exf:∀ b∈X.ex,b≠X.env.locals∧∀ x c,X.env.cells.lookup x=some c→c≠b
  bs:∀ b o,X.base.get? b=some o→X.s₀.heap.get? b=some o∧X.H₀ b=none
  bsz:X.base.objs.size≤X.s₀.heap.objs.size
  noex:∀ b o,X.base.get? b=some o→b∉X.ex
  exfs:∀ b∈X.ex,b∉X.fs
  funs:X.s₀.heap.FunFrames X.base X.outer
  frf:∀ b∈X.fs,X.H₀ b=none
structure Inv (X:Cx) (pins:List (Addr×Obj)) (σ:List (Option V)) (H:Hp) (s:Shared):Prop where
  ok:X.Ok
  os:s.os=X.s₀.os
  bare:AllBare s.gens
  base:Un X.fs X.ex X.H₀ H X.s₀.heap s.heap
  loc:∃ m,s.heap.Ns X.env.locals m∧∀ (i:Nat) (x:Str) (v:V),X.N[i]?=some x→σ[i]?=some (some v)→Vis X.env.scope x→∃ u,RelV v u∧zwc X.env s.heap m x u
  cell:∀ x c,X.env.cells.lookup x=some c→∃ v,s.heap.IsCell c v
  free:H X.env.locals=none
  freeC:∀ x c,X.env.cells.lookup x=some c→H c=none
  pin:∀ p∈X.pn++pins,s.heap.get? p.1=some p.2∧H p.1=none∧p.1≠X.env.locals∧p.1∉X.fs∧∀ v,p.2.data≠.cell v
  hok:HOk X.prog X.w H s.heap
  len:σ.length=X.N.length
section
variable {X:Cx} {pins:List (Addr×Obj)} {σ:List (Option V)} {H H':Hp} {s:Shared} {h':Heap}
theorem Cx.Ok.nofr (ok:X.Ok) {b:Addr} {o:Obj} (e:X.base.get? b=some o):b∉X.fs:=fun hb=>by
  have:=(ok.funs.mem hb).1
  rw [e] at this;cases this
theorem Inv.bs (I:Inv X pins σ H s):∀ b o,X.base.get? b=some o→s.heap.get? b=some o∧H b=none:=fun b o e =>
  ⟨I.base.keep b o (I.ok.bs b o e).1 (I.ok.bs b o e).2 (I.ok.nofr e) (I.ok.noex b o e),I.base.free b o (I.ok.bs b o e).1 (I.ok.bs b o e).2 (I.ok.noex b o e)⟩
theorem Inv.bk (I:Inv X pins σ H s):∀ b o,X.base.get? b=some o→s.heap.get? b=some o:=fun b o e=>(I.bs b o e).1
theorem Inv.mod (I:Inv X pins σ H s):Mod X.K X.mg X.base:=I.ok.mod
theorem Inv.kIn (I:Inv X pins σ H s):X.K.In s.heap:=I.ok.mod.kin.keeps I.bk
theorem Inv.lt (I:Inv X pins σ H s):X.env.locals<s.heap.objs.size:=let ⟨_,hn,_⟩:=I.loc;hn.lt
theorem Inv.sz (I:Inv X pins σ H s):X.s₀.heap.objs.size≤s.heap.objs.size:=Nat.le_trans I.ok.above (Nat.le_of_lt I.lt)
theorem Inv.nofs (I:Inv X pins σ H s) {a:Addr} (h:s.heap.objs.size≤a):a∉X.fs:=fun hb=>by
  refine bq fun bG=>?_
  obtain ⟨_,o,ho,_⟩:=I.ok.funs.mem hb
  exact bG (absurd (Nat.lt_of_lt_of_le (Heap.lt_size ho) (Nat.le_trans I.sz h)) (Nat.lt_irrefl _))
theorem Inv.cne (I:Inv X pins σ H s):∀ x c,X.env.cells.lookup x=some c→c≠X.env.locals:=fun x c e z=>by
  obtain ⟨v,o,ho,hd⟩:=I.cell x c e
  obtain ⟨m,⟨o',es,ep,ho',hd',_⟩,_⟩:=I.loc
  rw [z,ho'] at ho;cases ho;rw [hd'] at hd;cases hd
theorem Inv.funs (I:Inv X pins σ H s):s.heap.FunFrames X.base X.outer:=by
  have all:∀ (l:List Env),(∀ b∈frs l,b∈X.fs)→X.s₀.heap.FunFrames X.base l→s.heap.FunFrames X.base l:=by
    intro l
    induction l with
    | nil=>intro _ _;trivial
    | cons env r ih =>
      intro hs hl
      obtain ⟨hk,⟨L,o,hf,hn,ho,hd⟩,hr⟩:=hl
      have hL:L∈X.fs:=hs L (by unfold frs;rw [List.filterMap_cons,hf];exact List.mem_cons_self)
      obtain ⟨sl,e⟩:=I.base.slot L o ho (I.ok.frf L hL) hL fun z=>I.ok.exfs L z hL
      exact ⟨hk,⟨L,_,hf,hn,e,hd⟩,ih (fun b hb=>hs b (by unfold frs;rw [List.filterMap_cons,hf];exact List.mem_cons_of_mem _ hb)) hr⟩
  exact all X.outer (fun _ hb=>hb) I.ok.funs
theorem Inv.stack (I:Inv X pins σ H s):s.heap.FunFrames X.base X.stack:=by
  rcases I.ok.stk with e | ⟨e,hf⟩
  · rw [e];exact I.funs
  · rw [e]
    obtain ⟨m,hn,_⟩:=I.loc
    refine .cons (by rw [I.ok.kind];decide) hf hn ?_ I.funs
    exact Heap.get?_none_of_le (Nat.le_trans I.ok.bsz I.ok.above)
theorem Inv.stkSub (I:Inv X pins σ H s):∀ b∈frs X.stack,b∈X.env.locals::X.fs:=fun b hb=>by
  rcases I.ok.stk with e | ⟨e,hf⟩
  · rw [e] at hb;exact List.mem_cons_of_mem _ hb
  · rw [e] at hb
    unfold frs at hb
    rw [List.filterMap_cons,hf] at hb
    exact hb
theorem Inv.stkFree (I:Inv X pins σ H s):∀ b∈frs X.stack,H b=none:=fun b hb=>by
  rcases List.mem_cons.mp (I.stkSub b hb) with e | hb
  · rw [e];exact I.free
  · obtain ⟨_,o,ho,_⟩:=I.ok.funs.mem hb
    exact I.base.free b o ho (I.ok.frf b hb) fun z=>I.ok.exfs b z hb
theorem Inv.step {g':Array GenState} {t':Nat} {d':Drawn} {ch:List Addr} (I:Inv X pins σ H s)
    (hch:∀ b∈ch,(b∈X.ex∨X.s₀.heap.objs.size≤b)∧b≠X.env.locals∧(∀ x c,X.env.cells.lookup x=some c→c≠b)∧∀ p∈X.pn++pins,p.1≠b)
    (keep:∀ b o,b≠X.env.locals→b∉X.fs→b∉ch→s.heap.get? b=some o→H b=none→h'.get? b=some o)
    (slot:∀ b o,b≠X.env.locals→b∈X.fs→b∉ch→s.heap.get? b=some o→H b=none→∃ sl,h'.get? b=some { o with slots:=sl }) (free:∀ b o,b∉ch→s.heap.get? b=some o→H b=none→H' b=none)
    (there:∀ b o,b∉ch→s.heap.get? b=some o→∃ o',h'.get? b=some o')
    (tups:∀ b xs,H b=some (.tup xs)→H' b=some (.tup xs)) (frzs:∀ b o u,H b=some (.frz o u)→H' b=some (.frz o u)) (tbls:∀ b ps,H b=some (.tbl ps)→∃ more,H' b=some (.tbl (ps++more)))
    (ns:∀ m,s.heap.Ns X.env.locals m→h'.Ns X.env.locals m) (hok:HOk X.prog X.w H' h') (hg:AllBare g') :
    Inv X pins σ H' { s with heap:=h',gens:=g',drawn:=d',toks:=t' }:=by
  have neL:∀ b o,X.s₀.heap.get? b=some o→b≠X.env.locals:=fun b o e=>Nat.ne_of_lt (Nat.lt_of_lt_of_le (Heap.lt_size e) I.ok.above)
  have neC:∀ b o,X.s₀.heap.get? b=some o→b∉X.ex→b∉ch:=fun b o e hx hb=>by
    rcases (hch b hb).1 with z | z
    · exact hx z
    · exact absurd (Nat.lt_of_lt_of_le (Heap.lt_size e) z) (Nat.lt_irrefl _)
  have cellK:∀ x c,X.env.cells.lookup x=some c→∀ v,s.heap.IsCell c v→h'.IsCell c v:=fun x c e v ⟨o,ho,hd⟩=>by
    have nch:c∉ch:=fun z=>(hch c z).2.2.1 x c e rfl
    by_cases hc:c∈X.fs
    · obtain ⟨sl,q⟩:=slot c o (I.cne x c e) hc nch ho (I.freeC x c e)
      exact ⟨_,q,hd⟩
    · exact ⟨o,keep c o (I.cne x c e) hc nch ho (I.freeC x c e),hd⟩
  refine ⟨I.ok,I.os,hg,⟨fun b o e n hb hx=>?_,fun b o e n hb hx=>?_,fun b o e n hx=>?_,fun b o e hx=>?_,fun b xs e=>tups b xs (I.base.tups b xs e),fun b o xs e=>frzs b o xs (I.base.frzs b o xs e),fun b ps e=>?_⟩,?_,fun x c e=>?_,?_,fun x c e=>?_,fun p hp=>?_,hok,I.len⟩
  · exact keep b o (neL b o e) hb (neC b o e hx) (I.base.keep b o e n hb hx) (I.base.free b o e n hx)
  · obtain ⟨sl,e1⟩:=I.base.slot b o e n hb hx
    refine bq fun bG=>?_
    obtain ⟨sl',e2⟩:=slot b _ (neL b o e) hb (neC b o e hx) e1 (I.base.free b o e n hx)
    exact bG (⟨sl',e2⟩)
  · obtain ⟨o',e1⟩:=I.base.there b o e hx
    exact free b o' (neC b o e hx) e1 (I.base.free b o e n hx)
  · obtain ⟨o',e1⟩:=I.base.there b o e hx
    exact there b o' (neC b o e hx) e1
  · obtain ⟨m1,e1⟩:=I.base.tbls b ps e
    refine bq fun bG=>?_
    obtain ⟨m2,e2⟩:=tbls b _ e1
    exact bG (⟨m1++m2,by rw [e2,Array.append_assoc]⟩)
  · obtain ⟨m,hn,hl⟩:=I.loc
    refine ⟨m,ns m hn,fun i x v e1 e2 e3=>?_⟩
    refine bq fun bG=>?_
    obtain ⟨u,r,l⟩:=hl i x v e1 e2 e3
    refine bG (⟨u,r,?_⟩)
    rcases l with l | ⟨k,c,e,z⟩
    · exact .inl l
    · exact .inr ⟨k,c,e,cellK x c e _ z⟩
  · obtain ⟨v,z⟩:=I.cell x c e
    exact ⟨v,cellK x c e v z⟩
  · obtain ⟨m,⟨o,_,_,ho,_⟩,_⟩:=I.loc
    exact free _ o (fun z=>(hch _ z).2.1 rfl) ho I.free
  · obtain ⟨v,o,ho,hd⟩:=I.cell x c e
    exact free c o (fun z=>(hch c z).2.2.1 x c e rfl) ho (I.freeC x c e)
  · obtain ⟨e,n,ne,nf,d⟩:=I.pin p hp
    have nch:p.1∉ch:=fun z=>(hch p.1 z).2.2.2 p hp rfl
    exact ⟨keep p.1 p.2 ne nf nch e n,free p.1 p.2 nch e n,ne,nf,d⟩
theorem Inv.un {t':Nat} (I:Inv X pins σ H s) (u:Un X.fs [] H H' s.heap h') (hok:HOk X.prog X.w H' h'):Inv X pins σ H' { s with heap:=h',toks:=t' }:=by
  obtain ⟨m,⟨o,es,ep,ho,r⟩,_⟩:=id I.loc
  obtain ⟨sl,hL⟩:=u.any ho I.free (by simp)
  exact I.step (g':=s.gens) (d':=s.drawn) (ch:=[]) (fun _ z=>nomatch z) (fun b o _ hb _ e n=>u.keep b o e n hb (by simp)) (fun b o _ hb _ e n=>u.slot b o e n hb (by simp)) (fun b o _ e n=>u.free b o e n (by simp)) (fun b o _ e=>u.there b o e (by simp)) u.tups u.frzs u.tbls (fun m' hm=>by
    obtain ⟨o',es',ep',ho',r'⟩:=hm
    rw [ho] at ho';cases ho'
    exact ⟨_,es',ep',hL,r'⟩) hok I.bare
theorem Inv.call {g':Array GenState} {t':Nat} {d':Drawn} {ch:List Addr} (I:Inv X pins σ H s) (u:Un (frs X.stack) ch H H' s.heap h') (hok:HOk X.prog X.w H' h') (hg:AllBare g')
    (hch:∀ b∈ch,(b∈X.ex∨X.s₀.heap.objs.size≤b)∧b≠X.env.locals∧(∀ x c,X.env.cells.lookup x=some c→c≠b)∧∀ p∈X.pn++pins,p.1≠b) :
    Inv X pins σ H' { s with heap:=h',gens:=g',drawn:=d',toks:=t' }:=by
  obtain ⟨m,⟨o,es,ep,ho,r⟩,_⟩:=id I.loc
  obtain ⟨sl,hL⟩:=u.any ho I.free fun z=>(hch _ z).2.1 rfl
  exact I.step (ch:=ch) hch (fun b o hL hb hc e n=>u.keep b o e n (fun z=>(List.mem_cons.mp (I.stkSub b z)).elim hL hb) hc) (fun b o _ _ hc e n=>u.any e n hc) (fun b o hc e n=>u.free b o e n hc) (fun b o hc e=>u.there b o e hc) u.tups u.frzs u.tbls (fun m' hm=>by
    obtain ⟨o',es',ep',ho',r'⟩:=hm
    rw [ho] at ho';cases ho'
    exact ⟨_,es',ep',hL,r'⟩) hok hg
theorem Inv.turned {t':Nat} {it:Addr} (I:Inv X pins σ H s) (k:∀ b o,b≠it→s.heap.get? b=some o→h'.get? b=some o) (hn:H it=none) (hL:it≠X.env.locals)
    (h1:it∈X.ex∨X.s₀.heap.objs.size≤it) (h2:∀ x c,X.env.cells.lookup x=some c→c≠it) (h3:∀ p∈X.pn++pins,p.1≠it):Inv X pins σ H { s with heap:=h',toks:=t' }:=by
  have nit:∀ b u,H b=some u→b≠it:=fun b u e z=>by rw [z,hn] at e;cases e
  refine I.step (g':=s.gens) (d':=s.drawn) (ch:=[it]) (fun b hb=>?_) (fun b o _ _ hc e _=>k b o (fun z=>hc (by simp [z])) e) (fun b o _ _ hc e _=>⟨o.slots,k b o (fun z=>hc (by simp [z])) e⟩) (fun _ _ _ _ n=>n)
    (fun b o hc e=>⟨o,k b o (fun z=>hc (by simp [z])) e⟩) (fun _ _ e=>e) (fun _ _ _ e=>e) (fun b ps e=>⟨#[],by rw [e];simp⟩) (fun m hm=>?_) (fun b u e=>?_) I.bare
  · have e:b=it:=by simpa using hb
    subst e
    exact ⟨h1,hL,h2,h3⟩
  · obtain ⟨o,es,ep,ho,r⟩:=hm
    exact ⟨o,es,ep,k _ o (Ne.symm hL) ho,r⟩
  · refine (I.hok b u e).stay (fun c v hc q=>k c v ?_ q) (fun _ q=>q) fun _ _ q=>q
    rcases hc with z | z
    · rw [z];exact nit b u e
    · exact nit c _ z
theorem Inv.tok (I:Inv X pins σ H s) (t:Nat):Inv X pins σ H { s with toks:=t }:=I.un (h':=s.heap) (t':=t) Un.refl I.hok
theorem Inv.kept {t':Nat} (I:Inv X pins σ H s) (k:∀ b u,s.heap.get? b=some u→h'.get? b=some u):Inv X pins σ H { s with heap:=h',toks:=t' }:=I.un (Un.kept k) (I.hok.kept k)
theorem Inv.laid {a:Addr} {o:HO} {t':Nat} (I:Inv X pins σ H s) (k:∀ b u,s.heap.get? b=some u→h'.get? b=some u) (hp:s.heap.objs.size≤a) (new:ObjOk X.prog X.w (upd H a o) h' a o) :
    Inv X pins σ (upd H a o) { s with heap:=h',toks:=t' }:=I.un (Un.laid k hp (I.hok.fresh hp)) (I.hok.laid k hp new)
theorem Inv.write {x e:Addr} {o:HO} {t':Nat} (I:Inv X pins σ H s) (mu:Mut (H x)) (he:e=x∨H e=some (.own x)) (k:∀ b u,b≠e→s.heap.get? b=some u→h'.get? b=some u) (heo:∃ u,h'.get? e=some u)
    (new:ObjOk X.prog X.w (upd H x o) h' x o):Inv X pins σ (upd H x o) { s with heap:=h',toks:=t' }:=I.un (Un.write mu he k heo) (I.hok.write mu he k heo new)
theorem Inv.pins_of {pins':List (Addr×Obj)} (I:Inv X pins σ H s) (h:∀ p∈pins',s.heap.get? p.1=some p.2∧H p.1=none∧p.1≠X.env.locals∧p.1∉X.fs∧∀ v,p.2.data≠.cell v):Inv X pins' σ H s :=
  ⟨I.ok,I.os,I.bare,I.base,I.loc,I.cell,I.free,I.freeC,fun p hp=>(List.mem_append.mp hp).elim (fun z=>I.pin p (List.mem_append_left _ z)) (h p),I.hok,I.len⟩
theorem zf3 {N:List Str} (hN:N.Nodup) {i j:Nat} {x:Str} (a:N[i]?=some x) (b:N[j]?=some x):i=j:=by
  refine bq fun bG=>?_
  obtain ⟨h1,e1⟩:=List.getElem?_eq_some_iff.mp a
  obtain ⟨h2,e2⟩:=List.getElem?_eq_some_iff.mp b
  exact bG ((List.getElem_inj hN).mp (e1.trans e2.symm))
theorem zcq {M:Model} {A:Around} {E:Value→Shared→Prop} {i:Nat} {x:Str} {v:V} {u:Value} {Q:Unit→Shared→Prop} (I:Inv X pins σ H s) (hN:X.N.Nodup) (hi:X.N[i]?=some x) (hx:Loc X.env.scope x) (r:RelV v u)
    (h:∀ s',Inv X pins (σ.set i (some v)) H s'→(∃ a,Heap.SameBut a s.heap s'.heap∧(a=X.env.locals∨X.env.cells.lookup x=some a))→Q () s') (hf:X.fn x=true∨X.env.scope.names.lookup x=some .local:=by first | exact .inl rfl | exact .inr rfl | assumption):wpAny M A (storeName X.env x u) Q E s:=by
  obtain ⟨m,hn,hl⟩:=id I.loc
  have hcls:(X.env.scope.kind==.class||(X.env.scope.kind==.module&&X.env.locals != X.env.globals))=false:=by rw [I.ok.kind];rfl
  have hiσ:i<σ.length:=by rw [I.len];exact (List.getElem?_eq_some_iff.mp hi).1
  have cne:=I.cne
  have tracked:∀ {a:Addr} {h':Heap},(∃ o,s.heap.get? a=some o∧H a=none)→Heap.SameBut a s.heap h'→HOk X.prog X.w H h':=fun {a h'} ha hs b ob e=>by
    refine bq fun bG=>?_
    obtain ⟨_,_,hfree⟩:=ha
    refine bG ((I.hok b ob e).stay (fun c w' hc q=>(hs.2 c ?_).trans q) (fun _ q=>q) fun _ _ q=>q)
    rintro rfl
    rcases hc with rfl | hc
    · rw [hfree] at e;cases e
    · rw [hfree] at hc;cases hc
  rcases hx with hk | hk
  · refine wpAny_storeName_local hk hn (fun h' hn' hs=>?_) hcls
    refine bq fun bG=>?_
    obtain ⟨oL,_,_,hoL,_⟩:=id hn
    refine bG (h _ ⟨I.ok,I.os,I.bare,⟨fun b o e n hb hx=>?_,fun b o e n hb hx=>?_,I.base.free,fun b o e hx=>?_,I.base.tups,I.base.frzs,I.base.tbls⟩,⟨_,hn',fun j y v' e1 e2 e3=>?_⟩,fun y c e=>?_,I.free,I.freeC,fun p hp=>?_,tracked ⟨oL,hoL,I.free⟩ hs,by simpa using I.len⟩ ⟨_,hs,.inl rfl⟩)
    · exact (hs.2 b (Nat.ne_of_lt (Nat.lt_of_lt_of_le (Heap.lt_size e) I.ok.above))).trans (I.base.keep b o e n hb hx)
    · obtain ⟨sl,e1⟩:=I.base.slot b o e n hb hx
      exact ⟨sl,(hs.2 b (Nat.ne_of_lt (Nat.lt_of_lt_of_le (Heap.lt_size e) I.ok.above))).trans e1⟩
    · obtain ⟨o',e1⟩:=I.base.there b o e hx
      exact ⟨o',(hs.2 b (Nat.ne_of_lt (Nat.lt_of_lt_of_le (Heap.lt_size e) I.ok.above))).trans e1⟩
    · by_cases hj:j=i
      · subst hj
        rw [hi] at e1;cases e1
        rw [List.getElem?_set_self hiσ] at e2
        cases e2
        exact ⟨u,r,.inl ⟨hk,by simp⟩⟩
      · rw [List.getElem?_set_ne (Ne.symm hj)] at e2
        refine bq fun bG=>?_
        obtain ⟨u',r',q⟩:=hl j y v' e1 e2 e3
        refine bG (⟨u',r',?_⟩)
        rcases q with ⟨k,e⟩ | ⟨k,c,e,z⟩
        · refine .inl ⟨k,?_⟩
          have:y≠x:=fun e=>hj (zf3 hN e1 (e ▸ hi))
          simp [this,e]
        · exact .inr ⟨k,c,e,z.sameBut hs (cne y c e)⟩
    · obtain ⟨w',z⟩:=I.cell y c e
      exact ⟨w',z.sameBut hs (cne y c e)⟩
    · obtain ⟨e,n,ne,nf,d⟩:=I.pin p hp
      exact ⟨(hs.2 p.1 ne).trans e,n,ne,nf,d⟩
  · have hfn:X.fn x=true:=by
      rcases hf with z | z
      · exact z
      · rw [z] at hk;cases hk
    refine bq fun bG=>?_
    obtain ⟨c,hc⟩:=I.ok.has x (.inl hk)
    obtain ⟨w',z⟩:=I.cell x c hc
    refine bG (wpAny_storeName_cell I.ok.kind hk hc z (fun h' hc' hs=>?_))
    refine bq fun bG=>?_
    obtain ⟨oc,hoc,hocd⟩:=id z
    refine bG (h { s with heap:=h' } ⟨I.ok,I.os,I.bare,⟨fun b o e n hb hx=>?_,fun b o e n hb hx=>?_,I.base.free,fun b o e hx=>?_,I.base.tups,I.base.frzs,I.base.tbls⟩,⟨m,hn.sameBut hs (Ne.symm (cne x c hc)),fun j y v' e1 e2 e3=>?_⟩,fun y c' e=>?_,I.free,I.freeC,fun p hp=>?_,tracked ⟨oc,hoc,I.freeC x c hc⟩ hs,by simpa using I.len⟩ ⟨c,hs,.inr hc⟩)
    · exact (hs.2 b (Nat.ne_of_lt (Nat.lt_of_lt_of_le (Heap.lt_size e) (I.ok.cab x c hfn hc)))).trans (I.base.keep b o e n hb hx)
    · obtain ⟨sl,e1⟩:=I.base.slot b o e n hb hx
      exact ⟨sl,(hs.2 b (Nat.ne_of_lt (Nat.lt_of_lt_of_le (Heap.lt_size e) (I.ok.cab x c hfn hc)))).trans e1⟩
    · obtain ⟨o',e1⟩:=I.base.there b o e hx
      exact ⟨o',(hs.2 b (Nat.ne_of_lt (Nat.lt_of_lt_of_le (Heap.lt_size e) (I.ok.cab x c hfn hc)))).trans e1⟩
    · by_cases hj:j=i
      · subst hj
        rw [hi] at e1;cases e1
        rw [List.getElem?_set_self hiσ] at e2
        cases e2
        exact ⟨u,r,.inr ⟨.inl hk,c,hc,hc'⟩⟩
      · rw [List.getElem?_set_ne (Ne.symm hj)] at e2
        refine bq fun bG=>?_
        obtain ⟨u',r',q⟩:=hl j y v' e1 e2 e3
        refine bG (⟨u',r',?_⟩)
        rcases q with q | ⟨k,c',e,z'⟩
        · exact .inl q
        · refine .inr ⟨k,c',e,z'.sameBut hs ?_⟩
          rintro rfl
          exact hj (zf3 hN e1 (I.ok.inj _ _ _ e hc ▸ hi))
    · by_cases hcc:c'=c
      · subst hcc;exact ⟨_,hc'⟩
      · obtain ⟨w2,z2⟩:=I.cell y c' e
        exact ⟨w2,z2.sameBut hs hcc⟩
    · obtain ⟨e,n,ne,nf,d⟩:=I.pin p hp
      refine ⟨(hs.2 p.1 ?_).trans e,n,ne,nf,d⟩
      intro q
      rw [q,hoc] at e
      have q':oc=p.2:=Option.some.inj e
      exact d w' (by rw [← q'];exact hocd)
theorem z9d {M:Model} {A:Around} {E:Value→Shared→Prop} {i:Nat} {x:Str} {v:V} {u:Value} {Q:Unit→Shared→Prop} (I:Inv X pins σ H s) (hN:X.N.Nodup) (hi:X.N[i]?=some x) (hx:Loc X.env.scope x) (r:RelV v u)
    (h:∀ s',Inv X pins (σ.set i (some v)) H s'→Q () s') (hf:X.fn x=true∨X.env.scope.names.lookup x=some .local:=by first | exact .inl rfl | exact .inr rfl | assumption):wpAny M A (storeName X.env x u) Q E s :=
  zcq I hN hi hx r (fun s' I' _=>h s' I') hf
theorem Inv.call' {s':Shared} {ch:List Addr} (I:Inv X pins σ H s) (ho:s'.os=s.os) (u:Un (frs X.stack) ch H H' s.heap s'.heap) (hok:HOk X.prog X.w H' s'.heap) (hg:AllBare s'.gens)
    (hch:∀ b∈ch,(b∈X.ex∨X.s₀.heap.objs.size≤b)∧b≠X.env.locals∧(∀ x c,X.env.cells.lookup x=some c→c≠b)∧∀ p∈X.pn++pins,p.1≠b):Inv X pins σ H' s':=by
  refine bq fun bG=>?_
  obtain ⟨h',g',d',t',o'⟩:=s'
  have e:o'=s.os:=ho
  subst e
  exact bG (I.call (g':=g') (t':=t') (d':=d') u hok hg hch)
end
noncomputable abbrev XK:=Value→Option Addr→Hp→Prop
noncomputable abbrev St:=List (Option V)
noncomputable abbrev VK:=V→Hp→Prop
noncomputable abbrev TE:=St→Hp→VK→Prop
noncomputable abbrev TT:=St→Hp→(Bool→Hp→Prop)→Prop
noncomputable abbrev TA:=St→Hp→(List V→Hp→Prop)→Prop
structure Ends where
  nx:St→Hp→Prop
  rt:VK
  bk:St→Hp→Prop:=fun _ _=>False
  ct:St→Hp→Prop:=fun _ _=>False
noncomputable abbrev TS:=Ends→St→Hp→Prop
def EP (X:Cx) (pins:List (Addr×Obj)) (σ:St) (Q:VK) (u:Value) (s':Shared):Prop:=∃ v H',Inv X pins σ H' s'∧RelV v u∧Q v H'
def TP (X:Cx) (pins:List (Addr×Obj)) (σ:St) (Q:Bool→Hp→Prop) (b:Bool) (s':Shared):Prop:=∃ H',Inv X pins σ H' s'∧Q b H'
def AP (X:Cx) (pins:List (Addr×Obj)) (σ:St) (Q:List V→Hp→Prop) (us:List Value) (s':Shared):Prop:=∃ vs H',Inv X pins σ H' s'∧Vals vs us∧Q vs H'
noncomputable def SP (X:Cx) (pins:List (Addr×Obj)) (D:Ends) (f:Flow) (s':Shared):Prop :=
  match f with
  | .next=>∃ σ' H',Inv X pins σ' H' s'∧D.nx σ' H'
  | .brk=>∃ σ' H',Inv X pins σ' H' s'∧D.bk σ' H'
  | .cont=>∃ σ' H',Inv X pins σ' H' s'∧D.ct σ' H'
  | .ret u=>∃ v σ' H',Inv X pins σ' H' s'∧RelV v u∧D.rt v H'
noncomputable def PE (X:Cx) (e:Expr) (t:TE):Prop :=
  ∀ (pins:List (Addr×Obj)) (s:Shared) (σ:St) (H:Hp) (Q:VK),Inv X pins σ H s→t σ H Q→wpAny (model X.prog X.w) X.A (eval e X.env) (EP X pins σ Q) X.xe s
noncomputable def PT (X:Cx) (e:Expr) (t:TT):Prop :=
  ∀ (pins:List (Addr×Obj)) (s:Shared) (σ:St) (H:Hp) (Q:Bool→Hp→Prop),Inv X pins σ H s→t σ H Q→wpAny (model X.prog X.w) X.A (isTrue e X.env (eval e X.env)) (TP X pins σ Q) X.xe s
noncomputable def PW (X:Cx) (e:Expr) (t:TT):Prop :=
  ∀ (whole:Sem Value) (pins:List (Addr×Obj)) (s:Shared) (σ:St) (H:Hp) (Q:Bool→Hp→Prop),Inv X pins σ H s→t σ H Q→wpAny (model X.prog X.w) X.A (isTrue e X.env whole) (TP X pins σ Q) X.xe s
theorem PW.pt {X:Cx} {e:Expr} {t:TT} (h:PW X e t):PT X e t:=h _
noncomputable def PA (X:Cx) (es:List Expr) (t:TA):Prop :=
  ∀ (pos:Pos) (pins:List (Addr×Obj)) (s:Shared) (σ:St) (H:Hp) (Q:List V→Hp→Prop),Inv X pins σ H s→t σ H Q→wpAny (model X.prog X.w) X.A (spliced (backTo pos (starEach es X.env))) (AP X pins σ Q) X.xe s
noncomputable def PS (X:Cx) (st:Stmt) (t:TS):Prop :=
  ∀ (pins:List (Addr×Obj)) (s:Shared) (σ:St) (H:Hp) (D:Ends),Inv X pins σ H s→t D σ H→wpAny (model X.prog X.w) X.A (exec st X.env) (SP X pins D) X.xe s
noncomputable def PSs (X:Cx) (st:List Stmt) (t:TS):Prop :=
  ∀ (pins:List (Addr×Obj)) (s:Shared) (σ:St) (H:Hp) (D:Ends),Inv X pins σ H s→t D σ H→wpAny (model X.prog X.w) X.A (execs st X.env) (SP X pins D) X.xe s
theorem thn {α:Type} {t:Sem α} {Q Q':α→Shared→Prop} {M:Model} {A:Around} {E:Value→Shared→Prop} {s:Shared} (h:wpAny M A t Q E s) (hQ:∀ a s,Q a s→Q' a s):wpAny M A t Q' E s:=wpAny_mono h hQ fun _ _ x=>x
section
variable {X:Cx}
def zuj (i:Nat):TE:=fun σ H Q=>∃ v,σ[i]?=some (some v)∧Q v H
def tC (v:V):TE:=fun _ H Q=>Q v H
theorem zma {i:Nat} {x:Str} {pos:Pos} (hN:X.N[i]?=some x) (hv:Vis X.env.scope x) (hd:(x==("__debug__" : Str))=false:=by decide) (hcd:(x==("__classdict__" : Str))=false:=by decide):PE X (.Name x pos) (zuj i):=by
  intro pins s σ H Q I h
  obtain ⟨v,e,h⟩:=h
  obtain ⟨m,hn,hl⟩:=I.loc
  obtain ⟨u,r,l⟩:=hl i x v hN e hv
  have fin:EP X pins σ Q u s:=⟨v,H,I,r,h⟩
  rcases l with ⟨hk,hm⟩ | ⟨hk,c,hc,hcell⟩
  · exact wpAny_Name (wpAny_loadName_local I.ok.kind hk hn hm fin) hd
  · rcases hk with hk | hk
    · exact wpAny_Name (wpAny_loadName_cell I.ok.kind hk hc hcell fin) hd
    · exact wpAny_Name (wpAny_loadName_free I.ok.kind hk hc hcell fin hcd) hd
theorem zmd {i j pos}:PE X (.Constant (.int i) j pos) (tC (.int i)):=fun _ _ _ H _ I h=>wpAny_Constant_int ⟨.int i,H,I.tok _,⟨_,rfl⟩,h⟩
theorem ztp {b j pos}:PE X (.Constant (.bool b) j pos) (tC (.bl b)):=fun _ _ _ H _ I h=>Constant_bool ⟨.bl b,H,I,rfl,h⟩
theorem zmb {x j pos}:PE X (.Constant (.str x) j pos) (tC (.str x)):=fun _ _ _ H _ I h=>Calls.Constant_str ⟨.str x,H,I.tok _,⟨_,rfl⟩,h⟩
def Gl (X:Cx) (x:Str):Prop:=X.env.kindOf x=some .globalImplicit
theorem zc7 {E:Value→Shared→Prop} {pins:List (Addr×Obj)} {s:Shared} {σ:St} {H:Hp} {x:Str} {u:Value} {pos:Pos} {Q:Value→Shared→Prop} (I:Inv X pins σ H s) (hg:Gl X x) (hm:X.mg x=some u) (h:Q u s)
    (hd:(x==("__debug__" : Str))=false:=by decide):wpAny (model X.prog X.w) X.A (eval (.Name x pos) X.env) Q E s :=
  Calls.Name_function_global I.ok.kind hg (Calls.loadGlobal_global (by rw [I.ok.glob];exact I.mod.glob.keeps I.bk) hm h) hd
theorem zf8 {E:Value→Shared→Prop} {pins:List (Addr×Obj)} {s:Shared} {σ:St} {H:Hp} {x:Str} {u:Value} {pos:Pos} {Q:Value→Shared→Prop} (I:Inv X pins σ H s) (hg:Gl X x) (hm:X.mg x=none) (hv:bootBuiltins x=some u) (h:Q u s)
    (hn:x ≠ "__name__" := by decide) (hd:(x==("__debug__" : Str))=false:=by decide):wpAny (model X.prog X.w) X.A (eval (.Name x pos) X.env) Q E s:=by
  obtain ⟨mb,h1,h2⟩:=I.mod.blt
  exact Calls.Name_function_global I.ok.kind hg (Calls.loadGlobal_builtin (by rw [I.ok.glob];exact I.mod.glob.keeps I.bk) hm (by rw [I.ok.blt];exact h1.keeps I.bk) ((h2 x hn).trans hv) h) hd
theorem zo0 {x:Str} {v:V} {u:Value} {pos:Pos} (hg:Gl X x) (hm:X.mg x=some u) (r:RelV v u) (hd:(x==("__debug__" : Str))=false:=by decide):PE X (.Name x pos) (tC v) :=
  fun _ _ _ H _ I h=>zc7 I hg hm ⟨v,H,I,r,h⟩ hd
variable {a b:Expr} {ta tb:TE} {pos:Pos}
variable {tA tB':TT} {z5t:List Expr}
def zul (t u:TT):TT:=fun σ H Q=>t σ H fun c H1=>if c=true then u σ H1 Q else Q false H1
def tOr (t u:TT):TT:=fun σ H Q=>t σ H fun c H1=>if c=true then Q true H1 else u σ H1 Q
def zvb (t:TT):TT:=fun σ H Q=>t σ H fun c H1=>Q (!c) H1
theorem znq (ha:PT X a tA):PW X (.BoolOp .And [a] pos) tA:=by
  intro wh pins s σ H Q I h
  refine isTrue_and (thn (ha pins s σ H Q I h) fun c s1 e=>?_)
  cases c with
  | true=>exact isTrue_and_nil e
  | false=>exact e
theorem zqc (ha:PT X a tA):PW X (.BoolOp .Or [a] pos) tA:=by
  intro wh pins s σ H Q I h
  refine isTrue_or (thn (ha pins s σ H Q I h) fun c s1 e=>?_)
  cases c with
  | false=>exact isTrue_or_nil e
  | true=>exact e
theorem zqd (ha:PT X a tA) (hb:PW X (.BoolOp .And (b::z5t) pos) tB'):PW X (.BoolOp .And (a::b::z5t) pos) (zul tA tB'):=by
  intro wh pins s σ H Q I h
  refine isTrue_and (thn (ha pins s σ H _ I h) fun c s1 hm=>?_)
  obtain ⟨H1,I1,q1⟩:=hm
  cases c with
  | true=>exact hb wh pins s1 σ H1 Q I1 q1
  | false=>exact ⟨H1,I1,q1⟩
theorem ztj (ha:PT X a tA) (hb:PW X (.BoolOp .Or (b::z5t) pos) tB'):PW X (.BoolOp .Or (a::b::z5t) pos) (tOr tA tB'):=by
  intro wh pins s σ H Q I h
  refine isTrue_or (thn (ha pins s σ H _ I h) fun c s1 hm=>?_)
  obtain ⟨H1,I1,q1⟩:=hm
  cases c with
  | true=>exact ⟨H1,I1,q1⟩
  | false=>exact hb wh pins s1 σ H1 Q I1 q1
theorem zqg (ha:PT X a tA):PT X (.UnaryOp .Not a pos) (zvb tA):=by
  intro pins s σ H Q I h
  exact isTrue_not (ha pins s σ H (fun c H1=>Q (!c) H1) I h)
def ztd (ta tb:TE):TE:=fun σ H Q=>ta σ H fun x H1=>∃ c,x=.bl c∧if c=true then tb σ H1 Q else Q (.bl false) H1
def zva (ta tb:TE):TE:=fun σ H Q=>ta σ H fun x H1=>∃ c,x=.bl c∧if c=true then Q (.bl true) H1 else tb σ H1 Q
def zt6 (ta:TE):TE:=fun σ H Q=>ta σ H fun x H1=>∃ c,x=.bl c∧Q (.bl (!c)) H1
theorem zqu {op} {t:TE} (h:PE X a t):PE X (.BoolOp op [a] pos) t:=fun pins s σ H Q I hw=>BoolOp_one (h pins s σ H Q I hw)
theorem zqy (ha:PE X a ta) (hb:PE X (.BoolOp .And (b::z5t) pos) tb):PE X (.BoolOp .And (a::b::z5t) pos) (ztd ta tb):=by
  intro pins s σ H Q I h
  refine BoolOp_and (thn (ha pins s σ H _ I h) fun v s1 hm=>?_)
  refine bq fun bG=>?_
  obtain ⟨x,H1,I1,r1,q1⟩:=hm
  obtain ⟨c,rfl,q1⟩:=q1
  cases r1
  refine bG (wpAny_truthy_bool ?_)
  cases c with
  | true=>exact hb pins s1 σ H1 Q I1 q1
  | false=>exact ⟨.bl false,H1,I1,rfl,q1⟩
theorem ztl (ha:PE X a ta) (hb:PE X (.BoolOp .Or (b::z5t) pos) tb):PE X (.BoolOp .Or (a::b::z5t) pos) (zva ta tb):=by
  intro pins s σ H Q I h
  refine BoolOp_or (thn (ha pins s σ H _ I h) fun v s1 hm=>?_)
  refine bq fun bG=>?_
  obtain ⟨x,H1,I1,r1,q1⟩:=hm
  obtain ⟨c,rfl,q1⟩:=q1
  cases r1
  refine bG (wpAny_truthy_bool ?_)
  cases c with
  | false=>exact hb pins s1 σ H1 Q I1 q1
  | true=>exact ⟨.bl true,H1,I1,rfl,q1⟩
theorem zqv (ha:PE X a ta):PE X (.UnaryOp .Not a pos) (zt6 ta):=by
  intro pins s σ H Q I h
  refine UnaryOp_ (thn (ha pins s σ H _ I h) fun v s1 hm=>?_)
  refine bq fun bG=>?_
  obtain ⟨x,H1,I1,r1,q1⟩:=hm
  obtain ⟨c,rfl,q1⟩:=q1
  cases r1
  exact bG (not_of (wpAny_truthy_bool ⟨.bl (!c),H1,I1,rfl,q1⟩))
end
noncomputable def SqL (K:PySem.W.Frag) (H:Hp) (a:Addr) (xs:List V):Prop :=
  Rd H a (.lst xs) ∨
    ∃ (o:Obj) (its:Array Value) (n:Nat),K.lookup a=some o∧o.cls=.type "list" ∧ o.dict=none∧o.data=.seq its n∧its.size≤sizeLine∧Vals xs its.toList
noncomputable def SqT (K:PySem.W.Frag) (H:Hp) (a:Addr) (xs:List V):Prop :=
  Rd H a (.tup xs) ∨
    ∃ (o:Obj) (its:Array Value) (n:Nat),K.lookup a=some o∧o.cls=.type "tuple" ∧ o.data=.seq its n∧its.size≤sizeLine∧Vals xs its.toList
noncomputable def zw7:Value→Option V
  | .none=>some .non
  | .bool b=>some (.bl b)
  | .int i _=>some (.int i)
  | .str x _=>some (.str x)
  | .bytes b _=>some (.byt b)
  | .float b _=>some (.flt b)
  | .ref a=>some (.ref a)
  | .type n=>some (.ty n)
  | _=>none
theorem RelV.abs {x:V} {u:Value} (r:RelV x u):zw7 u=some x:=by
  cases x with
  | non=>cases r;rfl
  | bl _=>cases r;rfl
  | int _=>obtain ⟨t,rfl⟩:=r;rfl
  | str _=>obtain ⟨t,rfl⟩:=r;rfl
  | byt _=>obtain ⟨t,rfl⟩:=r;rfl
  | flt _=>obtain ⟨t,rfl⟩:=r;rfl
  | ref _=>cases r;rfl
  | ty _=>cases r;rfl
theorem RelV.inj {x y:V} {u:Value} (r:RelV x u) (q:RelV y u):x=y:=Option.some.inj (r.abs.symm.trans q.abs)
theorem Vals.inj:∀ {xs ys:List V} {us:List Value},Vals xs us→Vals ys us→xs=ys
  | _,_,_,.nil,.nil=>rfl
  | _,_,_,.cons r t,.cons r' t'=>by rw [r.inj r',Vals.inj t t']
section
variable {X:Cx} {pins:List (Addr×Obj)} {σ:St} {H:Hp} {s:Shared} {a:Addr} {xs ys:List V}
theorem SqL.of {K:PySem.W.Frag} (h:H a=some (.lst xs)):SqL K H a xs:=.inl (.inl h)
theorem SqT.of {K:PySem.W.Frag} (h:H a=some (.tup xs)):SqT K H a xs:=.inl (.inl h)
theorem Inv.list (I:Inv X pins σ H s) (h:SqL X.K H a xs):∃ its:List Value,Vals xs its∧PlainL s.heap a its.toArray∧xs.length≤sizeLine:=by
  rcases h with h | ⟨o,its,n,hk,hc,hd,hs,hz,r⟩
  · obtain ⟨z,its,n,r,e⟩:=h.ok I.hok
    exact ⟨its,r,⟨_,n,e,rfl,rfl,rfl⟩,z⟩
  · refine ⟨its.toList,r,⟨o,n,I.kIn a o hk,hc,hd,by simpa using hs⟩,?_⟩
    have e:=r.length
    simp only [Array.length_toList] at e
    omega
theorem Inv.tuple (I:Inv X pins σ H s) (h:SqT X.K H a xs):∃ its:List Value,Vals xs its∧IsTup s.heap a its.toArray∧xs.length≤sizeLine:=by
  rcases h with h | ⟨o,its,n,hk,hc,hs,hz,r⟩
  · obtain ⟨z,its,r,p⟩:=h.ok I.hok
    exact ⟨its,r,p,z⟩
  · refine ⟨its.toList,r,⟨o,I.kIn a o hk,hc,n,by simpa using hs⟩,?_⟩
    have e:=r.length
    simp only [Array.length_toList] at e
    omega
theorem Inv.list_inj (I:Inv X pins σ H s) (h:SqL X.K H a xs) (h':SqL X.K H a ys):xs=ys:=by
  obtain ⟨its,r,⟨o,n,e,_,_,d⟩,_⟩:=I.list h
  obtain ⟨its',r',⟨o',n',e',_,_,d'⟩,_⟩:=I.list h'
  rw [e] at e';cases e'
  rw [d] at d'
  injection d' with d1 _
  have:its=its':=by simpa using congrArg Array.toList d1
  subst this
  exact r.inj r'
end
noncomputable abbrev Cx.wish (X:Cx) (E:Value→Shared→Prop):Cx:={ X with xe:=E }
noncomputable abbrev Cx.nox (X:Cx):Cx:=X.wish fun _ _=>False
theorem Cx.Ok.wish {X:Cx} (ok:X.Ok) (E:Value→Shared→Prop):(X.wish E).Ok :=
  ⟨ok.mod,ok.kind,ok.glob,ok.blt,ok.above,ok.inj,ok.has,ok.cab,ok.hd,ok.frames,ok.stk,ok.exf,ok.bs,ok.bsz,ok.noex,ok.exfs,ok.funs,ok.frf⟩
theorem Cx.Ok.unwish {X:Cx} {E:Value→Shared→Prop} (ok:(X.wish E).Ok):X.Ok :=
  ⟨ok.mod,ok.kind,ok.glob,ok.blt,ok.above,ok.inj,ok.has,ok.cab,ok.hd,ok.frames,ok.stk,ok.exf,ok.bs,ok.bsz,ok.noex,ok.exfs,ok.funs,ok.frf⟩
section
variable {X:Cx} {pins:List (Addr×Obj)} {σ:St} {H:Hp} {s:Shared} {E:Value→Shared→Prop}
theorem Inv.wish (I:Inv X pins σ H s) (E:Value→Shared→Prop):Inv (X.wish E) pins σ H s:=⟨I.ok.wish E,I.os,I.bare,I.base,I.loc,I.cell,I.free,I.freeC,I.pin,I.hok,I.len⟩
theorem Inv.unwish (I:Inv (X.wish E) pins σ H s):Inv X pins σ H s:=⟨I.ok.unwish,I.os,I.bare,I.base,I.loc,I.cell,I.free,I.freeC,I.pin,I.hok,I.len⟩
theorem SP.unwish {D:Ends} {f:Flow} {s':Shared} (h:SP (X.wish E) pins D f s'):SP X pins D f s':=by
  cases f with
  | next=>obtain ⟨σ',H',I,q⟩:=h;exact ⟨σ',H',I.unwish,q⟩
  | brk=>obtain ⟨σ',H',I,q⟩:=h;exact ⟨σ',H',I.unwish,q⟩
  | cont=>obtain ⟨σ',H',I,q⟩:=h;exact ⟨σ',H',I.unwish,q⟩
  | ret u=>obtain ⟨v,σ',H',I,r,q⟩:=h;exact ⟨v,σ',H',I.unwish,r,q⟩
theorem PE.nox {e:Expr} {t:TE} (h:PE X.nox e t):PE X e t:=fun pins s σ H Q I hw =>
  wpAny_mono (h pins s σ H Q (I.wish _) hw) (fun _ _ ⟨v,H',I',r,q⟩=>⟨v,H',I'.unwish,r,q⟩) fun _ _ z=>False.elim z
theorem PT.nox {e:Expr} {t:TT} (h:PT X.nox e t):PT X e t:=fun pins s σ H Q I hw =>
  wpAny_mono (h pins s σ H Q (I.wish _) hw) (fun _ _ ⟨H',I',q⟩=>⟨H',I'.unwish,q⟩) fun _ _ z=>False.elim z
theorem PSs.nox {st:List Stmt} {t:TS} (h:PSs X.nox st t):PSs X st t:=fun pins s σ H D I hw =>
  wpAny_mono (h pins s σ H D (I.wish _) hw) (fun _ _ q=>q.unwish) fun _ _ z=>False.elim z
end
section
variable {X:Cx} {st:Stmt} {z5t:List Stmt} {t u:TS} {e:Expr} {te:TE} {pos:Pos}
def zt7:TS:=fun D σ H=>D.nx σ H
def zv8 (t u:TS):TS:=fun D σ H=>t { D with nx:=u D } σ H
theorem znr:PSs X [] zt7:=fun _ _ σ H _ I h=>wpAny_execs_nil ⟨σ,H,I,h⟩
theorem zey (h1:PS X st t) (h2:PSs X z5t u):PSs X (st::z5t) (zv8 t u):=by
  intro pins s σ H D I h
  refine wpAny_execs_cons (thn (h1 pins s σ H { D with nx:=u D } I h) fun f s1 q=>?_)
  cases f with
  | next =>
    obtain ⟨σ',H',I',q⟩:=q
    exact h2 pins s1 σ' H' D I' q
  | ret v=>exact q
  | brk=>exact q
  | cont=>exact q
theorem zhw (h1:PS X st t):PSs X [st] t:=by
  intro pins s σ H D I h
  refine wpAny_execs_cons (thn (h1 pins s σ H D I h) fun f s1 q=>?_)
  cases f with
  | next=>exact wpAny_execs_nil q
  | ret v=>exact q
  | brk=>exact q
  | cont=>exact q
theorem Inv.quiet {pins:List (Addr×Obj)} {σ:St} {H:Hp} {s:Shared} (I:Inv X pins σ H s):interactive X.env=false:=by simp [interactive,I.ok.kind]
def zt9 (te:TE):TS:=fun D σ H=>te σ H fun _ H1=>D.nx σ H1
theorem zhx (he:PE X e te) (hs:swapsWith e none pos.line X.env=pure false:=by rfl):PS X (.Expr e pos) (zt9 te):=by
  intro pins s σ H D I h
  exact wpAny_Expr_any (thn (he pins s σ H _ I h) fun v s1 ⟨x,H1,I1,r1,q1⟩=>⟨σ,H1,I1,q1⟩) I.quiet hs
def zv9 (te:TE):TS:=fun D σ H=>te σ H D.rt
theorem zqh (he:PE X e te):PS X (.Return (some e) pos) (zv9 te):=by
  intro pins s σ H D I h
  exact wpAny_Return_some (thn (he pins s σ H _ I h) fun v s1 ⟨x,H1,I1,r1,q1⟩=>⟨x,σ,H1,I1,r1,q1⟩)
def zvd (c:TT) (t u:TS):TS:=fun D σ H=>c σ H fun b H1=>if b=true then t D σ H1 else u D σ H1
theorem zqj {c:Expr} {a b:List Stmt} {tc:TT} (hc:PT X c tc) (ha:PSs X a t) (hb:PSs X b u):PS X (.If c a b pos) (zvd tc t u):=by
  intro pins s σ H D I h
  refine wpAny_If (thn (hc pins s σ H _ I h) fun d s1 hm=>?_)
  obtain ⟨H1,I1,q1⟩:=hm
  cases d with
  | true=>exact ha pins s1 σ H1 D I1 q1
  | false=>exact hb pins s1 σ H1 D I1 q1
end
noncomputable abbrev TG:=V→St→Hp→(St→Hp→Prop)→Prop
noncomputable abbrev TGs:=List V→St→Hp→(St→Hp→Prop)→Prop
noncomputable def PG (X:Cx) (target:Expr) (t:TG):Prop :=
  ∀ (pins:List (Addr×Obj)) (s:Shared) (σ:St) (H:Hp) (v:V) (u:Value) (Q:St→Hp→Prop),Inv X pins σ H s→RelV v u→t v σ H Q →
    wpAny (model X.prog X.w) X.A (assign target X.env u) (fun _ s'=>∃ σ' H',Inv X pins σ' H' s'∧Q σ' H') X.xe s
noncomputable def PGs (X:Cx) (ts:List Expr) (t:TGs):Prop :=
  ∀ (pins:List (Addr×Obj)) (s:Shared) (σ:St) (H:Hp) (vs:List V) (us:List Value) (Q:St→Hp→Prop),Inv X pins σ H s→Vals vs us→t vs σ H Q →
    wpAny (model X.prog X.w) X.A (assignInOrder ((assignEach ts X.env).map (·.2)) us) (fun _ s'=>∃ σ' H',Inv X pins σ' H' s'∧Q σ' H') X.xe s
noncomputable abbrev zuc:=V→V→V→Hp→(Hp→Prop)→Prop
noncomputable def zv3 (X:Cx) (t:zuc):Prop :=
  ∀ (pins:List (Addr×Obj)) (s:Shared) (σ:St) (H:Hp) (o i v:V) (ov iv u:Value) (Q:Hp→Prop),Inv X pins σ H s→RelV o ov→RelV i iv→RelV v u→t o i v H Q →
    wpAny (model X.prog X.w) X.A (setItem ov iv u) (fun _ s'=>∃ H',Inv X pins σ H' s'∧Q H') X.xe s
section
variable {X:Cx} {pos:Pos}
def zoi (i:Nat):TG:=fun v σ H Q=>Q (σ.set i (some v)) H
theorem zny {i:Nat} {x:Str} (hN:X.N.Nodup) (hi:X.N[i]?=some x) (hx:Loc X.env.scope x) (hf:X.fn x=true∨X.env.scope.names.lookup x=some .local:=by first | exact .inl rfl | exact .inr rfl | assumption):PG X (.Name x pos) (zoi i):=by
  intro pins s σ H v u Q I r h
  exact wpAny_assign_Name (z9d I hN hi hx r (fun s' I'=>⟨_,H,I',h⟩) hf)
noncomputable def zvt:TGs:=fun vs σ H Q=>vs=[]∧Q σ H
noncomputable def zu4 (t:TG) (u:TGs):TGs:=fun vs σ H Q=>∃ v r,vs=v::r∧t v σ H fun σ' H'=>u r σ' H' Q
theorem znx:PGs X [] zvt:=by
  intro pins s σ H vs us Q I r h
  refine bq fun bG=>?_
  obtain ⟨e,h⟩:=h
  subst e
  cases r
  exact bG (assignInOrder_nil ⟨σ,H,I,h⟩)
theorem zl0 {e:Expr} {es:List Expr} {t:TG} {u:TGs} (h1:PG X e t) (h2:PGs X es u)
    (hs:(assignEach (e::es) X.env).map (·.2)=assign e X.env::(assignEach es X.env).map (·.2):=by rfl):PGs X (e::es) (zu4 t u):=by
  intro pins s σ H vs us Q I r h
  obtain ⟨v,vr,e1,h⟩:=h
  subst e1
  cases r with
  | cons r rr =>
    rw [hs]
    refine assignInOrder_cons (thn (h1 pins s σ H _ _ _ I r h) fun _ s1 hm=>?_)
    refine bq fun bG=>?_
    obtain ⟨σ1,H1,I1,q1⟩:=hm
    exact bG (h2 pins s1 σ1 H1 _ _ Q I1 rr q1)
def zuw (K:PySem.W.Frag) (n:Nat) (t:TGs):TG:=fun v σ H Q=>∃ a xs,v=.ref a∧SqT K H a xs∧xs.length=n∧t xs σ H Q
theorem zqp {es:List Expr} {k:Nat} {t:TGs} {n:Nat} (hc:X.calm=true) (h:PGs X es t)
    (hn:(assignEach es X.env).length=n:=by rfl) (hst:(assignEach es X.env).findIdx? (·.1)=none:=by rfl):PG X (.Tuple es k pos) (zuw X.K n t):=by
  intro pins s σ H v u Q I r hw
  refine bq fun bG=>?_
  obtain ⟨a,xs,e1,hq,hl,hw⟩:=hw
  subst e1
  cases r
  obtain ⟨its,rv,ht,hz⟩:=I.tuple hq
  refine bG (assign_Tuple_tuple (I.ok.hd hc) ht (by simp [hn,← hl,rv.length]) hst fun h' hx=>?_)
  have I1:Inv X pins σ H { s with heap:=h' }:=I.kept (t':=s.toks) fun b o e=>hx b o (Nat.ne_of_lt (Heap.lt_size e)) e
  exact h pins _ σ H xs _ Q I1 (by simpa using rv) hw
def zvs (to ti:TE) (t:zuc):TG:=fun v σ H Q=>to σ H fun o H1=>ti σ H1 fun i H2=>t o i v H2 fun H3=>Q σ H3
theorem zqq {o i:Expr} {to ti:TE} {t:zuc} (ho:PE X o to) (hi:PE X i ti) (hs:zv3 X t)
    (ha:∀ v,assign (.Subscript o i pos) X.env v=(do
      let ov ← holding [v] (eval o X.env)
      let iv ← holding [v,ov] (eval i X.env)
      standAt pos
      holding [v,ov,iv] (setItem ov iv v)
      release [v,ov,iv] []):=by intro _;rfl):PG X (.Subscript o i pos) (zvs to ti t):=by
  intro pins s σ H v u Q I r h
  rw [ha]
  refine wpAny_bind (wpAny_holding (thn (ho pins s σ H _ I h) fun ov s1 hm=>?_))
  refine bq fun bG=>?_
  obtain ⟨x,H1,I1,r1,q1⟩:=hm
  refine bG (wpAny_bind (wpAny_holding (thn (hi pins s1 σ H1 _ I1 q1) fun iv s2 hm=>?_)))
  refine bq fun bG=>?_
  obtain ⟨y,H2,I2,r2,q2⟩:=hm
  refine bG (wpAny_bind (wpAny_standAt (wpAny_bind (wpAny_holding (thn (hs pins s2 σ H2 x y v ov iv u _ I2 r1 r2 r q2) fun _ s3 hm=>?_)))))
  refine bq fun bG=>?_
  obtain ⟨H3,I3,q3⟩:=hm
  exact bG (wpAny_release ⟨σ,H3,I3,q3⟩)
def ztc (te:TE) (g:TG):TS:=fun D σ H=>te σ H fun x H1=>g x σ H1 D.nx
theorem zqk {tg e:Expr} {te:TE} {g:TG} (he:PE X e te) (hg:PG X tg g) (hs:swapsWithSole [tg] e pos.line X.env=pure false:=by rfl) (hw:swappedStores [tg] e X.env=pure none:=by rfl)
    (h1:(assignEach [tg] X.env).map (·.2)=[assign tg X.env]:=by rfl):PS X (.Assign [tg] e pos) (ztc te g):=by
  intro pins s σ H D I h
  refine wpAny_Assign_stores (thn (he pins s σ H _ I h) fun v s1 hm=>?_) hs hw
  obtain ⟨x,H1,I1,r1,q1⟩:=hm
  rw [h1]
  exact thn (hg pins s1 σ H1 x v _ I1 r1 q1) fun _ s2 q=>q
theorem zm7 {i:Nat} {x:Str} {e:Expr} {te:TE} {pos':Pos} (hN:X.N.Nodup) (hi:X.N[i]?=some x) (hx:Loc X.env.scope x) (he:PE X e te) (hs:swapsWith e (some (.Name x pos')) pos.line X.env=pure false:=by rfl) (hf:X.fn x=true∨X.env.scope.names.lookup x=some .local:=by first | exact .inl rfl | exact .inr rfl | assumption) :
    PS X (.Assign [.Name x pos'] e pos) (ztc te (zoi i)):=by
  intro pins s σ H D I h
  refine wpAny_Assign_Name (thn (he pins s σ H _ I h) fun v s1 hm=>?_) hs
  refine bq fun bG=>?_
  obtain ⟨y,H1,I1,r1,q1⟩:=hm
  exact bG (z9d I1 hN hi hx r1 (fun s2 I2=>⟨_,H1,I2,q1⟩) hf)
def zuk (i j:Nat) (ta:TA):TS:=fun D σ H=>ta σ H fun vs H1=>∃ v w,vs=[v,w]∧D.nx ((σ.set i (some v)).set j (some w)) H1
theorem zqi {i j:Nat} {x y:Str} {a b:Expr} {ta:TA} {px py pt:Pos} {kt k2 pt2} (hc:X.calm=true) (hN:X.N.Nodup) (hi:X.N[i]?=some x) (hj:X.N[j]?=some y) (hij:i≠j)
    (hx:X.env.scope.names.lookup x=some .local) (hy:X.env.scope.names.lookup y=some .local) (ha:PA X [a,b] ta)
    (hw:swappedStores [.Tuple [.Name x px,.Name y py] kt pt] (.Tuple [a,b] k2 pt2) X.env=pure (some [x,y]))
    (hs:swapsWithSole [.Tuple [.Name x px,.Name y py] kt pt] (.Tuple [a,b] k2 pt2) pos.line X.env=pure false:=by rfl) :
    PS X (.Assign [.Tuple [.Name x px,.Name y py] kt pt] (.Tuple [a,b] k2 pt2) pos) (zuk i j ta):=by
  intro pins s σ H D I h
  rw [exec_Assign_arm]
  refine wpAny_bind (wpAny_standAt ?_)
  rw [hs]
  refine wpAny_bind (wpAny_pure ?_)
  rw [if_neg (by decide)]
  refine wpAny_bind (Tuple_ (thn (ha _ pins s σ H _ I h) fun us s1 hm=>?_))
  obtain ⟨vs,H1,I1,r1,q1⟩:=hm
  obtain ⟨v,w,e1,q1⟩:=q1
  subst e1
  obtain ⟨u1,u2,rfl,rv,rw'⟩:∃ u1 u2,us=[u1,u2]∧RelV v u1∧RelV w u2:=by
    cases r1 with
    | cons p q =>
      cases q with
      | cons p' q' =>
        cases q'
        exact ⟨_,_,rfl,p,p'⟩
  refine wpAny_newObj_type ?_ (by show 2≤sizeLine;decide)
  have I2:Inv X pins σ H1 { s1 with heap:=s1.heap.push { cls:=.type "tuple",data:=.seq [u1,u2].toArray } }:=I1.kept (t':=s1.toks) fun b o e=>Heap.get?_push_of_some _ e
  rw [hw]
  refine wpAny_bind (wpAny_pure ?_)
  show wpAny (model X.prog X.w) X.A (do rule "assign.swapped-stores"; let items ← unpackItems (.ref s1.heap.objs.size) 2 none;assignInOrder [fun v=>bindName X.env y v,fun v=>bindName X.env x v] items.reverse;pure Flow.next) _ _ _
  refine wpAny_bind (wpAny_rule (wpAny_bind (unpackItems_tuple (items:=#[u1,u2]) (I.ok.hd hc) (IsTup.new s1.heap _) fun h' hx'=>?_)))
  have I3:=I2.kept (h':=h') (t':=s1.toks) fun b o e=>hx' b o (Nat.ne_of_lt (Heap.lt_size e)) e
  show wpAny _ _ (assignInOrder [fun v=>bindName X.env y v,fun v=>bindName X.env x v] [u2,u1] >>= fun _=>pure Flow.next) _ _ _
  refine wpAny_bind (assignInOrder_cons (wpAny_bindName (z9d I3 hN hj (.inl hy) rw' (fun s2 I4=>?_) (.inr hy))))
  refine assignInOrder_cons (wpAny_bindName (z9d I4 hN hi (.inl hx) rv (fun s3 I5=>assignInOrder_nil (wpAny_pure ?_)) (.inr hx)))
  rw [List.set_comm _ _ (Ne.symm hij)] at I5
  exact ⟨_,H1,I5,q1⟩
end
section
variable {X:Cx} {pos:Pos}
end
structure It where
  go:Nat→Hp→Prop
  yld:Nat→Hp→V→Hp→Prop
  stop:Nat→Hp→Prop
noncomputable def zfq (X:Cx) (pins:List (Addr×Obj)) (H:Hp) (b:Addr):Prop :=
  H b=none∧b≠X.env.locals∧b∉X.fs∧(b∈X.ex∨X.s₀.heap.objs.size≤b)∧(∀ x c,X.env.cells.lookup x=some c→c≠b)∧∀ p∈X.pn++pins,p.1≠b
theorem Inv.fpOk {X:Cx} {pins:List (Addr×Obj)} {σ:St} {H H':Hp} {s:Shared} {b:Addr} (I:Inv X pins σ H s) (hb:s.heap.objs.size≤b) (hn:H' b=none):zfq X pins H' b:=by
  refine ⟨hn,Nat.ne_of_gt (Nat.lt_of_lt_of_le I.lt hb),I.nofs hb,.inr (Nat.le_trans I.sz hb),fun x c e z=>?_,fun p hp z=>?_⟩
  · obtain ⟨v,q⟩:=I.cell x c e
    exact absurd (Nat.lt_of_lt_of_le q.lt (by rw [z];exact hb)) (Nat.lt_irrefl _)
  · exact absurd (Nat.lt_of_lt_of_le (Heap.lt_size (I.pin p hp).1) (by rw [z];exact hb)) (Nat.lt_irrefl _)
structure Turn (P:Program) (w:World) (K:PySem.W.Frag) (tg:Expr) (J:It) (fp:List Addr) (it:Addr) (tn:Nat→Heap→Prop):Prop where
  mem:it∈fp
  obj:∀ i h,tn i h→∀ b∈fp,∃ o,h.get? b=some o∧∀ v,o.data≠.cell v
  keep:∀ i h h',tn i h→(∀ b∈fp,∀ o,h.get? b=some o→h'.get? b=some o)→tn i h'
  item:∀ (X:Cx),X.prog=P→X.w=w→X.K=K→X.calm=true→∀ (i:Nat) (pins:List (Addr×Obj)) (s:Shared) (σ:St) (H:Hp) (E:Value→Shared→Prop),Inv X pins σ H s→(∀ b∈fp,zfq X pins H b)→tn i s.heap→J.go i H →
    wpAny (model P w) X.A (pyNext (.ref it)) (fun r s1=>∃ u,r=some u ∧
      wpAny (model P w) X.A (letOwnedTupleGo tg (.ref it) u) (fun _ s2=>∃ x H',Inv X pins σ H' s2∧RelV x u∧J.yld i H x H'∧tn (i+1) s2.heap∧∀ b∈fp,H' b=none) E s1) E s
  done:∀ (X:Cx),X.prog=P→X.w=w→X.K=K→X.calm=true→∀ (i:Nat) (pins:List (Addr×Obj)) (s:Shared) (σ:St) (H:Hp) (E:Value→Shared→Prop),Inv X pins σ H s→(∀ b∈fp,zfq X pins H b)→tn i s.heap→J.stop i H →
    wpAny (model P w) X.A (pyNext (.ref it)) (fun r s1=>r=none∧Inv X pins σ H s1) E s
  self:∀ (A:Around) (i:Nat) (s:Shared) (Q:Value→Shared→Prop) (E:Value→Shared→Prop),tn i s.heap→Q (.ref it) s→wpAny (model P w) A (pyIter (.ref it)) Q E s
noncomputable abbrev TI:=St→Hp→(It→Hp→Prop)→Prop
noncomputable def PIE (X:Cx) (pins:List (Addr×Obj)) (σ:St) (tg:Expr) (R:It→Hp→Prop) (itv:Value) (s2:Shared):Prop :=
  ∃ (it:Addr) (fp:List Addr) (tn:Nat→Heap→Prop) (J:It) (H':Hp),itv=.ref it∧Inv X pins σ H' s2∧Turn X.prog X.w X.K tg J fp it tn∧tn 0 s2.heap∧(∀ b∈fp,zfq X pins H' b)∧R J H'
noncomputable def PI (X:Cx) (tg iter:Expr) (wi:TI):Prop :=
  ∀ (pins:List (Addr×Obj)) (s:Shared) (σ:St) (H:Hp) (R:It→Hp→Prop),Inv X pins σ H s→wi σ H R →
    wpAny (model X.prog X.w) X.A (eval iter X.env) (fun v s1=>wpAny (model X.prog X.w) X.A (pyIter v) (PIE X pins σ tg R) X.xe s1) X.xe s
theorem zrt {M:Model} {A:Around} {E:Value→Shared→Prop} {s:Shared} {tg:Expr} {it:Addr} {u:Value} {o:Obj} {n:String} {vs:Array Value} {Q:Unit→Shared→Prop} (ho:s.heap.get? it=some o) (hc:o.cls=.type n) (hd:o.data=.fields vs)
    (hn:["enumerate", "zip", "dict_itemiterator", "dict_reverseitemiterator", "odict_iterator", "itertools.zip_longest", "itertools.pairwise"].contains n=false) (hQ:Q () s):wpAny M A (letOwnedTupleGo tg (.ref it) u) Q E s:=by
  unfold letOwnedTupleGo
  cases tg <;> first
    | exact wpAny_pure hQ
    | (cases u <;> first
        | exact wpAny_pure hQ
        | (refine wpAny_bind (wpAny_load ho ?_)
           rw [hc,hd]
           show wpAny M A (if (["enumerate", "zip", "dict_itemiterator", "dict_reverseitemiterator", "odict_iterator", "itertools.zip_longest", "itertools.pairwise"].contains n&&vs[0]?==some (rawInt _))=true then _ else _) Q E s
           rw [if_neg (by intro h;rw [hn,Bool.false_and] at h;cases h)]
           exact wpAny_pure hQ))
noncomputable def Itl (K:PySem.W.Frag) (a:Addr):It :=
  ⟨fun i H=>∃ xs x,SqL K H a xs∧xs[i]?=some x,fun i H x H'=>H'=H∧∀ xs,SqL K H a xs→xs[i]?=some x,fun i H=>∃ xs,SqL K H a xs∧xs.length≤i⟩
noncomputable def Itr (lo:Int) (n:Nat):It:=⟨fun i _=>i<n,fun i H x H'=>H'=H∧x=.int (lo+i),fun i _=>n≤i⟩
theorem zha {P:Program} {w:World} {K:PySem.W.Frag} {tg:Expr} (a it:Addr):Turn P w K tg (Itl K a) [it] it (fun i h=>h.IsListIter it a i) where
  mem:=by simp
  obj:=fun i h st b hb=>by
    have e:b=it:=by simpa using hb
    subst e
    obtain ⟨o,e,c,d⟩:=st
    exact ⟨o,e,fun v z=>by rw [d] at z;cases z⟩
  keep:=fun i h h' st k=>st.at fun o e=>k it (by simp) o e
  item:=by
    intro X hP hw hK hc i pins s σ H E I hf st hg
    subst hP hw hK
    refine bq fun bG=>?_
    obtain ⟨xs,x,hq,hx⟩:=hg
    obtain ⟨its,rv,p,hz⟩:=I.list hq
    obtain ⟨u,hu,ru⟩:=rv.get hx
    obtain ⟨f0,f1,f2,f3,f4,f5⟩:=hf it (by simp)
    refine bG (wpAny_pyNext_list_item st p.isList (x:=u) (by simpa using hu) fun h' st' sb=>?_)
    have I1:Inv X pins σ H { s with heap:=h' }:=I.turned (t':=s.toks) (fun b o hb e=>(sb.2 b hb).trans e) f0 f1 f3 f4 f5
    obtain ⟨o,e,c,d⟩:=id st'
    exact ⟨u,rfl,zrt (s:={ s with heap:=h' }) e c d (by decide) ⟨x,H,I1,ru,⟨rfl,fun ys hy=>by rw [I.list_inj hy hq];exact hx⟩,st',fun b hb=>(hf b hb).1⟩⟩
  done:=by
    intro X hP hw hK hc i pins s σ H E I hf st hg
    subst hP hw hK
    obtain ⟨xs,hq,hx⟩:=hg
    obtain ⟨its,rv,p,hz⟩:=I.list hq
    obtain ⟨f0,f1,f2,f3,f4,f5⟩:=hf it (by simp)
    have hl:=rv.length
    exact wpAny_pyNext_list_end (I.ok.hd hc) st p.isList (by simp;omega) fun h' eb=>⟨rfl,I.turned (t':=s.toks) (fun b o hb e=>eb b o hb e) f0 f1 f3 f4 f5⟩
  self:=fun _ _ _ _ _ st h=>wpAny_pyIter_listiter st h
theorem zfs {P:Program} {w:World} {K:PySem.W.Frag} {tg:Expr} (it:Addr) (lo:Int) (n:Nat):Turn P w K tg (Itr lo n) [it] it (fun i h=>IsRangeIter h it (lo+(i:Nat)*1) ((n:Int) - (i:Nat)) 1) where
  mem:=by simp
  obj:=fun i h st b hb=>by
    have e:b=it:=by simpa using hb
    subst e
    exact ⟨_,st,fun v z=>by
      have z':Data.fields _=Data.cell v:=z
      cases z'⟩
  keep:=fun i h h' st k=>k it (by simp) _ st
  item:=by
    intro X hP hw hK hc i pins s σ H E I hf st hg
    subst hP hw hK
    refine bq fun bG=>?_
    obtain ⟨f0,f1,f2,f3,f4,f5⟩:=hf it (by simp)
    have W:=Walks.range (prog:=X.prog) (w:=X.w) (I.ok.hd hc) it lo 1 n
    refine bG (W.item i s _ _ hg st fun v h' tk hv st' kk=>?_)
    refine bq fun bG=>?_
    obtain ⟨t,rfl⟩:=hv
    have I1:Inv X pins σ H { s with heap:=h',toks:=tk }:=I.turned (fun b o hb e=>kk b o (by simpa using hb) e) f0 f1 f3 f4 f5
    refine bG (⟨_,rfl,zrt (s:={ s with heap:=h',toks:=tk }) (n := "range_iterator") st' rfl rfl (by decide) ⟨.int (lo+i),H,I1,⟨t,?_⟩,⟨rfl,rfl⟩,st',fun b hb=>(hf b hb).1⟩⟩)
    rw [Int.mul_one]
  done:=by
    intro X hP hw hK hc i pins s σ H E I hf st hg
    subst hP hw hK
    obtain ⟨f0,f1,f2,f3,f4,f5⟩:=hf it (by simp)
    exact wpAny_pyNext_range_end (I.ok.hd hc) st (by have:n≤i:=hg;omega) fun h' eb=>⟨rfl,I.turned (t':=s.toks) (fun b o hb e=>eb b o hb e) f0 f1 f3 f4 f5⟩
  self:=fun _ _ _ _ _ st h=>wpAny_pyIter_rangeiter st h
section
variable {X:Cx} {tg:Expr}
def zrs (K:PySem.W.Frag) (tl:TE):TI:=fun σ H R=>tl σ H fun x H1=>∃ a,x=.ref a∧(∃ xs,SqL K H1 a xs)∧R (Itl K a) H1
theorem znw {l:Expr} {tl:TE} (hl:PE X l tl):PI X tg l (zrs X.K tl):=by
  intro pins s σ H R I h
  refine thn (hl pins s σ H _ I h) fun v s1 hm=>?_
  refine bq fun bG=>?_
  obtain ⟨x,H1,I1,r1,q1⟩:=hm
  refine bG (bq fun bG=>?_)
  obtain ⟨a,e,⟨xs,hq⟩,q⟩:=q1
  subst e
  cases r1
  obtain ⟨its,rv,p,hz⟩:=I1.list hq
  refine bG (wpAny_pyIter_list p.isList ?_)
  refine ⟨s1.heap.objs.size,[s1.heap.objs.size],_,_,H1,rfl,I1.kept (t':=s1.toks) fun b o e=>Heap.get?_push_of_some _ e,zha a _,⟨_,Heap.get?_push_size _ rfl,rfl,rfl⟩,fun b hb=>?_,q⟩
  have e:b=s1.heap.objs.size:=by simpa using hb
  subst e
  exact I1.fpOk (Nat.le_refl _) (I1.hok.fresh (Nat.le_refl _))
theorem zkt {pins:List (Addr×Obj)} {σ:St} {H:Hp} {s:Shared} {R:It→Hp→Prop} {E:Value→Shared→Prop} {lo hi:Int} {t u v:Tok} {tk:Nat} (I:Inv X pins σ H s) (h1:-(2 ^ 62)≤lo) (h2:lo<2 ^ 62) (h3:-(2 ^ 62)≤hi) (h4:hi<2 ^ 62)
    (q:R (Itr lo (hi - lo).toNat) H):wpAny (model X.prog X.w) X.A (pyIter (.ref s.heap.objs.size)) (PIE X pins σ tg R) E { s with heap:=s.heap.push { cls:=.type "range",data:=.fields #[.int lo t,.int hi u,.int 1 v] },toks:=tk }:=by
  refine wpAny_pyIter_range (IsRange.new ..) (small_one h1 h2 h3 h4) ?_
  have I1:Inv X pins σ H { s with heap:=s.heap.push { cls:=.type "range",data:=.fields #[.int lo t,.int hi u,.int 1 v] },toks:=tk }:=I.kept fun b o e=>Heap.get?_push_of_some _ e
  refine ⟨(s.heap.push { cls:=.type "range",data:=.fields #[.int lo t,.int hi u,.int 1 v] }).objs.size,[(s.heap.push { cls:=.type "range",data:=.fields #[.int lo t,.int hi u,.int 1 v] }).objs.size],_,_,H,rfl,
    I1.kept (t':=tk) fun b o e=>Heap.get?_push_of_some _ e,zfs _ lo (hi - lo).toNat,?_,fun b hb=>?_,q⟩
  · have e1:lo+((0:Nat):Int)*1=lo:=by simp
    have e2:(((hi - lo).toNat:Nat):Int) - ((0:Nat):Int)=Builtin.Range.rangeSize lo hi 1:=by rw [rangeSize_one];split <;> omega
    show IsRangeIter _ _ (lo+((0:Nat):Int)*1) ((((hi - lo).toNat:Nat):Int) - ((0:Nat):Int)) 1
    rw [e1,e2]
    exact Heap.get?_push_size _ rfl
  · have e:b=(s.heap.push { cls:=.type "range",data:=.fields #[.int lo t,.int hi u,.int 1 v] }).objs.size:=by simpa using hb
    subst e
    exact I1.fpOk (Nat.le_refl _) (I1.hok.fresh (Nat.le_refl _))
def zrr (ta:TA):TI:=fun σ H R=>ta σ H fun vs H1=>∃ j:Int,vs=[.int j]∧-(2 ^ 62)≤j∧j<2 ^ 62∧R (Itr 0 j.toNat) H1
theorem zhz {a:Expr} {ta:TA} {p pos:Pos} (hg:Gl X "range") (hm:X.mg "range" = none) (ha:PA X [a] ta) (hs:starEach [a] X.env=[(false,eval a X.env)]:=by rfl):PI X tg (.Call (.Name "range" p) [a] [] pos) (zrr ta):=by
  intro pins s σ H R I h
  refine Call_ (zf8 I hg hm boot_range (PyProof.Rows.callWith_type1 (thn (ha pos pins s σ H _ I h) fun us s1 hm=>?_) hs rfl))
  obtain ⟨vs,H1,I1,r1,q1⟩:=hm
  obtain ⟨j,e,q1,q2,q⟩:=q1
  subst e
  cases r1 with
  | cons r rr =>
    cases rr
    refine bq fun bG=>?_
    obtain ⟨t,rfl⟩:=r
    exact bG (call_range_1 (zkt I1 (by omega) (by omega) q1 q2 (by simpa using q)))
def zve (wi:TI) (g:TG) (tb:TS):TS:=fun D σ H=>wi σ H fun J H1=>∃ W:Nat→Nat→St→Hp→Prop,(∃ m,W 0 m σ H1)∧∀ i m σ H,W i m σ H →
  (J.stop i H∧D.nx σ H)∨(J.go i H∧∃ N:St→Hp→Prop,(∀ σ' H',N σ' H'→∃ m',m'<m∧W (i+1) m' σ' H')∧∀ x H',J.yld i H x H'→g x σ H' fun σ2 H2=>tb { D with nx:=N,ct:=N,bk:=D.nx } σ2 H2)
noncomputable def zcx (fp:List Addr) (h:Heap):List (Addr×Obj):=fp.filterMap fun b=>(h.get? b).map fun o=>(b,o)
theorem z69 {fp:List Addr} {h:Heap} {b:Addr} {o:Obj} (hb:b∈fp) (e:h.get? b=some o):(b,o)∈zcx fp h:=List.mem_filterMap.mpr ⟨b,hb,by rw [e];rfl⟩
theorem zi7 {fp:List Addr} {h:Heap} {p:Addr×Obj} (hp:p∈zcx fp h):p.1∈fp∧h.get? p.1=some p.2:=by
  obtain ⟨b,hb,e⟩:=List.mem_filterMap.mp hp
  cases q:h.get? b with
  | none=>rw [q] at e;cases e
  | some o =>
    rw [q] at e
    have e':(b,o)=p:=Option.some.inj e
    subst e'
    exact ⟨hb,q⟩
theorem Inv.pinned {pins:List (Addr×Obj)} {σ:St} {H:Hp} {s:Shared} {fp:List Addr} (I:Inv X pins σ H s) (hf:∀ b∈fp,zfq X pins H b) (ho:∀ b∈fp,∃ o,s.heap.get? b=some o∧∀ v,o.data≠.cell v):Inv X (pins++zcx fp s.heap) σ H s :=
  I.pins_of fun p hp=>(List.mem_append.mp hp).elim (fun z=>I.pin p (List.mem_append_right _ z)) fun z=>by
    obtain ⟨hb,e⟩:=zi7 z
    obtain ⟨f0,f1,f2,_⟩:=hf p.1 hb
    obtain ⟨o,e',d⟩:=ho p.1 hb
    rw [e] at e';cases e'
    exact ⟨e,f0,f1,f2,d⟩
theorem Inv.unpinned {pins pl:List (Addr×Obj)} {σ:St} {H:Hp} {s:Shared} (I:Inv X (pins++pl) σ H s):Inv X pins σ H s:=I.pins_of fun p hp=>I.pin p (List.mem_append_right _ (List.mem_append_left _ hp))
theorem zm8 {iter:Expr} {body:List Stmt} {wi:TI} {g:TG} {tb:TS} {pos:Pos} (hp:PassesOwn (model X.prog X.w) X.A X.env X.xe) (hc:X.calm=true) (hi:PI X tg iter wi) (hg:PG X tg g) (hb:PSs X body tb)
    (hs:∀ x,foldedSetIterable iter X.env x=pure x:=by intro _;rfl):PS X (.For tg iter body [] pos) (zve wi g tb):=by
  intro pins s σ H D I h
  refine wpAny_For (thn (hi pins s σ H _ I h) fun v s1 h1=>thn h1 fun itv s2 h2=>?_) hs
  obtain ⟨it,fp,tn,J,H2,e,I2,T,st2,f2,W,⟨m0,w0⟩,turn⟩:=h2
  subst e
  have stat:∀ {H':Hp},(∀ b∈fp,H' b=none)→∀ b∈fp,zfq X pins H' b:=fun hn b hb=>⟨hn b hb,(f2 b hb).2⟩
  refine codeAny_forLoop_any (fun n s'=>∃ i σ' H',Inv X pins σ' H' s'∧tn i s'.heap∧(∀ b∈fp,H' b=none)∧W i n σ' H') ?_ m0 ⟨0,σ,H2,I2,st2,fun b hb=>(f2 b hb).1,w0⟩
  rintro n s3 ⟨i,σ3,H3,I3,st3,fr3,w3⟩
  rcases turn i n σ3 H3 w3 with ⟨stop,qn⟩ | ⟨go,N,hN,step⟩
  · refine wpAny_passesOwn hp (thn (T.done X rfl rfl rfl hc i pins s3 σ3 H3 X.xe I3 (stat fr3) st3 stop) fun r s4 ⟨hr,I4⟩=>?_)
    subst hr
    exact wpAny_execs_nil ⟨σ3,H3,I4,qn⟩
  · refine wpAny_passesOwn hp (thn (T.item X rfl rfl rfl hc i pins s3 σ3 H3 X.xe I3 (stat fr3) st3 go) fun r s4 ⟨u,hr,h4⟩=>?_)
    subst hr
    refine wpAny_passesOwn hp (thn h4 fun _ s5 hm=>?_)
    refine bq fun bG=>?_
    obtain ⟨x,H5,I5,r5,y5,st5,fr5⟩:=hm
    have I5':=I5.pinned (stat fr5) (T.obj _ _ st5)
    refine bG (wpAny_passesOwn hp (thn (hg _ s5 σ3 H5 x u _ I5' r5 (step x H5 y5)) fun _ s6 hm=>?_))
    refine bq fun bG=>?_
    obtain ⟨σ6,H6,I6,q6⟩:=hm
    refine bG (wpAny_passesOwn hp (thn (hb _ s6 σ6 H6 _ I6 q6) fun f s7 q7=>?_))
    have again:∀ {σ7:St} {H7:Hp},Inv X (pins++zcx fp s5.heap) σ7 H7 s7→N σ7 H7→∃ m,m<n∧∃ i σ' H',Inv X pins σ' H' s7∧tn i s7.heap∧(∀ b∈fp,H' b=none)∧W i m σ' H':=fun {σ7 H7} I7 n7=>by
      refine bq fun bG=>?_
      obtain ⟨m',hm,w7⟩:=hN σ7 H7 n7
      refine bG (⟨m',hm,i+1,σ7,H7,I7.unpinned,T.keep _ _ _ st5 fun b hb o e=>(I7.pin (b,o) (List.mem_append_right _ (List.mem_append_right _ (z69 hb e)))).1,fun b hb=>?_,w7⟩)
      refine bq fun bG=>?_
      obtain ⟨o,e,d⟩:=T.obj _ _ st5 b hb
      exact bG ((I7.pin (b,o) (List.mem_append_right _ (List.mem_append_right _ (z69 hb e)))).2.1)
    cases f with
    | next=>obtain ⟨σ7,H7,I7,n7⟩:=q7;exact again I7 n7
    | cont=>obtain ⟨σ7,H7,I7,n7⟩:=q7;exact again I7 n7
    | brk=>obtain ⟨σ7,H7,I7,q7⟩:=q7;exact ⟨σ7,H7,I7.unpinned,q7⟩
    | ret v=>obtain ⟨x7,σ7,H7,I7,r7,q7⟩:=q7;exact ⟨x7,σ7,H7,I7.unpinned,r7,q7⟩
end
noncomputable abbrev R2:=V→V→Hp→VK→Prop
noncomputable def OpR (X:Cx) (f:Value→Value→Sem Value) (r:R2):Prop :=
  ∀ (pins:List (Addr×Obj)) (s:Shared) (σ:St) (H:Hp) (x y:V) (v u:Value) (Q:VK),Inv X pins σ H s→RelV x v→RelV y u→r x y H Q →
    wpAny (model X.prog X.w) X.A (f v u) (EP X pins σ Q) X.xe s
noncomputable def UnR (X:Cx) (f:Value→Sem Value) (r:V→Hp→VK→Prop):Prop :=
  ∀ (pins:List (Addr×Obj)) (s:Shared) (σ:St) (H:Hp) (x:V) (v:Value) (Q:VK),Inv X pins σ H s→RelV x v→r x H Q →
    wpAny (model X.prog X.w) X.A (f v) (EP X pins σ Q) X.xe s
noncomputable def zal (X:Cx) (f:Value) (r:List V→Hp→VK→Prop):Prop :=
  ∀ (pins:List (Addr×Obj)) (s:Shared) (σ:St) (H:Hp) (xs:List V) (us:List Value) (Q:VK),Inv X pins σ H s→Vals xs us→r xs H Q →
    wpAny (model X.prog X.w) X.A (call f us) (EP X pins σ Q) X.xe s
noncomputable def zwa (X:Cx) (r:V→Hp→(Bool→Hp→Prop)→Prop):Prop :=
  ∀ (pins:List (Addr×Obj)) (s:Shared) (σ:St) (H:Hp) (x:V) (v:Value) (Q:Bool→Hp→Prop),Inv X pins σ H s→RelV x v→r x H Q →
    wpAny (model X.prog X.w) X.A (truthy v) (TP X pins σ Q) X.xe s
def tOp (r:R2) (ta tb:TE):TE:=fun σ H Q=>ta σ H fun x H1=>tb σ H1 fun y H2=>r x y H2 Q
def tUn (r:V→Hp→VK→Prop) (ta:TE):TE:=fun σ H Q=>ta σ H fun x H1=>r x H1 Q
noncomputable def rI (C:Int→Int→Prop) (g:Int→Int→V):R2:=fun x y H Q=>∃ i j,x=.int i∧y=.int j∧C i j∧Q (g i j) H
noncomputable def rI0 (g:Int→Int→V):R2:=fun x y H Q=>∃ i j,x=.int i∧y=.int j∧Q (g i j) H
def rU (g:Int→V):V→Hp→VK→Prop:=fun x H Q=>∃ i,x=.int i∧Q (g i) H
section
variable {X:Cx} {a b c:Expr} {ta tb tc:TE} {pos:Pos}
theorem zua (ha:PE X a ta) (hb:PE X b tb) {pins:List (Addr×Obj)} {s:Shared} {σ:St} {H:Hp} {R:V→V→Hp→Prop} (I:Inv X pins σ H s)
    (h:ta σ H fun x H1=>tb σ H1 fun y H2=>R x y H2) {Q:Value→Shared→Prop} {f:Value→Value→Sem Value}
    (hf:∀ v u s2 x y H2,Inv X pins σ H2 s2→RelV x v→RelV y u→R x y H2→wpAny (model X.prog X.w) X.A (f v u) Q X.xe s2) :
    wpAny (model X.prog X.w) X.A (eval a X.env) (fun v s₁=>wpAny (model X.prog X.w) X.A (eval b X.env) (fun u s₂=>wpAny (model X.prog X.w) X.A (f v u) Q X.xe s₂) X.xe s₁) X.xe s:=by
  refine thn (ha pins s σ H _ I h) fun v s1 hm=>?_
  refine bq fun bG=>?_
  obtain ⟨x,H1,I1,r1,q1⟩:=hm
  refine bG (thn (hb pins s1 σ H1 _ I1 q1) fun u s2 hm=>?_)
  refine bq fun bG=>?_
  obtain ⟨y,H2,I2,r2,q2⟩:=hm
  exact bG (hf v u s2 x y H2 I2 r1 r2 q2)
theorem ztm {op:Operator} {r:R2} (ho:OpR X (binaryOp op) r) (ha:PE X a ta) (hb:PE X b tb):PE X (.BinOp a op b pos) (tOp r ta tb):=by
  intro pins s σ H Q I h
  exact wpAny_BinOp (zua ha hb I h fun v u s2 x y H2 I2 rx ry q=>ho pins s2 σ H2 x y v u Q I2 rx ry q)
theorem zqr {op:UnaryOp} {r:V→Hp→VK→Prop} (ho:UnR X (unaryOp op) r) (ha:PE X a ta):PE X (.UnaryOp op a pos) (tUn r ta):=by
  intro pins s σ H Q I h
  exact UnaryOp_ (thn (ha pins s σ H _ I h) fun v s1 ⟨x,H1,I1,r1,q1⟩=>ho pins s1 σ H1 x v Q I1 r1 q1)
theorem opI {f:Value→Value→Sem Value} {C:Int→Int→Prop} {g:Int→Int→Int}
    (rule:∀ (i j:Int) (t u:Tok) (s:Shared) (Q:Value→Shared→Prop) (E:Value→Shared→Prop),C i j→Q (.int (g i j) s.toks) { s with toks:=s.toks+1 }→wpAny (model X.prog X.w) X.A (f (.int i t) (.int j u)) Q E s) :
    OpR X f (rI C fun i j=>.int (g i j)):=by
  intro pins s σ H x y v u Q I rx ry h
  refine bq fun bG=>?_
  obtain ⟨i,j,rfl,rfl,hc,q⟩:=h
  obtain ⟨t,rfl⟩:=rx
  obtain ⟨t',rfl⟩:=ry
  exact bG (rule i j t t' s _ _ hc ⟨.int (g i j),H,I.tok _,⟨_,rfl⟩,q⟩)
theorem zut {f:Value→Value→Sem Value} {g:Int→Int→Int}
    (rule:∀ (i j:Int) (t u:Tok) (s:Shared) (Q:Value→Shared→Prop) (E:Value→Shared→Prop),Q (.int (g i j) s.toks) { s with toks:=s.toks+1 }→wpAny (model X.prog X.w) X.A (f (.int i t) (.int j u)) Q E s) :
    OpR X f (rI0 fun i j=>.int (g i j)):=by
  intro pins s σ H x y v u Q I rx ry h
  refine bq fun bG=>?_
  obtain ⟨i,j,rfl,rfl,q⟩:=h
  obtain ⟨t,rfl⟩:=rx
  obtain ⟨t',rfl⟩:=ry
  exact bG (rule i j t t' s _ _ ⟨.int (g i j),H,I.tok _,⟨_,rfl⟩,q⟩)
theorem zsq {f:Value→Value→Sem Value} {g:Int→Int→Bool}
    (rule:∀ (i j:Int) (t u:Tok) (s:Shared) (Q:Value→Shared→Prop) (E:Value→Shared→Prop),Q (.bool (g i j)) s→wpAny (model X.prog X.w) X.A (f (.int i t) (.int j u)) Q E s) :
    OpR X f (rI0 fun i j=>.bl (g i j)):=by
  intro pins s σ H x y v u Q I rx ry h
  refine bq fun bG=>?_
  obtain ⟨i,j,rfl,rfl,q⟩:=h
  obtain ⟨t,rfl⟩:=rx
  obtain ⟨t',rfl⟩:=ry
  exact bG (rule i j t t' s _ _ ⟨.bl (g i j),H,I,rfl,q⟩)
def zsj (i j:Int):Prop:=0≤j∧j≤1000000∧i.natAbs<2 ^ 64
def CMul (i j:Int):Prop:=(-(2 ^ 64)<i∧i<2 ^ 64)∨(-(2 ^ 64)<j∧j<2 ^ 64)
theorem CMul.ok {i j:Int} (h:CMul i j):IntMulOk i j:=by
  rcases h with ⟨h1,h2⟩ | ⟨h1,h2⟩
  · exact .of_left (intBits_le_64 h1 h2)
  · exact .of_right (intBits_le_64 h1 h2)
theorem op_add:OpR X (binaryOp .Add) (rI0 fun i j=>.int (i+j)):=zut fun _ _ _ _ _ _ _ q=>add_int q
theorem zqz:OpR X (binaryOp .Sub) (rI0 fun i j=>.int (i - j)):=zut fun _ _ _ _ _ _ _ q=>sub_int q
theorem op_mul:OpR X (binaryOp .Mult) (rI CMul fun i j=>.int (i*j)):=opI fun _ _ _ _ _ _ _ hc q=>mul_int q hc.ok
theorem zr2:OpR X (binaryOp .Mod) (rI (fun _ j=>0<j) fun i j=>.int (i % j)):=opI fun i j _ _ _ _ _ hc q=>by
  have h1:(0:Int)<j:=hc
  exact mod_int' (by omega) (by rw [Int.fmod_eq_emod_of_nonneg i (by omega)];exact q)
theorem zr1:OpR X (binaryOp .Pow) (rI zsj fun i j=>.int (i ^ j.toNat)):=opI fun _ _ _ _ _ _ _ hc q=>pow_int_small hc.1 hc.2.1 hc.2.2 q
theorem unI {f:Value→Sem Value} {g:Int→Int}
    (rule:∀ (i:Int) (t:Tok) (s:Shared) (Q:Value→Shared→Prop) (E:Value→Shared→Prop),Q (.int (g i) s.toks) { s with toks:=s.toks+1 }→wpAny (model X.prog X.w) X.A (f (.int i t)) Q E s) :
    UnR X f (rU fun i=>.int (g i)):=by
  intro pins s σ H x v Q I rx h
  refine bq fun bG=>?_
  obtain ⟨i,rfl,q⟩:=h
  obtain ⟨t,rfl⟩:=rx
  exact bG (rule i t s _ _ ⟨.int (g i),H,I.tok _,⟨_,rfl⟩,q⟩)
theorem zlt:UnR X (unaryOp .USub) (rU fun i=>.int (-i)):=unI fun _ _ _ _ _ q=>neg_int q
end
section
variable {X:Cx} {a b c:Expr} {ta tb tc:TE} {pos:Pos}
theorem zi3:OpR X (compareOp .Lt) (rI0 fun i j=>.bl (decide (i<j))):=zsq fun _ _ _ _ _ _ _ q=>lt_int q
theorem zr3:OpR X (compareOp .LtE) (rI0 fun i j=>.bl (decide (i≤j))):=zsq fun _ _ _ _ _ _ _ q=>le_int q
theorem zr4:OpR X (compareOp .Gt) (rI0 fun i j=>.bl (decide (j<i))):=zsq fun _ _ _ _ _ _ _ q=>gt_int q
theorem zr5:OpR X (compareOp .GtE) (rI0 fun i j=>.bl (decide (j≤i))):=zsq fun _ _ _ _ _ _ _ q=>ge_int q
theorem OpR.or {f:Value→Value→Sem Value} {r r':R2} (h:OpR X f r) (h':OpR X f r'):OpR X f (fun x y H Q=>r x y H Q∨r' x y H Q):=by
  intro pins s σ H x y v u Q I rx ry q
  rcases q with q | q
  · exact h pins s σ H x y v u Q I rx ry q
  · exact h' pins s σ H x y v u Q I rx ry q
theorem z76 (b:Expr) {op:CmpOp} (h:op≠.In:=by decide) (h2:op≠.NotIn:=by decide):behindInMarks op b=false:=by
  have e1:(op==CmpOp.In)=false:=by cases op <;> first | rfl | exact absurd rfl h
  have e2:(op==CmpOp.NotIn)=false:=by cases op <;> first | rfl | exact absurd rfl h2
  cases b <;> simp [behindInMarks,e1,e2]
theorem zdv {op:CmpOp} {r:R2} (ho:OpR X (compareOp op) r) (ha:PE X a ta) (hb:PE X b tb) (hm:behindInMarks op b=false):PE X (.Compare a [op] [b] pos) (tOp r ta tb):=by
  intro pins s σ H Q I h
  exact wpAny_Compare1 (zua ha hb I h fun v u s2 x y H2 I2 rx ry q=>ho pins s2 σ H2 x y v u Q I2 rx ry q) hm
def zka (t:TE):TT:=fun σ H Q=>t σ H fun x H'=>∃ k,x=.bl k∧Q k H'
theorem zhv {op:CmpOp} {r:R2} (ho:OpR X (compareOp op) r) (ha:PE X a ta) (hb:PE X b tb) (hm:behindInMarks op b=false):PT X (.Compare a [op] [b] pos) (zka (tOp r ta tb)):=by
  intro pins s σ H Q I h
  refine wpAny_isTrue_Compare1 (thn (ha pins s σ H _ I h) fun v s1 ⟨x,H1,I1,r1,q1⟩=>thn (hb pins s1 σ H1 _ I1 q1) fun u s2 ⟨y,H2,I2,r2,q2⟩ =>
    thn (ho pins s2 σ H2 x y v u _ I2 r1 r2 q2) fun c s3 ⟨z,H3,I3,r3,k,e,q3⟩=>?_) hm
  subst e
  cases r3
  exact wpAny_truthy_bool ⟨H3,I3,q3⟩
def zm3 (r r':R2) (ta tb tc:TE):TE:=fun σ H Q=>ta σ H fun x H1=>tb σ H1 fun y H2=>r x y H2 fun z H3=>∃ k,z=.bl k ∧
  (if k=true then tc σ H3 fun w' H4=>r' y w' H4 Q else Q (.bl false) H3)
theorem zkx {op op':CmpOp} {r r':R2} (ho:OpR X (compareOp op) r) (ho':OpR X (compareOp op') r') (ha:PE X a ta) (hb:PE X b tb) (hc:PE X c tc)
    (hm:lastMarks [op,op'] [b,c]=false:=by with_unfolding_all rfl):PT X (.Compare a [op,op'] [b,c] pos) (zka (zm3 r r' ta tb tc)):=by
  intro pins s σ H Q I h
  refine isTrue_chain (thn (ha pins s σ H _ I h) fun v s1 ⟨x,H1,I1,r1,q1⟩=>test_link (thn (hb pins s1 σ H1 _ I1 q1) fun u s2 ⟨y,H2,I2,r2,q2⟩ =>
    thn (ho pins s2 σ H2 x y v u _ I2 r1 r2 q2) fun d s3 ⟨z,H3,I3,r3,k,e,q3⟩=>?_)) hm
  subst e
  cases r3
  refine wpAny_truthy_bool ?_
  cases k with
  | false =>
    obtain ⟨k',e',q'⟩:=q3
    cases e'
    exact ite_ff ⟨H3,I3,q'⟩
  | true =>
    refine ite_tt (test_last (thn (hc pins s3 σ H3 _ I3 q3) fun w' s4 ⟨z',H4,I4,r4,q4⟩=>thn (ho' pins s4 σ H4 y z' u w' _ I4 r2 r4 q4) fun d' s5 hm=>?_))
    refine bq fun bG=>?_
    obtain ⟨z2,H5,I5,r5,k2,e2,q5⟩:=hm
    subst e2
    cases r5
    exact bG (wpAny_truthy_bool ⟨H5,I5,q5⟩)
noncomputable def zub (K:PySem.W.Frag) (x:V) (H:Hp) (k:Bool):Prop :=
  match x with
  | .non=>k=false
  | .bl b=>k=b
  | .int i=>k=(i != 0)
  | .str y=>y.length≤sizeLine∧k=((y.length:Int) != 0)
  | .byt y=>y.size≤sizeLine∧k=((y.size:Int) != 0)
  | .ref p=>(∃ xs,SqL K H p xs∧k=!xs.isEmpty)∨(∃ xs,SqT K H p xs∧k=!xs.isEmpty)∨∃ kvs,H p=some (.dK kvs)∧k=!kvs.isEmpty
  | _=>False
theorem zgf {κ:Type} {kvs:List (κ×V)} {vs:List (κ×Value)} (r:KV kvs vs):(!vs.isEmpty)=!kvs.isEmpty:=by
  cases r <;> rfl
theorem zbg {xs:List V} {its:List Value} (r:Vals xs its):(!its.toArray.isEmpty)=!xs.isEmpty:=by
  cases r <;> simp
theorem zbe:(sizeLine:Nat)<2 ^ 63:=by rw [sizeLine_eq];decide
theorem zpp:zwa X (fun x H Q=>∃ k,zub X.K x H k∧Q k H):=by
  intro pins s σ H x v Q I rx h
  obtain ⟨k,e,q⟩:=h
  have hl:=zbe
  have hs:sizeLine=16777216:=sizeLine_eq
  cases x with
  | non =>
    cases rx
    have e':k=false:=e
    subst e'
    exact truthy_none ⟨H,I,q⟩
  | bl b =>
    cases rx
    have e':k=b:=e
    subst e'
    exact wpAny_truthy_bool ⟨H,I,q⟩
  | int i =>
    obtain ⟨t,rfl⟩:=rx
    have e':k=(i != 0):=e
    subst e'
    exact PySem.P.truthy_int ⟨H,I,q⟩
  | str y =>
    obtain ⟨t,rfl⟩:=rx
    obtain ⟨hy,e'⟩:y.length≤sizeLine∧k=((y.length:Int) != 0):=e
    subst e'
    exact PySem.P.truthy_str (by omega) ⟨H,I.tok _,q⟩
  | byt y =>
    obtain ⟨t,rfl⟩:=rx
    obtain ⟨hy,e'⟩:y.size≤sizeLine∧k=((y.size:Int) != 0):=e
    subst e'
    exact PySem.W.truthy_bytes (by omega) ⟨H,I.tok _,q⟩
  | ref p =>
    cases rx
    have e':(∃ xs,SqL X.K H p xs∧k=!xs.isEmpty)∨(∃ xs,SqT X.K H p xs∧k=!xs.isEmpty)∨∃ kvs,H p=some (.dK kvs)∧k=!kvs.isEmpty:=e
    rcases e' with ⟨xs,hx,e'⟩ | ⟨xs,hx,e'⟩ | ⟨kvs,hx,e'⟩
    · subst e'
      obtain ⟨its,r,pl,hz⟩:=I.list hx
      have hlen:=r.length
      exact wpAny_truthy_list pl.isList (by simp only [List.size_toArray];omega) ⟨H,I.tok _,by rw [zbg r];exact q⟩
    · subst e'
      obtain ⟨its,r,pl,hz⟩:=I.tuple hx
      have hlen:=r.length
      exact truthy_tuple pl (by simp only [List.size_toArray];omega) ⟨H,I.tok _,by rw [zbg r];exact q⟩
    · subst e'
      obtain ⟨hz,hS,vs,r,m⟩:kvs.length≤sizeLine∧(p==sysModules)=false∧∃ vs,KV kvs vs∧s.heap.DictOf (zic X.prog X.w) p vs:=I.hok p _ hx
      have hlen:kvs.length=vs.length:=Paired.length r
      exact wpAny_truthy_dict hS m (by omega) ⟨H,I.tok _,by rw [zgf r];exact q⟩
  | _=>exact (show False from e).elim
theorem zkw (ha:PE X a ta) (he:∀ whole,isTrue a X.env whole=(do let v ← whole;standAt a.pos;holding [v] (truthy v))) :
    PT X a (fun σ H Q=>ta σ H fun x H'=>∃ k,zub X.K x H' k∧Q k H'):=by
  intro pins s σ H Q I h
  exact isTrue_plain (thn (ha pins s σ H _ I h) fun v s1 ⟨x,H1,I1,r1,q1⟩=>zpp pins s1 σ H1 x v Q I1 r1 q1) (he _)
theorem zco {x:V} {us:List Value} (r:Vals [x] us):∃ u,us=[u]∧RelV x u:=by
  cases r with
  | cons r1 r2=>cases r2;exact ⟨_,rfl,r1⟩
theorem zt4 {x y:V} {us:List Value} (r:Vals [x,y] us):∃ u w',us=[u,w']∧RelV x u∧RelV y w':=by
  cases r with
  | cons r1 r2 =>
    cases r2 with
    | cons r3 r4=>cases r4;exact ⟨_,_,rfl,r1,r3⟩
theorem zjd (hc:X.calm=true):zal X (.builtin "max") (fun xs H Q=>∃ i j,xs=[.int i,.int j]∧Q (.int (if j > i then j else i)) H):=by
  intro pins s σ H xs us Q I r h
  refine bq fun bG=>?_
  obtain ⟨i,j,rfl,q⟩:=h
  obtain ⟨u,w',rfl,⟨t,rfl⟩,⟨t',rfl⟩⟩:=zt4 r
  refine bG (max_two_ints (I.ok.hd hc) fun h' tk k=>⟨_,H,I.kept k,?_,q⟩)
  by_cases hj:j > i
  · rw [if_pos hj,if_pos hj];exact ⟨_,rfl⟩
  · rw [if_neg hj,if_neg hj];exact ⟨_,rfl⟩
theorem zjf:zal X (.type "int") (fun xs H Q=>(∃ i,xs=[.int i]∧Q (.int i) H)∨∃ k,xs=[.bl k]∧Q (.int (if k then 1 else 0)) H):=by
  intro pins s σ H xs us Q I r h
  rcases h with ⟨i,rfl,q⟩ | ⟨k,rfl,q⟩
  · obtain ⟨u,rfl,t,rfl⟩:=zco r
    exact call_int_int ⟨.int i,H,I,⟨_,rfl⟩,q⟩
  · obtain ⟨u,rfl,r1⟩:=zco r
    cases r1
    exact call_int_bool ⟨.int (if k then 1 else 0),H,I.tok _,⟨_,rfl⟩,q⟩
end
section
variable {prog:Program} {w:World} {A:Around} {E:Value→Shared→Prop} {s:Shared} {K:PySem.W.Frag} {x dx C f:Addr} {mA:Str→Option Value} {name:Str} {v:Value}
end
section
variable {P:Program} {w:World} {H H':Hp} {h h':Heap} {a C dx:Addr} {fs fs':List (Str×V)}
end
section
variable {X:Cx} {pins:List (Addr×Obj)} {σ:St} {H:Hp} {s:Shared} {a C dx:Addr} {fs:List (Str×V)} {f:Str} {v:V} {A:Around} {E:Value→Shared→Prop}
end
section
variable {X:Cx} {o e value:Expr} {f:Str} {pos pos' tpos:Pos} {ta tv:TE}
end
section
variable {X:Cx} {pins:List (Addr×Obj)} {σ:St} {H:Hp} {s:Shared} {A:Around} {E:Value→Shared→Prop} {Q:Value→Shared→Prop} {c:Value} {b:Bool}
end
structure Room (k:Nat) (A:Around):Prop where
  hd:A.handled=none
  dp:A.depth+3*k+5<recursionLimit
  un:A.units+16*k+200<cLine
theorem Room.mono {j k:Nat} {A:Around} (r:Room k A) (h:j≤k):Room j A:=⟨r.hd,by have:=r.dp;omega,by have:=r.un;omega⟩
theorem Room.deeper {k:Nat} {A:Around} (r:Room (k+1) A) (env:Env):Room k (A.deeper env) :=
  ⟨r.hd,by have:=r.dp;show A.depth+1+3*k+5<_;omega,by have:=r.un;show A.units+3+16*k+200<_;omega⟩
theorem Room.depth {k:Nat} {A:Around} (r:Room k A):A.depth<recursionLimit:=by have:=r.dp;omega
theorem Room.units {k:Nat} {A:Around} (r:Room k A):A.units+64<cLine:=by have:=r.un;omega
def zkc:TA:=fun _ H Q=>Q [] H
def zao (ta:TE) (tr:TA):TA:=fun σ H Q=>ta σ H fun x H1=>tr σ H1 fun xs H2=>Q (x::xs) H2
section
variable {X:Cx} {e:Expr} {es:List Expr} {te:TE} {t:TA} {pos:Pos}
theorem z4v:PA X [] zkc:=fun _ _ _ _ H Q I h=>Calls.spliced_nil ⟨[],H,I,.nil,h⟩
theorem z2p (ha:PE X e te) (hr:PA X es t) (hs:starEach (e::es) X.env=(false,eval e X.env)::starEach es X.env:=by rfl):PA X (e::es) (zao te t):=by
  intro pos pins s σ H Q I h
  rw [hs]
  show wpAny _ _ (spliced ((false,eval e X.env)::backTo pos (starEach es X.env))) _ _ s
  refine Calls.spliced_cons (thn (ha pins s σ H _ I h) fun u s1 hm=>?_)
  refine bq fun bG=>?_
  obtain ⟨x,H1,I1,r1,q1⟩:=hm
  exact bG (thn (hr pos pins s1 σ H1 _ I1 q1) fun us s2 ⟨xs,H2,I2,r2,q2⟩=>⟨x::xs,H2,I2,.cons r1 r2,q2⟩)
def zv7 (t:TA):TE:=fun σ H Q=>t σ H fun xs H1=>xs.length≤sizeLine∧∀ p,H1 p=none→Q (.ref p) (upd H1 p (.tup xs))
def zvc (t:TA):TE:=fun σ H Q=>t σ H fun xs H1=>xs.length≤sizeLine∧∀ p,H1 p=none→Q (.ref p) (upd H1 p (.lst xs))
theorem zqs {x1} (h:PA X es t):PE X (.Tuple es x1 pos) (zv7 t):=by
  intro pins s σ H Q I hq
  refine wpAny_Tuple_spliced (thn (h pos pins s σ H _ I hq) fun us s1 ⟨xs,H1,I1,r,z,q⟩=>⟨by rw [← r.length];exact z,?_⟩)
  have hf:H1 s1.heap.objs.size=none:=I1.hok.fresh (Nat.le_refl _)
  refine ⟨.ref s1.heap.objs.size,upd H1 s1.heap.objs.size (.tup xs),I1.laid (t':=s1.toks) (fun b u e=>Heap.get?_push_of_some _ e) (Nat.le_refl _) ?_,rfl,q _ hf⟩
  exact ⟨z,us,r,⟨_,Heap.get?_push_size _ rfl,rfl,_,rfl⟩⟩
theorem zmc (h:PA X es t):PE X (.List es pos) (zvc t):=by
  intro pins s σ H Q I hq
  refine wpAny_List_spliced (thn (h pos pins s σ H _ I hq) fun us s1 ⟨xs,H1,I1,r,z,q⟩=>⟨by rw [← r.length];exact z,?_⟩)
  have hf:H1 s1.heap.objs.size=none:=I1.hok.fresh (Nat.le_refl _)
  refine ⟨.ref s1.heap.objs.size,upd H1 s1.heap.objs.size (.lst xs),I1.laid (t':=s1.toks) (fun b u e=>Heap.get?_push_of_some _ e) (Nat.le_refl _) ?_,rfl,q _ hf⟩
  exact ⟨z,us,0,r,Heap.get?_push_size _ rfl⟩
end
noncomputable abbrev Sp:=List V→Hp→VK→XK→Prop
noncomputable abbrev CXT:=List Env→Hp→Shared→XK→Value→Shared→Prop
structure Env0 (P:Program) (w:World) (K:PySem.W.Frag) (mg:Str→Option Value) (base:Heap) (A:Around) (outer:List Env) (s:Shared) (H:Hp):Prop where
  frames:A.frames=some outer
  mod:Mod K mg base
  bs:∀ b o,base.get? b=some o→s.heap.get? b=some o∧H b=none
  bsz:base.objs.size≤s.heap.objs.size
  funs:s.heap.FunFrames base outer
  frf:∀ b∈frs outer,H b=none
  hok:HOk P w H s.heap
  bare:AllBare s.gens
noncomputable def CE (outer:List Env) (P:Program) (w:World) (H:Hp) (s:Shared) (Q:VK) (u:Value) (s':Shared):Prop :=
  ∃ v H',s'.os=s.os∧AllBare s'.gens∧Un (frs outer) [] H H' s.heap s'.heap∧HOk P w H' s'.heap∧RelV v u∧Q v H'
noncomputable def CR (CX:CXT) (outer:List Env) (P:Program) (w:World) (H:Hp) (s:Shared) (Q:VK) (E:XK) (r:Result) (s':Shared):Prop :=
  match r with
  | .ok (.ret u)=>CE outer P w H s Q u s'
  | .ok _=>False
  | .error e=>CX outer H s E e s'
structure FnOk (P:Program) (w:World) (K:PySem.W.Frag) (mg:Str→Option Value) (base:Heap) (CX:CXT) (k:Nat) (f:Addr) (fd:FuncData) (ps:List Str) (sp:Sp):Prop where
  len:∀ vs H Q E,sp vs H Q E→vs.length=ps.length
  run:∀ (A:Around) (outer:List Env) (s:Shared) (H:Hp) (args:Args) (us:List Value) (vs:List V) (Q:VK) (E:XK),Room k A→Env0 P w K mg base A outer s H→BindsTo s fd args (ps.zip us)→Vals vs us→sp vs H Q E →
    codeAny (model P w) A (.call (.ref f) args) (CR CX outer P w H s Q E) s
theorem FnOk.imp {P:Program} {w:World} {K:PySem.W.Frag} {mg:Str→Option Value} {base:Heap} {CX:CXT} {k:Nat} {f:Addr} {fd:FuncData} {ps:List Str} {sp sp':Sp} (F:FnOk P w K mg base CX k f fd ps sp)
    (h:∀ vs H Q E,sp' vs H Q E→sp vs H Q E):FnOk P w K mg base CX k f fd ps sp' :=
  ⟨fun vs H Q E q=>F.len vs H Q E (h _ _ _ _ q),fun A outer s H args us vs Q E hr he hb hv hs=>F.run A outer s H args us vs Q E hr he hb hv (h _ _ _ _ hs)⟩
section
variable {X:Cx} {pins:List (Addr×Obj)} {σ:St} {H:Hp} {s s':Shared}
theorem Inv.env0 (I:Inv X pins σ H s):Env0 X.prog X.w X.K X.mg X.base X.A X.stack s H :=
  ⟨I.ok.frames,I.ok.mod,I.bs,Nat.le_trans I.ok.bsz I.sz,I.stack,I.stkFree,I.hok,I.bare⟩
theorem Inv.after {Q:VK} {u:Value} (I:Inv X pins σ H s) (h:CE X.stack X.prog X.w H s Q u s'):EP X pins σ Q u s':=by
  obtain ⟨v,H',os,bare,un,hok,r,q⟩:=h
  obtain ⟨hh,g,d,t,os'⟩:=s'
  obtain rfl:os'=s.os:=os
  exact ⟨v,H',I.call (h':=hh) (g':=g) (d':=d) (t':=t) (ch:=[]) un hok bare (fun b z=>absurd z (by simp)),r,q⟩
end
def zps (sp:Sp) (dvs:List V) (E:XK) (t:TA):TE:=fun σ H Q=>t σ H fun vs H1=>sp (vs++dvs) H1 Q E
noncomputable def Binds (K:PySem.W.Frag) (fd:FuncData) (ps:List Str) (ds:List Value):Prop :=
  ∀ (s:Shared) (us:List Value),K.In s.heap→(us++ds).length=ps.length→BindsTo s fd ⟨us,[]⟩ (ps.zip (us++ds))
theorem Binds.all {K:PySem.W.Frag} {fd:FuncData} {ps:List Str} (h:∀ us:List Value,us.length=ps.length→bindArgs fd ⟨us,[]⟩=pure (ps.zip us)):Binds K fd ps []:=fun s us _ hl=>by
  rw [List.append_nil] at hl ⊢
  exact .of_eq (h us hl)
def zfp (CX:CXT) (X:Cx) (E:XK):Prop:=∀ (pins:List (Addr×Obj)) (σ:St) (H:Hp) (s:Shared) (e:Value) (s':Shared),Inv X pins σ H s→CX X.stack H s E e s'→X.xe e s'
section
variable {X:Cx} {CX:CXT} {k:Nat} {f C:Addr} {fd:FuncData} {ps:List Str} {sp:Sp} {dvs:List V} {ds:List Value} {E:XK} {x m:Str} {p pos apos:Pos} {e o:Expr} {es:List Expr} {ta:TE} {t:TA}
theorem zpy {pins:List (Addr×Obj)} {σ:St} {H:Hp} {s:Shared} {Q:VK} {us:List Value} {vs:List V} (F:FnOk X.prog X.w X.K X.mg X.base CX k f fd ps sp) (hr:Room k X.A) (hb:Binds X.K fd ps ds) (hd:Vals dvs ds) (hx:zfp CX X E)
    (I:Inv X pins σ H s) (r:Vals vs us) (h:sp (vs++dvs) H Q E):wpAny (model X.prog X.w) X.A (call (.ref f) us) (EP X pins σ Q) X.xe s:=by
  have r2:Vals (vs++dvs) (us++ds):=r.append hd
  have hl:(us++ds).length=ps.length:=by rw [← r2.length];exact F.len _ _ _ _ h
  refine wpAny_call (codeAny_mono (F.run X.A X.stack s H ⟨us,[]⟩ (us++ds) (vs++dvs) Q E hr I.env0 (hb s us I.kIn hl) r2 h) fun r s' hq=>?_)
  cases r with
  | error e=>exact hx pins σ H s e s' I hq
  | ok fl =>
    cases fl with
    | ret u=>exact I.after hq
    | next=>exact False.elim hq
    | brk=>exact False.elim hq
    | cont=>exact False.elim hq
theorem zo2 (F:FnOk X.prog X.w X.K X.mg X.base CX k f fd ps sp) (hr:Room k X.A) (hg:Gl X x) (hm:X.mg x=some (.ref f)) (hk:PySem.W.keepIn X.K (.ref f)=true) (hb:Binds X.K fd ps ds) (hd:Vals dvs ds) (hx:zfp CX X E)
    (ha:PA X (e::es) t) (hdb:(x==("__debug__" : Str))=false:=by decide) (he:starEach (e::es) X.env=(false,eval e X.env)::starEach es X.env:=by rfl) (hpl:(backTo pos (starEach es X.env)).any (·.1)=false:=by rfl) :
    PE X (.Call (.Name x p) (e::es) [] pos) (zps sp dvs E t):=by
  intro pins s σ H Q I h
  refine wpAny_Call_Name_kw (zc7 I hg hm ?_ hdb)
  refine PySem.W.callWith_K (h₀:=X.base) I.ok.mod.kin hk (thn (ha pos pins s σ H _ I h) fun us s1 ⟨vs,H1,I1,r,q⟩=>⟨I1.kIn,?_⟩) he hpl
  exact zpy F hr hb hd hx I1 r q
end
section
variable {X:Cx} {CX:CXT} {k:Nat} {f C:Addr} {fd:FuncData} {ps ks:List Str} {sp:Sp} {E:XK} {x m:Str} {p pos apos kpos:Pos} {e o:Expr} {es:List Expr} {kws:List Keyword} {te ta:TE} {t tk:TA} {nm:Option Str}
variable {g:List Value→List Value→List Value} {gV:List V→List V→List V}
end
structure FnScope (N P:List Str) (sc:Scope):Prop where
  kind:sc.kind=.function
  co:sc.isCoroutine=false
  gen:sc.isGenerator=false
  nd:N.Nodup
  pre:N.take P.length=P
  par:∀ x∈P,sc.names.lookup x=some .local∨sc.names.lookup x=some .cell
  nofree:∀ y∈sc.names,y.2≠.free
theorem zdd {kindOf:Str→Option NameKind} {x:Str}:∀ {binds:List (Str×Value)} {m:Str→Option Value},(∀ v,(x,v)∉binds)→bindL kindOf binds m x=m x
  | [],_,_=>rfl
  | (n,v)::r,m,h=>by
    unfold bindL
    rw [zdd fun w hw=>h w (List.mem_cons_of_mem _ hw)]
    split
    · have:x≠n:=by rintro rfl;exact h v List.mem_cons_self
      simp [this]
    · rfl
theorem zdf {kindOf:Str→Option NameKind} {x:Str}:∀ {binds:List (Str×Value)} {m:Str→Option Value},(∀ v,(x,v)∉binds)→bindC kindOf binds m x=m x
  | [],_,_=>rfl
  | (n,v)::r,m,h=>by
    unfold bindC
    rw [zdf fun w hw=>h w (List.mem_cons_of_mem _ hw)]
    split
    · rfl
    · have:x≠n:=by rintro rfl;exact h v List.mem_cons_self
      simp [this]
theorem zde {kindOf:Str→Option NameKind} {x:Str} {v:Value}:∀ {P:List Str} {vs:List Value} {i:Nat} {m:Str→Option Value},P.Nodup→P[i]?=some x→vs[i]?=some v→kindOf x=some .local →
    bindL kindOf (P.zip vs) m x=some v
  | [],_,_,_,_,h,_,_=>by simp at h
  | _::_,[],_,_,_,_,h,_=>by simp at h
  | p::P,w::vs,0,m,nd,h1,h2,hk=>by
    simp at h1 h2;subst h1;subst h2
    show bindL kindOf ((p,w)::P.zip vs) m p=_
    unfold bindL
    rw [zdd fun v hv=>(List.nodup_cons.mp nd).1 (List.of_mem_zip hv).1,if_pos hk]
    simp
  | p::P,w::vs,i+1,m,nd,h1,h2,hk=>by
    show bindL kindOf ((p,w)::P.zip vs) m x=_
    unfold bindL
    exact zde (i:=i) (List.nodup_cons.mp nd).2 (by simpa using h1) (by simpa using h2) hk
theorem zdg {kindOf:Str→Option NameKind} {x:Str} {v:Value}:∀ {P:List Str} {vs:List Value} {i:Nat} {m:Str→Option Value},P.Nodup→P[i]?=some x→vs[i]?=some v→kindOf x≠some .local →
    bindC kindOf (P.zip vs) m x=some v
  | [],_,_,_,_,h,_,_=>by simp at h
  | _::_,[],_,_,_,_,h,_=>by simp at h
  | p::P,w::vs,0,m,nd,h1,h2,hk=>by
    simp at h1 h2;subst h1;subst h2
    show bindC kindOf ((p,w)::P.zip vs) m p=_
    unfold bindC
    rw [zdf fun v hv=>(List.nodup_cons.mp nd).1 (List.of_mem_zip hv).1,if_neg hk]
    simp
  | p::P,w::vs,i+1,m,nd,h1,h2,hk=>by
    show bindC kindOf ((p,w)::P.zip vs) m x=_
    unfold bindC
    exact zdg (i:=i) (List.nodup_cons.mp nd).2 (by simpa using h1) (by simpa using h2) hk
noncomputable def zbp (N:List Str) (vs:List V):St:=vs.map some++List.replicate (N.length - vs.length) none
noncomputable def z5k (CX:CXT) (P:Program) (w:World) (K:PySem.W.Frag) (mg:Str→Option Value) (base:Heap) (N:List Str) (qual:Str) (scope:Scope) (f:Addr) (cd:Value) (A:Around) (outer:List Env) (s:Shared) (H:Hp) (E:XK):Cx where
  prog:=P
  w:=w
  K:=K
  mg:=mg
  base:=base
  A:=A.deeper (envOfC qual scope s.heap.objs.size f cd)
  N:=N
  s₀:=s
  H₀:=H
  env:=envOfC qual scope s.heap.objs.size f cd
  outer:=outer
  stack:=envOfC qual scope s.heap.objs.size f cd::outer
  ex:=[]
  calm:=true
  fn:=fun _=>true
  pn:=[]
  xe:=fun e s'=>wpAny (model P w) (A.deeper (envOfC qual scope s.heap.objs.size f cd)) (leaving (envOfC qual scope s.heap.objs.size f cd) e) (fun _ s''=>CX outer H s E e s'') (fun e' s''=>CX outer H s E e' s'') s'
theorem zfm {sc:Scope} {n:Nat} {x:Str} (h:sc.names.lookup x=some .cell):∃ c,(cellsFrom n sc.names []).lookup x=some c:=by
  have q:=PySem.W.cellsFrom_some sc.names n [] (.inl h)
  exact Option.isSome_iff_exists.mp q
theorem zio {CX:CXT} {P:Program} {w:World} {K:PySem.W.Frag} {mg:Str→Option Value} {base:Heap} {N ps:List Str} {qual:Str} {scope:Scope} {f:Addr} {cd:Value} {A:Around} {outer:List Env} {s s1:Shared} {H:Hp} {E:XK} {us:List Value} {vs:List V}
    (S:FnScope N ps scope) (hd:A.handled=none) (e0:Env0 P w K mg base A outer s H) (hl:vs.length=ps.length) (r:Vals vs us)
    (x:InCallC s s.heap.objs.size (bindL (envOfC qual scope s.heap.objs.size f cd).kindOf (ps.zip us) fun _=>none) (cellsFrom (s.heap.objs.size+1) scope.names []) (bindC (envOfC qual scope s.heap.objs.size f cd).kindOf (ps.zip us) fun _=>none) s1) :
    Inv (z5k CX P w K mg base N qual scope f cd A outer s H E) [] (zbp N vs) H s1:=by
  have hpl:ps.length≤N.length:=by have:=congrArg List.length S.pre;rw [List.length_take] at this;omega
  obtain ⟨h1,tk,rfl,hk⟩:=x.done
  have noA:∀ b:Addr,b∉(z5k CX P w K mg base N qual scope f cd A outer s H E).ex:=fun b z=>absurd (show b∈([]:List Addr) from z) (by simp)
  refine ⟨⟨e0.mod,S.kind,rfl,rfl,Nat.le_refl _,fun y z c h1 h2=>?_,fun y hy=>?_,fun y c _ h=>?_,fun _=>hd,Around.frames_deeper e0.frames,.inr ⟨rfl,rfl⟩,fun b z=>absurd z (noA b),e0.bs,e0.bsz,fun b _ _=>noA b,fun b z=>absurd z (noA b),e0.funs,e0.frf⟩,
    rfl,e0.bare,Un.kept hk,⟨_,x.toInCall.ns,fun i y v h1 h2 h3=>?_⟩,fun y c h=>⟨_,x.cell y c h⟩,e0.hok.fresh (Nat.le_refl _),fun y c h=>?_,fun p hp=>absurd (show p∈([]:List (Addr×Obj)) from hp) (by simp),e0.hok.kept hk,?_⟩
  · exact name_of_addr x.apart (PySem.mem_of_lookup h1) (PySem.mem_of_lookup h2)
  · have hy:scope.names.lookup y=some .cell∨scope.names.lookup y=some .free:=hy
    rcases hy with hy | hy
    · exact zfm hy
    · exact absurd rfl (S.nofree _ (PySem.mem_of_lookup hy))
  · exact Nat.le_of_lt (x.above y c (PySem.mem_of_lookup h))
  · have hi:i<vs.length:=by
      unfold zbp at h2
      by_cases hi:i<vs.length
      · exact hi
      · rw [List.getElem?_append_right (by simpa using hi)] at h2
        rw [List.getElem?_replicate] at h2
        split at h2 <;> cases h2
    have ha:vs[i]?=some v:=by
      unfold zbp at h2
      rw [List.getElem?_append_left (by simpa using hi),List.getElem?_map] at h2
      cases e:vs[i]? with
      | none=>rw [e] at h2;cases h2
      | some a=>rw [e] at h2;cases h2;rfl
    obtain ⟨u,hu,rv⟩:=r.get ha
    have hp:ps[i]?=some y:=by
      rw [← S.pre,List.getElem?_take_of_lt (by omega)];exact h1
    have ndP:ps.Nodup:=by rw [← S.pre];exact S.nd.sublist (List.take_sublist _ _)
    refine ⟨u,rv,?_⟩
    rcases S.par y (List.mem_of_getElem? hp) with k | k
    · exact .inl ⟨k,zde ndP hp hu k⟩
    · obtain ⟨c,e⟩:=zfm (n:=s.heap.objs.size+1) k
      refine .inr ⟨.inl k,c,e,?_⟩
      have q:=x.cell y c e
      rw [zdg ndP hp hu (by show scope.names.lookup y≠_;rw [k];decide)] at q
      exact q
  · exact e0.hok.fresh (Nat.le_of_lt (x.above y c (PySem.mem_of_lookup h)))
  · unfold zbp
    show _=N.length
    rw [List.length_append,List.length_map,List.length_replicate]
    omega
theorem zrv {CX:CXT} {P:Program} {w:World} {K:PySem.W.Frag} {mg:Str→Option Value} {base:Heap} {k:Nat} {f:Addr} {name qual:Str} {params:Arguments} {body:List Stmt} {scope:Scope} {dV kV doc pm cdv ct oc:Value} {an od:Option Addr}
    {osl:Array (Option Value)} {N ps:List Str} {sp:Sp} (lk:K.lookup f=some ⟨oc,od,.func (PySem.W.fnOf name qual params body scope dV kV doc pm an cdv ct),osl⟩) (hcd:PySem.W.codeIn K cdv qual=true) (S:FnScope N ps scope)
    (len:∀ vs H Q E,sp vs H Q E→vs.length=ps.length)
    (hbody:∀ (A:Around) (outer:List Env) (s:Shared) (H:Hp) (vs:List V) (Q:VK) (E:XK),Room k (A.deeper (envOfC qual scope s.heap.objs.size f cdv))→sp vs H Q E →
      ∃ t,PSs (z5k CX P w K mg base N qual scope f cdv A outer s H E) body t∧t { nx:=fun _ H'=>Q .non H',rt:=Q } (zbp N vs) H) :
    FnOk P w K mg base CX (k+1) f (PySem.W.fnOf name qual params body scope dV kV doc pm an cdv ct) ps sp:=by
  refine ⟨len,fun A outer s H args us vs Q E hr e0 hb r hsp=>?_⟩
  have hl:=len _ _ _ _ hsp
  have KX:K.In s.heap:=e0.mod.kin.keeps fun b o e=>(e0.bs b o e).1
  have lim:s.heap.NoLimit:=e0.mod.nolimit.keeps fun b o e=>(e0.bs b o e).1
  have hkind:∀ y∈ps.zip us,scope.names.lookup y.1=some .local∨(scope.names.lookup y.1=some .cell∧((cellsFrom (s.heap.objs.size+1) scope.names []).lookup y.1).isSome=true):=fun ⟨n,v⟩ hy=>by
    rcases S.par n (List.of_mem_zip hy).1 with q | q
    · exact .inl q
    · exact .inr ⟨q,PySem.W.cellsFrom_some _ _ _ (.inl q)⟩
  refine codeAny_call_function hr.depth (KX _ _ lk) rfl S.co S.gen rfl (PySem.W.codeRec_of KX hcd) (hb _ _ _ _ ?_)
  refine wpAny_newFunctionEnv_cells S.kind hkind fun env he s1 x=>?_
  subst he
  refine ⟨lim.keeps x.toInCall.keep,codeAny_func ?_⟩
  refine bq fun bG=>?_
  obtain ⟨t,ht,hq⟩:=hbody A outer s H vs Q E (hr.deeper _) hsp
  have I:Inv (z5k CX P w K mg base N qual scope f cdv A outer s H E) [] (zbp N vs) H s1:=zio S hr.hd e0 hl r x
  refine bG (wpAny_mono (ht [] s1 (zbp N vs) H _ I hq) (fun fl s' hs=>?_) fun e s' hs=>hs)
  have fin:∀ {σ':St} {H':Hp} {v:V} {u:Value},Inv (z5k CX P w K mg base N qual scope f cdv A outer s H E) [] σ' H' s'→RelV v u→Q v H'→CE outer P w H s Q u s' :=
    fun {σ' H' v u} J rv q=>⟨v,H',J.os,J.bare,J.base,J.hok,rv,q⟩
  cases fl with
  | ret u =>
    obtain ⟨v,σ',H',J,rv,q⟩:=hs
    exact fin J rv q
  | next =>
    obtain ⟨σ',H',J,q⟩:=hs
    exact fin (v:=V.non) (u:=Value.none) J rfl q
  | brk =>
    obtain ⟨_,_,_,q⟩:=hs
    exact False.elim q
  | cont =>
    refine bq fun bG=>?_
    obtain ⟨_,_,_,q⟩:=hs
    exact bG (False.elim q)
section
variable {X:Cx} {x:Str} {p pos:Pos} {e:Expr} {es:List Expr} {t:TA} {id T:String} {r:List V→Hp→VK→Prop}
def tCB (r:List V→Hp→VK→Prop) (t:TA):TE:=fun σ H Q=>t σ H fun vs H1=>r vs H1 Q
theorem z72 (hc:zal X (.builtin id) r) (hg:Gl X x) (hm:X.mg x=none) (hv:bootBuiltins x=some (.builtin id)) (ha:PA X (e::es) t) (hn:x ≠ "__name__" := by decide) (hdb:(x==("__debug__" : Str))=false:=by decide)
    (he:starEach (e::es) X.env=(false,eval e X.env)::starEach es X.env:=by rfl) (hpl:(backTo pos (starEach es X.env)).any (·.1)=false:=by rfl):PE X (.Call (.Name x p) (e::es) [] pos) (tCB r t):=by
  intro pins s σ H Q I h
  refine wpAny_Call_Name_kw (zf8 I hg hm hv ?_ hn hdb)
  exact PyProof.Rows.callWith_builtin1 (thn (ha pos pins s σ H _ I h) fun us s1 ⟨vs,H1,I1,r1,q1⟩=>hc pins s1 σ H1 vs us Q I1 r1 q1) he hpl
theorem z9y (hc:zal X (.type T) r) (hg:Gl X x) (hm:X.mg x=none) (hv:bootBuiltins x=some (.type T)) (ha:PA X (e::es) t) (hn:x ≠ "__name__" := by decide) (hdb:(x==("__debug__" : Str))=false:=by decide)
    (he:starEach (e::es) X.env=(false,eval e X.env)::starEach es X.env:=by rfl) (hpl:(backTo pos (starEach es X.env)).any (·.1)=false:=by rfl):PE X (.Call (.Name x p) (e::es) [] pos) (tCB r t):=by
  intro pins s σ H Q I h
  refine wpAny_Call_Name_kw (zf8 I hg hm hv ?_ hn hdb)
  exact PyProof.Rows.callWith_type1 (thn (ha pos pins s σ H _ I h) fun us s1 ⟨vs,H1,I1,r1,q1⟩=>hc pins s1 σ H1 vs us Q I1 r1 q1) he hpl
end
end L2
namespace HT
open PySem PyProof.Rows
noncomputable def lexLt:List Int→List Int→Bool
  | [],[]=>false
  | [],_::_=>true
  | _::_,[]=>false
  | x::xs,y::ys=>if x=y then lexLt xs ys else decide (x<y)
theorem eqAt_int (A:Around) (s:Shared) (a:Int) (t:Tok) (c:Int) (u:Tok):∃ e,SeqAt.EqAt A s (.int a t) (.int c u) e∧(e=true↔a=c) :=
  ⟨(a==c),SeqAt.EqAt.int_int a t c u,by simp⟩
theorem rcLt_int (A:Around) (s:Shared) (a:Int) (t:Tok) (c:Int) (u:Tok) (prog:Program) (w:World) (E:Value→Shared→Prop) (Q:Value→Shared→Prop) (h:Q (.bool (decide (a<c))) s) :
    wpAny (model prog w) A (richCompare .Lt (.int a t) (.int c u)) Q E s :=
  (PyProof.Rows.lt_int h:wpAny (model prog w) A (compareOp .Lt (.int a t) (.int c u)) Q E s)
section
open PySem.SeqAt
open PySem.AutoSeq1 (wpAny_loadPart')
open PySem.MeetsSeq PySem.MeetsSeq2 PySem.MeetsSeq3
end
section
variable {prog:Program} {w:World} {A:Around} {E:Value→Shared→Prop} {s:Shared}
theorem cat_tup {t b:Addr} {vs ws:List Value} {Q:Value→Shared→Prop} (ht:IsTup s.heap t vs.toArray) (hb:IsTup s.heap b ws.toArray) (hv:vs≠[])
    (h1:ws=[]→Q (.ref t) s) (h2:ws≠[]→Q (.ref s.heap.objs.size) { s with heap:=s.heap.push { cls:=.type "tuple",data:=.seq (vs++ws).toArray } })
    (hsz:vs.length+ws.length≤sizeLine):wpAny (model prog w) A (binaryOp .Add (.ref t) (.ref b)) Q E s:=by
  obtain ⟨⟨cls,dd,data,sl⟩,ho,hc,n,hd⟩:=id ht
  obtain ⟨⟨cls2,dd2,data2,sl2⟩,ho2,hc2,n2,hd2⟩:=id hb
  simp only at hc hd hc2 hd2
  subst hc hd hc2 hd2
  have e:vs.toArray++ws.toArray=(vs++ws).toArray:=by simp
  by_cases hw:ws=[]
  · exact concat_meets ⟨_,ho,rfl⟩ ⟨_,ho2,rfl⟩ noFill_tuple_add seq_tuple_add PySem.F.slot_tuple_add PySem.F.entry_tuple_add (PySem.F.args_tuple_add_2 _ _)
      (tuple_addW1 t b vs.toArray ws.toArray n n2 dd dd2 sl sl2 (by simpa using hv) (by simp [hw])) ⟨ho,ho2,h1 hw⟩
  · refine concat_meets ⟨_,ho,rfl⟩ ⟨_,ho2,rfl⟩ noFill_tuple_add seq_tuple_add PySem.F.slot_tuple_add PySem.F.entry_tuple_add (PySem.F.args_tuple_add_2 _ _)
      (tuple_addW2 t b vs.toArray ws.toArray n n2 dd dd2 sl sl2 (by simpa using hv) (by simpa using hw) (by rw [List.size_toArray,List.size_toArray];exact hsz)) ⟨ho,ho2,?_⟩
    rw [e]
    exact h2 hw
noncomputable def sIx (n d:Nat):Option Int→Nat
  | none=>d
  | some v=>if v<0 then (v+(n:Int)).toNat else min v.toNat n
theorem sIx_none (n d:Nat):sIx n d none=d:=rfl
theorem sIx_nat (n d k:Nat):sIx n d (some (k:Int))=min k n:=by
  show (if (k:Int)<0 then ((k:Int)+(n:Int)).toNat else min (k:Int).toNat n)=min k n
  rw [if_neg (by omega),Int.toNat_natCast]
theorem zpx (n d:Nat) (hd:d≤n) (o:Option Int):sIx n d o≤n:=by
  cases o with
  | none=>exact hd
  | some v =>
    show (if v<0 then (v+(n:Int)).toNat else min v.toNat n)≤n
    by_cases hv:v<0
    · rw [if_pos hv];omega
    · rw [if_neg hv];exact Nat.min_le_right _ _
theorem zjb (v:Int) (n d:Nat):(if v<0 then max (v+(n:Int)) 0 else min v (n:Int))=((sIx n d (some v):Nat):Int):=by
  show (if v<0 then max (v+(n:Int)) 0 else min v (n:Int))=(((if v<0 then (v+(n:Int)).toNat else min v.toNat n):Nat):Int)
  by_cases hv:v<0
  · simp only [if_pos hv];omega
  · simp only [if_neg hv];omega
theorem zgq (lo hi:Option Int) (n:Nat):Builtin.Slice.sliceAdjust lo hi 1 (n:Int)=(((sIx n 0 lo:Nat):Int),((sIx n n hi:Nat):Int)):=by
  have h1:¬ ((1:Int)<0):=by omega
  unfold Builtin.Slice.sliceAdjust
  simp only [h1,if_false]
  refine Prod.ext ?_ ?_
  · cases lo with
    | none=>rfl
    | some v=>exact zjb v n 0
  · cases hi with
    | none=>rfl
    | some v=>exact zjb v n n
theorem zg5 (i j:Nat):Builtin.Slice.slicePlaces (i:Int) (j:Int) 1=j - i:=by
  unfold Builtin.Slice.slicePlaces
  have h1:(1:Int) > 0:=by omega
  simp only [h1,if_true,Int.ediv_one]
  split <;> omega
theorem zb5 {v:Value} {o:Option Int} {Q:Option Int→Shared→Prop} (p:IsPart v o) (h:Q o s):wpAny (model prog w) A (Builtin.Slice.slicePartIndex v) Q E s:=by
  cases p with
  | none=>exact slicePart_none h
  | int i t=>exact slicePart_int h
theorem z97 {sl:Addr} {vl vu:Value} {lo hi:Option Int} {n:Nat} {Q:Int×Int×Nat→Shared→Prop} (hs:s.heap.IsSliceOf sl vl vu .none) (pl:IsPart vl lo) (pu:IsPart vu hi)
    (h:Q (((sIx n 0 lo:Nat):Int),1,sIx n n hi - sIx n 0 lo) s):wpAny (model prog w) A (Builtin.Slice.sliceApplied (.ref sl) (pure (n:Int))) Q E s:=by
  obtain ⟨os,hos,hcs,hds⟩:=id hs
  unfold Builtin.Slice.sliceApplied Builtin.Slice.sliceFields
  refine wpAny_bind (wpAny_bind (wpAny_field hos hds (x:=vl) rfl (wpAny_bind (wpAny_field hos hds (x:=vu) rfl (wpAny_bind (wpAny_field hos hds (x:=.none) rfl (wpAny_pure ?_)))))))
  refine wpAny_bind (slicePart_none ?_)
  show wpAny _ _ (if ((1:Int)==0)=true then _ else _) _ _ s
  rw [if_neg (by decide)]
  refine wpAny_bind (zb5 pl (wpAny_bind (zb5 pu (wpAny_bind (wpAny_pure ?_)))))
  show wpAny _ _ (match Builtin.Slice.sliceAdjust lo hi 1 (n:Int) with | (lo,hi)=>pure (lo,(1:Int),Builtin.Slice.slicePlaces lo hi 1)) _ _ s
  rw [zgq lo hi n]
  show wpAny _ _ (pure (((sIx n 0 lo:Nat):Int),(1:Int),Builtin.Slice.slicePlaces ((sIx n 0 lo:Nat):Int) ((sIx n n hi:Nat):Int) 1)) _ _ s
  rw [zg5]
  exact wpAny_pure h
theorem zkz (xs:Array Value) (i k:Nat):((List.range k).filterMap fun (m:Nat)=>xs[((i:Int)+(m:Int)*1).toNat]?).toArray=((xs.toList.drop i).take k).toArray:=by
  have e:(fun (m:Nat)=>xs[((i:Int)+(m:Int)*1).toNat]?)=fun m=>xs[i+m]?:=by
    funext m
    have:((i:Int)+(m:Int)*1).toNat=i+m:=by omega
    rw [this]
  rw [e]
  have:=pick_run xs i k
  rw [List.filterMap_map] at this
  have e2:((fun x=>xs[x]?) ∘ fun x=>i+x)=fun m=>xs[i+m]?:=rfl
  rw [e2] at this
  rw [this]
theorem getItem_tuple_cut {t sl:Addr} {items:Array Value} {vl vu:Value} {lo hi:Option Int} {Q:Value→Shared→Prop} (ht:IsTup s.heap t items) (hs:s.heap.IsSliceOf sl vl vu .none) (pl:IsPart vl lo) (pu:IsPart vu hi)
    (hw:¬ (sIx items.size 0 lo=0∧sIx items.size items.size hi=items.size))
    (h:Q (.ref s.heap.objs.size) { s with heap:=s.heap.push { cls:=.type "tuple",data:=.seq ((items.toList.drop (sIx items.size 0 lo)).take (sIx items.size items.size hi - sIx items.size 0 lo)).toArray } })
    (hsz:items.size≤sizeLine):wpAny (model prog w) A (getItem (.ref t) (.ref sl)) Q E s:=by
  have htake:sizeOk (.seq ((items.toList.drop (sIx items.size 0 lo)).take (sIx items.size items.size hi - sIx items.size 0 lo)).toArray):=by
    show ((items.toList.drop (sIx items.size 0 lo)).take (sIx items.size items.size hi - sIx items.size 0 lo)).toArray.size≤sizeLine
    rw [List.size_toArray,List.length_take,List.length_drop,Array.length_toList]
    omega
  have hj:sIx items.size items.size hi≤items.size:=zpx _ _ (Nat.le_refl _) hi
  obtain ⟨os,hos,hcs,hds⟩:=id hs
  have hTs:s.TypeIs (.ref sl) "slice" := ⟨os,hos,hcs⟩
  unfold getItem
  try with_reducible refine wpAny_holding ?_
  first | refine wpAny_bind (wpAny_pure ?_) | skip
  refine wpAny_bind (wpAny_sequenceKey ht.typeIs (by decide) ?_)
  refine wpAny_bind (wpAny_callSpecial?_slot (name:=Str.ofString "__getitem__") ht.typeIs PyProof.Rows.slot_tuple_getitem
    (wpAny_call_entry PyProof.Rows.slot_tuple_getitem ht.typeIs entry_tuple_getitem ?_ (args_tuple_getitem _ _)))
  show wpAny _ _ (Builtin.Tuple.tupleItemsOf (.ref t) >>= _) _ _ s
  refine wpAny_bind (tupleItemsOf_ ht ?_)
  refine wpAny_bind (wpAny_typeOf hTs ?_)
  rw [if_pos (by decide)]
  refine wpAny_bind (z97 hs pl pu ?_)
  have hno:¬ ((((sIx items.size 0 lo:Nat):Int)==0&&(1:Int)==1&&(sIx items.size items.size hi - sIx items.size 0 lo)==items.size)=true):=by
    intro q
    rw [Bool.and_eq_true,Bool.and_eq_true] at q
    have q1:((sIx items.size 0 lo:Nat):Int)=0:=eq_of_beq q.1.1
    have q2:sIx items.size items.size hi - sIx items.size 0 lo=items.size:=eq_of_beq q.2
    exact hw ⟨by omega,by omega⟩
  show wpAny _ _ (if (((sIx items.size 0 lo:Nat):Int)==0&&(1:Int)==1&&(sIx items.size items.size hi - sIx items.size 0 lo)==items.size)=true then _ else _) _ _ s
  rw [if_neg hno,zkz]
  first
    | exact wpAny_bind (m:=Builtin.Tuple.tupleExact _) (wpAny_newObj_type (wpAny_pure ⟨_,rfl,wpAny_pure h⟩) htake)
    | exact wpAny_bind (m:=Builtin.Tuple.tupleExact _) (wpAny_newObj_type (wpAny_bind (wpAny_pure (wpAny_pure ⟨_,rfl,wpAny_pure h⟩))) htake)
    | exact wpAny_bind (wpAny_bind (m:=Builtin.Tuple.tupleExact _) (wpAny_newObj_type (wpAny_pure (wpAny_pure ⟨_,rfl,wpAny_pure h⟩)) htake))
    | exact wpAny_bind (wpAny_bind (m:=Builtin.Tuple.tupleExact _) (wpAny_newObj_type (wpAny_pure ⟨_,rfl,wpAny_pure h⟩) htake))
end
end HT
namespace L2
open PySem PySem.Spec PyProof.Rows
noncomputable abbrev TO:=St→Hp→(Option Int→Hp→Prop)→Prop
noncomputable def PO (X:Cx) (e:Option Expr) (t:TO):Prop :=
  ∀ (pins:List (Addr×Obj)) (s:Shared) (σ:St) (H:Hp) (Q:Option Int→Hp→Prop),Inv X pins σ H s→t σ H Q →
    wpAny (model X.prog X.w) X.A (evalPart e X.env) (fun u s'=>∃ o H',Inv X pins σ H' s'∧IsPart u o∧Q o H') X.xe s
noncomputable def zn9:TO:=fun _ H Q=>Q none H
noncomputable def zt5 (t:TE):TO:=fun σ H Q=>t σ H fun x H1=>∃ i,x=.int i∧Q (some i) H1
theorem z88 {ns:List Int}:∀ {us:List Value},Vals (ns.map V.int) us→IntsAre us ns:=by
  induction ns with
  | nil=>intro us r;rw [List.map_nil] at r;cases r;exact .nil
  | cons n ns ih =>
    intro us r
    rw [List.map_cons] at r
    cases r with
    | cons r1 r2 =>
      refine bq fun bG=>?_
      obtain ⟨t,e⟩:=r1
      subst e
      exact bG (.cons n t (ih r2))
section
variable {X:Cx} {e:Expr} {te:TE} {lo hi:Option Expr} {tl th:TO} {pos p2:Pos}
theorem znt:PO X none zn9:=by
  intro pins s σ H Q I h
  rw [evalPart_none]
  exact wpAny_pure ⟨none,H,I,.none,h⟩
theorem zns (h:PE X e te):PO X (some e) (zt5 te):=by
  intro pins s σ H Q I hw
  rw [evalPart_some]
  refine thn (h pins s σ H _ I hw) fun u s1 hm=>?_
  refine bq fun bG=>?_
  obtain ⟨x,H1,I1,r1,q1⟩:=hm
  refine bG (bq fun bG=>?_)
  obtain ⟨i,rfl,q⟩:=q1
  obtain ⟨t,rfl⟩:=r1
  exact bG (⟨some i,H1,I1,.int i t,q⟩)
noncomputable def SlR (X:Cx) (r:V→Option Int→Option Int→Hp→VK→Prop):Prop :=
  ∀ (pins:List (Addr×Obj)) (s:Shared) (σ:St) (H:Hp) (x:V) (v vl vu:Value) (lo hi:Option Int) (sl:Addr) (Q:VK),Inv X pins σ H s→RelV x v→s.heap.IsSliceOf sl vl vu .none→IsPart vl lo→IsPart vu hi→r x lo hi H Q →
    ∃ T id,typeLookup (.type T) "__getitem__" = pure (some (.builtin id))∧s.TypeIs v T∧wpAny (model X.prog X.w) X.A (getItem v (.ref sl)) (EP X pins σ Q) X.xe s
theorem SlR.or {r r':V→Option Int→Option Int→Hp→VK→Prop} (h:SlR X r) (h':SlR X r'):SlR X (fun x lo hi H Q=>r x lo hi H Q∨r' x lo hi H Q):=by
  intro pins s σ H x v vl vu lo hi sl Q I rx hs pl pu q
  rcases q with q | q
  · exact h pins s σ H x v vl vu lo hi sl Q I rx hs pl pu q
  · exact h' pins s σ H x v vl vu lo hi sl Q I rx hs pl pu q
def tSl (r:V→Option Int→Option Int→Hp→VK→Prop) (te:TE) (tl th:TO):TE:=fun σ H Q=>te σ H fun x H1=>tl σ H1 fun l H2=>th σ H2 fun u H3=>r x l u H3 Q
theorem zl2 {r:V→Option Int→Option Int→Hp→VK→Prop} (hr:SlR X r) (he:PE X e te) (hl:PO X lo tl) (hu:PO X hi th):PE X (.Subscript e (.Slice lo hi none p2) pos) (tSl r te tl th):=by
  intro pins s σ H Q I h
  refine Subscript_ (thn (he pins s σ H _ I h) fun v s1 hm=>?_)
  refine bq fun bG=>?_
  obtain ⟨x,H1,I1,r1,q1⟩:=hm
  refine bG (wpAny_Slice (thn (hl pins s1 σ H1 _ I1 q1) fun vl s2 ⟨l,H2,I2,pl,q2⟩=>thn (hu pins s2 σ H2 _ I2 q2) fun vu s3 hm=>?_))
  obtain ⟨u,H3,I3,pu,q3⟩:=hm
  rw [evalPart_none]
  refine wpAny_pure ?_
  have I4:Inv X pins σ H3 { s3 with heap:=s3.heap.push { cls:=.type "slice",data:=.fields #[vl,vu,.none] } }:=I3.kept (t':=s3.toks) fun b ob q=>Heap.get?_push_of_some _ q
  obtain ⟨T,id,hT,ht,hg⟩:=hr pins { s3 with heap:=s3.heap.push { cls:=.type "slice",data:=.fields #[vl,vu,.none] } } σ H3 x v vl vu l u s3.heap.objs.size Q I4 r1 (Heap.IsSliceOf.new ..) pl pu q3
  show wpAny (model X.prog X.w) X.A (subscriptTail e (.Slice lo hi none p2) v (.ref s3.heap.objs.size)) (EP X pins σ Q) X.xe { s3 with heap:=s3.heap.push { cls:=.type "slice",data:=.fields #[vl,vu,.none] } }
  exact tail_any (ops:=[.ref s3.heap.objs.size,v]) ht hT hg (by with_unfolding_all rfl)
noncomputable def zju (xs:List V) (lo hi:Option Int):List V:=(xs.drop (HT.sIx xs.length 0 lo)).take (HT.sIx xs.length xs.length hi - HT.sIx xs.length 0 lo)
theorem zad (xs:List V) (lo hi:Option Int):(zju xs lo hi).length≤xs.length:=by
  unfold zju
  rw [List.length_take,List.length_drop]
  omega
def zvh (K:PySem.W.Frag):V→Option Int→Option Int→Hp→VK→Prop:=fun x lo hi H Q=>∃ a xs,x=.ref a∧SqT K H a xs ∧
  ¬ (HT.sIx xs.length 0 lo=0∧HT.sIx xs.length xs.length hi=xs.length)∧∀ p,H p=none→Q (.ref p) (upd H p (.tup (zju xs lo hi)))
theorem zpt:SlR X (zvh X.K):=by
  intro pins s σ H x v vl vu lo hi sl Q I rx hs pl pu h
  refine bq fun bG=>?_
  obtain ⟨a,xs,rfl,hx,hw,q⟩:=h
  cases rx
  obtain ⟨its,r,ht,hz⟩:=I.tuple hx
  have hlen:its.toArray.size=xs.length:=by rw [List.size_toArray];exact r.length.symm
  refine bG (⟨"tuple",_,PyProof.Rows.slot_tuple_getitem.lookup,ht.typeIs,?_⟩)
  refine HT.getItem_tuple_cut ht hs pl pu (by rw [hlen];exact hw) ?_ (by rw [hlen];exact hz)
  rw [hlen]
  refine ⟨.ref s.heap.objs.size,_,I.laid (t':=s.toks) (o:=.tup (zju xs lo hi)) (fun b ob q=>Heap.get?_push_of_some _ q) (Nat.le_refl _) ?_,rfl,q _ (I.hok.fresh (Nat.le_refl _))⟩
  exact ⟨Nat.le_trans (zad xs lo hi) hz,_,(r.drop (HT.sIx xs.length 0 lo)).take (HT.sIx xs.length xs.length hi - HT.sIx xs.length 0 lo),IsTup.new _ _⟩
noncomputable def zq9 (K:PySem.W.Frag):R2:=fun x y H Q=>∃ a b xs ys,x=.ref a∧y=.ref b∧SqT K H a xs∧SqT K H b ys∧xs≠[]∧xs.length+ys.length≤sizeLine ∧
  (ys=[]→Q (.ref a) H)∧(ys≠[]→∀ p,H p=none→Q (.ref p) (upd H p (.tup (xs++ys))))
theorem Vals.nil_iff {xs:List V} {us:List Value} (r:Vals xs us):us=[]↔xs=[]:=by
  cases r with
  | nil=>simp
  | cons _ _=>simp
theorem zo5:OpR X (binaryOp .Add) (zq9 X.K):=by
  intro pins s σ H x y v u Q I rx ry h
  obtain ⟨a,b,xs,ys,rfl,rfl,ha,hb,hx,hz,q1,q2⟩:=h
  cases rx
  cases ry
  obtain ⟨its,r1,p1,_⟩:=I.tuple ha
  obtain ⟨its2,r2,p2,_⟩:=I.tuple hb
  refine HT.cat_tup p1 p2 (fun z=>hx (r1.nil_iff.mp z)) (fun z=>⟨.ref a,H,I,rfl,q1 (r2.nil_iff.mp z)⟩) (fun z=>?_) (by rw [← r1.length,← r2.length];exact hz)
  refine ⟨.ref s.heap.objs.size,_,I.laid (t':=s.toks) (o:=.tup (xs++ys)) (fun b ob q=>Heap.get?_push_of_some _ q) (Nat.le_refl _) ?_,rfl,q2 (fun w=>z (r2.nil_iff.mpr w)) _ (I.hok.fresh (Nat.le_refl _))⟩
  exact ⟨by rw [List.length_append];exact hz,_,r1.append r2,IsTup.new _ _⟩
end
noncomputable def ixN (n:Nat) (i:Int):Option Nat:=if 0≤i then (if i<n then some i.toNat else none) else if -(n:Int)≤i then some (i+n).toNat else none
noncomputable def atI {α:Type} (xs:List α) (i:Int):Option α:=(ixN xs.length i).bind fun j=>xs[j]?
theorem zim {n:Nat} {i:Int} {j:Nat} (h:ixN n i=some j):seqIndex? i n=some j∧j<n∧-(n:Int)≤i∧i<n:=by
  unfold ixN at h
  by_cases h0:0≤i
  · rw [if_pos h0] at h
    by_cases h1:i<n
    · rw [if_pos h1] at h
      have e:i.toNat=j:=Option.some.inj h
      exact ⟨by rw [seqIndex_of h0 h1,e],by omega,by omega,h1⟩
    · rw [if_neg h1] at h;cases h
  · rw [if_neg h0] at h
    by_cases h1:-(n:Int)≤i
    · rw [if_pos h1] at h
      have e:(i+n).toNat=j:=Option.some.inj h
      exact ⟨by rw [seqIndex_neg (by omega) h1,e],by omega,h1,by omega⟩
    · rw [if_neg h1] at h;cases h
theorem zed {α:Type} {xs:List α} {i:Int} {v:α} (h:atI xs i=some v):∃ j,seqIndex? i xs.length=some j∧xs[j]?=some v∧j<xs.length∧-(xs.length:Int)≤i∧i<xs.length:=by
  unfold atI at h
  cases e:ixN xs.length i with
  | none=>rw [e] at h;cases h
  | some j =>
    rw [e] at h
    refine bq fun bG=>?_
    obtain ⟨h1,h2,h3,h4⟩:=zim e
    exact bG (⟨j,h1,h,h2,h3,h4⟩)
theorem zjg {α:Type} {xs:List α} {j:Nat} {v:α} (h:xs[j]?=some v):atI xs (j:Int)=some v:=by
  have hj:j<xs.length:=(List.getElem?_eq_some_iff.mp h).1
  have e:ixN xs.length (j:Int)=some j:=by
    unfold ixN
    rw [if_pos (by omega),if_pos (by omega)];simp
  unfold atI;rw [e];exact h
theorem atI_last {α:Type} (xs:List α) (v:α):atI (xs++[v]) (-1)=some v:=by
  have hl:(xs++[v]).length=xs.length+1:=by simp
  have e:ixN (xs++[v]).length (-1)=some xs.length:=by
    unfold ixN
    rw [hl,if_neg (by decide),if_pos (by omega)]
    congr 1
    omega
  unfold atI
  rw [e]
  show (xs++[v])[xs.length]?=some v
  simp
def zjl (b:Expr):Prop:=∀ o i,subscripted b false o i=operate [o,i] (getItem o i)
noncomputable def IxR (X:Cx) (r:R2):Prop :=
  ∀ (value slice:Expr) (pins:List (Addr×Obj)) (s:Shared) (σ:St) (H:Hp) (x y:V) (v u:Value) (Q:VK),Inv X pins σ H s→RelV x v→RelV y u→r x y H Q →
    subscripted slice false v u=operate [v,u] (getItem v u)→wpAny (model X.prog X.w) X.A (subscriptTail value slice v u) (EP X pins σ Q) X.xe s
noncomputable def MtR (X:Cx) (id:String) (r:V→List V→Hp→VK→Prop):Prop :=
  ∀ (pins:List (Addr×Obj)) (s:Shared) (σ:St) (H:Hp) (x:V) (xs:List V) (v:Value) (us:List Value) (Q:VK),Inv X pins σ H s→RelV x v→Vals xs us→r x xs H Q →
    wpAny (model X.prog X.w) X.A (call (.builtin id) (v::us)) (EP X pins σ Q) X.xe s
section
variable {X:Cx} {a b:Expr} {ta tb:TE} {pos:Pos}
theorem IxR.or {r r':R2} (h:IxR X r) (h':IxR X r'):IxR X (fun x y H Q=>r x y H Q∨r' x y H Q):=by
  intro value slice pins s σ H x y v u Q I rx ry q hs
  rcases q with q | q
  · exact h value slice pins s σ H x y v u Q I rx ry q hs
  · exact h' value slice pins s σ H x y v u Q I rx ry q hs
theorem ztn {r:R2} (hr:IxR X r) (ha:PE X a ta) (hb:PE X b tb) (hs:zjl b):PE X (.Subscript a b pos) (tOp r ta tb):=by
  intro pins s σ H Q I h
  exact Subscript_ (zua ha hb I h fun v u s2 x y H2 I2 rx ry q=>hr a b pins s2 σ H2 x y v u Q I2 rx ry q (hs _ _))
noncomputable def zuq (K:PySem.W.Frag):R2:=fun x y H Q=>∃ p xs i v,x=.ref p∧y=.int i∧SqL K H p xs∧atI xs i=some v∧Q v H
noncomputable def zuo (K:PySem.W.Frag):R2:=fun x y H Q=>∃ p xs i v,x=.ref p∧y=.int i∧SqT K H p xs∧atI xs i=some v∧Q v H
noncomputable def zup:R2:=fun x y H Q=>∃ z i c,x=.str z∧y=.int i∧z.length≤sizeLine∧atI z.cps.toList i=some c∧Q (.str ⟨#[c]⟩) H
theorem ix_list:IxR X (zuq X.K):=by
  intro value slice pins s σ H x y v u Q I rx ry h hs
  obtain ⟨p,xs,i,z,rfl,rfl,hq,he,q⟩:=h
  cases rx
  obtain ⟨t,rfl⟩:=ry
  obtain ⟨its,r,pl,hz⟩:=I.list hq
  obtain ⟨j,h1,h2,h3,h4,h5⟩:=zed he
  obtain ⟨w,ew,rw'⟩:=r.get h2
  have hl:=r.length
  have hn:=zbe
  have fin:EP X pins σ Q w s:=⟨z,H,I,rw',q⟩
  by_cases h0:0≤i
  · have hj:i.toNat=j:=by
      rw [seqIndex_of h0 h5] at h1
      exact Option.some.inj h1
    exact item_listR pl.isList h0 (by omega) (by rw [hj];simpa using ew) fin hs
  · have hj:(i+(its.toArray.size:Int)).toNat=j:=by
      rw [seqIndex_neg (by omega) h4] at h1
      rw [List.size_toArray,← hl]
      exact Option.some.inj h1
    exact subscriptTail_builtinR (x:=w) pl.isList.typeIs slot_list_getitem.lookup
      (wpAny_getItem_list_neg (Q:=fun r s'=>r=w∧EP X pins σ Q r s') pl.isList (by omega) (by rw [List.size_toArray] <;> omega) (by omega) (by rw [hj];simpa using ew) ⟨rfl,fin⟩) hs
theorem ix_tup:IxR X (zuo X.K):=by
  intro value slice pins s σ H x y v u Q I rx ry h hs
  obtain ⟨p,xs,i,z,rfl,rfl,hq,he,q⟩:=h
  cases rx
  obtain ⟨t,rfl⟩:=ry
  obtain ⟨its,r,pl,hz⟩:=I.tuple hq
  obtain ⟨j,h1,h2,h3,h4,h5⟩:=zed he
  obtain ⟨w,ew,rw'⟩:=r.get h2
  have hl:=r.length
  have hn:=zbe
  have fin:EP X pins σ Q w s:=⟨z,H,I,rw',q⟩
  exact subscriptTail_builtinR (x:=w) pl.typeIs slot_tuple_getitem.lookup
    (getItem_tuple (j:=j) (Q:=fun r s'=>r=w∧EP X pins σ Q r s') pl (by omega) (by omega) (by rw [List.size_toArray,← hl];exact h1) (by simpa using ew) ⟨rfl,fin⟩) hs
theorem zrp:IxR X zup:=by
  intro value slice pins s σ H x y v u Q I rx ry h hs
  obtain ⟨z,i,c,rfl,rfl,hz,he,q⟩:=h
  obtain ⟨t,rfl⟩:=rx
  obtain ⟨t',rfl⟩:=ry
  obtain ⟨j,h1,h2,h3,h4,h5⟩:=zed he
  have hl:z.cps.toList.length=z.length:=by simp [Str.length]
  rw [hl] at h1 h4 h5
  have hn:=zbe
  exact tail_any (typeIs_str s z t) slot_str_getitem.lookup (getItem_str (c:=c) (by
    have e1:decide (i < -(2 ^ 63:Int))=false:=decide_eq_false (by omega)
    have e2:decide (i≥2 ^ 63)=false:=decide_eq_false (by omega)
    rw [e1,e2,Bool.or_false]) (by rw [h1];simpa using h2) ⟨.str ⟨#[c]⟩,H,I.tok _,⟨_,rfl⟩,q⟩) hs
noncomputable def rIx (K:PySem.W.Frag):R2:=fun x y H Q=>zuq K x y H Q∨zuo K x y H Q∨zup x y H Q
theorem zrq:IxR X (rIx X.K):=ix_list.or (ix_tup.or zrp)
theorem zgb (its:List Value) (n j:Nat) (u:Value):Obj.mapSeq (·.setIfInBounds j u) { cls:=.type "list",data:=.seq its.toArray n }={ cls:=.type "list",data:=.seq (its.set j u).toArray n }:=by
  simp [Obj.mapSeq]
theorem Inv.lst {pins:List (Addr×Obj)} {σ:St} {H:Hp} {s:Shared} {p:Addr} {xs:List V} (I:Inv X pins σ H s) (h:H p=some (.lst xs)) :
    ∃ (its:List Value) (n:Nat),Vals xs its∧s.heap.get? p=some { cls:=.type "list",data:=.seq its.toArray n }∧xs.length≤sizeLine:=by
  refine bq fun bG=>?_
  obtain ⟨z,its,n,r,e⟩:=I.hok p _ h
  exact bG (⟨its,n,r,e,z⟩)
theorem Inv.lstUpd {pins:List (Addr×Obj)} {σ:St} {H:Hp} {s:Shared} {p:Addr} {xs ys:List V} {its its':List Value} {n n':Nat} {f:Obj→Obj} (I:Inv X pins σ H s) (h:H p=some (.lst xs))
    (ho:s.heap.get? p=some { cls:=.type "list",data:=.seq its.toArray n }) (hf:f { cls:=.type "list",data:=.seq its.toArray n }={ cls:=.type "list",data:=.seq its'.toArray n' }) (r:Vals ys its') (hz:ys.length≤sizeLine) (t:Nat) :
    Inv X pins σ (upd H p (.lst ys)) { s with heap:=s.heap.update p f,toks:=t }:=by
  have e:(s.heap.update p f).get? p=some { cls:=.type "list",data:=.seq its'.toArray n' }:=by
    rw [Heap.get?_update_self f ho (by rw [hf] <;> rfl),hf]
  refine I.write (x:=p) (e:=p) (by rw [h];trivial) (.inl rfl) (fun b u hb q=>(Heap.get?_update_other _ _ (Ne.symm hb)).trans q) ⟨_,e⟩ ?_
  exact ⟨hz,its',n',r,e⟩
def ztf:V→V→V→Hp→(Hp→Prop)→Prop:=fun o i v H Q=>∃ p xs k j,o=.ref p∧i=.int k∧H p=some (.lst xs)∧ixN xs.length k=some j∧Q (upd H p (.lst (xs.set j v)))
theorem zkk:zv3 X ztf:=by
  intro pins s σ H o i v ov iv u Q I ro ri rv h
  obtain ⟨p,xs,k,j,rfl,rfl,hp,hj,q⟩:=h
  cases ro
  obtain ⟨t,rfl⟩:=ri
  obtain ⟨its,n,r,ho,hz⟩:=I.lst hp
  obtain ⟨h1,h2,h3,h4⟩:=zim hj
  have hl:=r.length
  have hn:=zbe
  have I':Inv X pins σ (upd H p (.lst (xs.set j v))) { s with heap:=s.heap.update p (Obj.mapSeq (·.setIfInBounds j u)) } :=
    I.lstUpd hp ho (zgb its n j u) (r.set rv j) (by rw [List.length_set];exact hz) s.toks
  by_cases h0:0≤k
  · have hk:k.toNat=j:=by
      rw [seqIndex_of h0 h4] at h1
      exact Option.some.inj h1
    exact PySem.W.ki_setAt ho h0 (by omega) (by rw [List.size_toArray,← hl];exact h4) (by rw [hk];exact ⟨_,I',q⟩)
  · have hk:(k+(its.toArray.size:Int)).toNat=j:=by
      rw [seqIndex_neg (by omega) h3] at h1
      rw [List.size_toArray,← hl]
      exact Option.some.inj h1
    exact PySem.W.ki_setBack ho (by omega) (by rw [List.size_toArray,← hl];exact h3) (by omega) (by rw [hk];exact ⟨_,I',q⟩)
theorem zcs (lo hi:Option Int) (n:Nat):(sliceBounds lo hi none n).1=((HT.sIx n 0 lo:Nat):Int)∧(sliceBounds lo hi none n).2.1=((HT.sIx n n hi:Nat):Int)∧(sliceBounds lo hi none n).2.2=1:=by
  refine ⟨?_,?_,rfl⟩
  · cases lo with
    | none=>simp [sliceBounds,HT.sIx]
    | some i =>
      simp only [sliceBounds,HT.sIx,Option.getD_none,show (1:Int) > 0 by decide,if_true]
      by_cases h:i<0
      · simp only [h,if_true] <;> omega
      · simp only [h,if_false] <;> omega
  · cases hi with
    | none=>simp [sliceBounds,HT.sIx]
    | some i =>
      simp only [sliceBounds,HT.sIx,Option.getD_none,show (1:Int) > 0 by decide,if_true]
      by_cases h:i<0
      · simp only [h,if_true] <;> omega
      · simp only [h,if_false] <;> omega
theorem zbq (its:List Value) (lo hi:Option Int):slicePick its.toArray lo hi none=((its.drop (HT.sIx its.length 0 lo)).take (HT.sIx its.length its.length hi - HT.sIx its.length 0 lo)).toArray:=by
  obtain ⟨h1,h2,h3⟩:=zcs lo hi its.toArray.size
  unfold slicePick
  rw [h1,h2,h3]
  simp only [sliceRange_one,pick_run,List.size_toArray] <;> rfl
def zvi (K:PySem.W.Frag):V→Option Int→Option Int→Hp→VK→Prop:=fun x lo hi H Q=>∃ a xs,x=.ref a∧SqL K H a xs∧∀ p,H p=none→Q (.ref p) (upd H p (.lst (zju xs lo hi)))
theorem sl_list:SlR X (zvi X.K):=by
  intro pins s σ H x v vl vu lo hi sl Q I rx hs pl pu h
  refine bq fun bG=>?_
  obtain ⟨a,xs,rfl,hx,q⟩:=h
  cases rx
  obtain ⟨its,r,ht,hz⟩:=I.list hx
  have hlen:=r.length
  refine bG (⟨"list",_,slot_list_getitem.lookup,ht.isList.typeIs,?_⟩)
  refine wpAny_getItem_list_slice ht.isList hs pl pu .none (by simp) ?_ (by rw [List.size_toArray] <;> omega)
  rw [zbq,← hlen]
  refine ⟨.ref s.heap.objs.size,_,I.laid (t':=s.toks) (o:=.lst (zju xs lo hi)) (fun b ob q=>Heap.get?_push_of_some _ q) (Nat.le_refl _) ?_,rfl,q _ (I.hok.fresh (Nat.le_refl _))⟩
  exact ⟨Nat.le_trans (zad xs lo hi) hz,_,0,(r.drop (HT.sIx xs.length 0 lo)).take (HT.sIx xs.length xs.length hi - HT.sIx xs.length 0 lo),Heap.get?_push_size _ rfl⟩
noncomputable def zau:V→Bool
  | .non=>true
  | .bl _=>true
  | .int _=>true
  | .str _=>true
  | _=>false
noncomputable def eqV:V→V→Bool
  | .non,.non=>true
  | .bl a,.bl b=>a==b
  | .bl a,.int b=>(if a then 1 else 0)==b
  | .int a,.bl b=>a==(if b then 1 else 0)
  | .int a,.int b=>a==b
  | .str a,.str b=>a==b
  | _,_=>false
theorem zs3 {A:Around} {s:Shared} {y x:V} {u v:Value} (ry:RelV y u) (rx:RelV x v) (fy:zau y=true) (fx:zau x=true):SeqAt.EqAt A s u v (eqV y x):=by
  cases y with
  | non =>
    cases ry
    cases x with
    | non=>cases rx;exact SeqAt.EqAt.same _
    | bl b=>cases rx;exact SeqAt.EqAt.none_bool b
    | int b=>obtain ⟨t,rfl⟩:=rx;exact SeqAt.EqAt.none_int b t
    | str b=>obtain ⟨t,rfl⟩:=rx;exact SeqAt.EqAt.none_str b t
    | _=>exact absurd (show false=true from fx) Bool.false_ne_true
  | bl a =>
    cases ry
    cases x with
    | non=>cases rx;exact SeqAt.EqAt.bool_none a
    | bl b=>cases rx;exact SeqAt.EqAt.bool_bool a b
    | int b=>obtain ⟨t,rfl⟩:=rx;exact SeqAt.EqAt.bool_int a b t
    | str b=>obtain ⟨t,rfl⟩:=rx;exact SeqAt.EqAt.bool_str a b t
    | _=>exact absurd (show false=true from fx) Bool.false_ne_true
  | int a =>
    obtain ⟨t',rfl⟩:=ry
    cases x with
    | non=>cases rx;exact SeqAt.EqAt.int_none a t'
    | bl b=>cases rx;exact SeqAt.EqAt.int_bool a t' b
    | int b=>obtain ⟨t,rfl⟩:=rx;exact SeqAt.EqAt.int_int a t' b t
    | str b=>obtain ⟨t,rfl⟩:=rx;exact SeqAt.EqAt.int_str a t' b t
    | _=>exact absurd (show false=true from fx) Bool.false_ne_true
  | str a =>
    obtain ⟨t',rfl⟩:=ry
    cases x with
    | non=>cases rx;exact SeqAt.EqAt.str_none a t'
    | bl b=>cases rx;exact SeqAt.EqAt.str_bool a t' b
    | int b=>obtain ⟨t,rfl⟩:=rx;exact SeqAt.EqAt.str_int a t' b t
    | str b=>obtain ⟨t,rfl⟩:=rx;exact SeqAt.EqAt.str_str a t' b t
    | _=>exact absurd (show false=true from fx) Bool.false_ne_true
  | _=>exact absurd (show false=true from fy) Bool.false_ne_true
noncomputable def eqU (x:V) (u:Value):Bool:=match u with
  | .none=>eqV .non x
  | .bool b=>eqV (.bl b) x
  | .int i _=>eqV (.int i) x
  | .str z _=>eqV (.str z) x
  | _=>false
theorem zmm {x y:V} {u:Value} (r:RelV y u) (f:zau y=true):eqU x u=eqV y x:=by
  cases y with
  | non=>cases r;rfl
  | bl b=>cases r;rfl
  | int i=>obtain ⟨t,rfl⟩:=r;rfl
  | str z=>obtain ⟨t,rfl⟩:=r;rfl
  | _=>exact absurd (show false=true from f) Bool.false_ne_true
theorem zai {x:V}:∀ {xs:List V} {us:List Value},Vals xs us→xs.all zau=true→us.any (eqU x)=xs.any fun y=>eqV y x
  | _,_,.nil,_=>rfl
  | y::xs,u::us,.cons r t,f=>by
    rw [List.all_cons,Bool.and_eq_true] at f
    rw [List.any_cons,List.any_cons,zmm r f.1,zai t f.2]
theorem z78 {A:Around} {s:Shared} {x:V} {v:Value} (rx:RelV x v) (fx:zau x=true):∀ {xs:List V} {us:List Value},Vals xs us→xs.all zau=true→∀ u∈us,SeqAt.EqAt A s u v (eqU x u)
  | _,_,.nil,_=>fun u hu=>by cases hu
  | y::xs,u::us,.cons r t,f=>fun u' hu=>by
    rw [List.all_cons,Bool.and_eq_true] at f
    rcases List.mem_cons.mp hu with rfl | hu
    · rw [zmm r f.1];exact zs3 r rx f.1 fx
    · exact z78 rx fx t f.2 u' hu
noncomputable def inV (x:V) (xs:List V):Bool:=xs.any fun y=>eqV y x
noncomputable def rIn (K:PySem.W.Frag) (neg:Bool):R2:=fun x y H Q=>∃ p xs,y=.ref p∧(SqL K H p xs∨SqT K H p xs)∧zau x=true∧xs.all zau=true∧Q (.bl (if neg then !inV x xs else inV x xs)) H
theorem zi4:OpR X (compareOp .In) (rIn X.K false):=by
  intro pins s σ H x y v u Q I rx ry h
  obtain ⟨p,xs,rfl,hq,fx,fs,q⟩:=h
  cases ry
  rcases hq with hq | hq
  · obtain ⟨its,r,pl,hz⟩:=I.list hq
    refine SeqAt.in_listAt (eqU x) pl.isList (fun w hw=>z78 rx fx r fs w (by simpa using hw)) ⟨.bl _,H,I,rfl,?_⟩
    rw [show its.toArray.any (eqU x)=its.any (eqU x) by simp,zai r fs]
    exact q
  · obtain ⟨its,r,pl,hz⟩:=I.tuple hq
    refine SeqAt.in_tupleAt (eqU x) pl (fun w hw=>z78 rx fx r fs w (by simpa using hw)) ⟨.bl _,H,I,rfl,?_⟩
    rw [show its.toArray.any (eqU x)=its.any (eqU x) by simp,zai r fs]
    exact q
theorem z91:OpR X (compareOp .NotIn) (rIn X.K true):=by
  intro pins s σ H x y v u Q I rx ry h
  obtain ⟨p,xs,rfl,hq,fx,fs,q⟩:=h
  cases ry
  rcases hq with hq | hq
  · obtain ⟨its,r,pl,hz⟩:=I.list hq
    refine SeqAt.notIn_listAt (eqU x) pl.isList (fun w hw=>z78 rx fx r fs w (by simpa using hw)) ⟨.bl _,H,I,rfl,?_⟩
    rw [show its.toArray.any (eqU x)=its.any (eqU x) by simp,zai r fs]
    exact q
  · obtain ⟨its,r,pl,hz⟩:=I.tuple hq
    refine SeqAt.notIn_tupleAt (eqU x) pl (fun w hw=>z78 rx fx r fs w (by simpa using hw)) ⟨.bl _,H,I,rfl,?_⟩
    rw [show its.toArray.any (eqU x)=its.any (eqU x) by simp,zai r fs]
    exact q
theorem zdc:zal X (.builtin "len") (fun xs H Q=>∃ p ys,xs=[.ref p]∧(SqL X.K H p ys∨SqT X.K H p ys)∧Q (.int ys.length) H):=by
  intro pins s σ H xs us Q I r h
  obtain ⟨p,ys,rfl,hq,q⟩:=h
  obtain ⟨u,rfl,rx⟩:=zco r
  cases rx
  have hn:=zbe
  rcases hq with hq | hq
  · obtain ⟨its,r',pl,hz⟩:=I.list hq
    have hlen:=r'.length
    exact Calls.call_len_list pl.isList (by simp only [List.size_toArray] <;> omega) ⟨.int ys.length,H,I.tok _,⟨s.toks+1,by rw [List.size_toArray,hlen]⟩,q⟩
  · obtain ⟨its,r',pl,hz⟩:=I.tuple hq
    have hlen:=r'.length
    exact len_tuple pl (by simp only [List.size_toArray] <;> omega) ⟨.int ys.length,H,I.tok _,⟨s.toks+1,by rw [List.size_toArray,hlen]⟩,q⟩
theorem zdb:zal X (.type "list") (fun xs H Q=>∃ p ys,xs=[.ref p]∧(SqL X.K H p ys∨SqT X.K H p ys)∧∀ l,H l=none→Q (.ref l) (upd H l (.lst ys))):=by
  intro pins s σ H xs us Q I r h
  obtain ⟨p,ys,rfl,hq,q⟩:=h
  obtain ⟨u,rfl,rx⟩:=zco r
  cases rx
  have fin:∀ (its:List Value),Vals ys its→ys.length≤sizeLine→∀ (h':Heap) (c':Nat),(∀ b o',s.heap.get? b=some o'→h'.get? b=some o') →
      h'.get? s.heap.objs.size=some { cls:=.type "list",dict:=none,data:=.seq its.toArray c',slots:=#[] }→EP X pins σ Q (.ref s.heap.objs.size) { s with heap:=h' }:=fun its r' hz h' c' kp e =>
    ⟨.ref s.heap.objs.size,_,I.laid (t':=s.toks) kp (Nat.le_refl _) (show ObjOk X.prog X.w _ h' _ (.lst ys) from ⟨hz,its,c',r',e⟩),rfl,q _ (I.hok.fresh (Nat.le_refl _))⟩
  rcases hq with hq | hq
  · obtain ⟨its,r',pl,hz⟩:=I.list hq
    have hlen:=r'.length
    obtain ⟨o,ho,hc,n,hd⟩:=pl.isList
    exact call_list_seq p (.inl rfl) ho hc hd (fun h' c' kp e=>fin its r' hz h' c' kp e) (by simp only [List.size_toArray] <;> omega)
  · obtain ⟨its,r',pl,hz⟩:=I.tuple hq
    have hlen:=r'.length
    obtain ⟨o,ho,hc,n,hd⟩:=pl
    exact call_list_seq p (.inr rfl) ho hc hd (fun h' c' kp e=>fin its r' hz h' c' kp e) (by simp only [List.size_toArray] <;> omega)
def tyV (K:PySem.W.Frag) (T:String) (x:V) (H:Hp):Prop:=match x with
  | .str _=>T = "str"
  | .int _=>T = "int"
  | .ref p=>(T = "list" ∧ ∃ xs,SqL K H p xs)∨(T = "tuple" ∧ ∃ o,K.lookup p=some o∧o.cls=.type "tuple" ∧ o.dict=none) ∨
      (T = "dict" ∧ ((∃ kvs,H p=some (.dK kvs))∨∃ kvs,H p=some (.dT kvs)))∨(T = "set" ∧ ∃ S n,H p=some (.set S n))
  | _=>False
theorem zlu {pins:List (Addr×Obj)} {σ:St} {H:Hp} {s:Shared} {T:String} {x:V} {v:Value} (I:Inv X pins σ H s) (r:RelV x v) (ty:tyV X.K T x H) :
    s.TypeIs v T∧∀ a,v=.ref a→∃ ob,s.heap.get? a=some ob∧ob.dict=none:=by
  cases x with
  | str z =>
    obtain ⟨t,rfl⟩:=r
    cases (show T = "str" from ty)
    exact ⟨typeIs_str s z t,fun _ e=>nomatch e⟩
  | int i =>
    obtain ⟨t,rfl⟩:=r
    cases (show T = "int" from ty)
    exact ⟨typeIs_int s i t,fun _ e=>nomatch e⟩
  | ref p =>
    cases r
    rcases ty with ⟨rfl,xs,hq⟩ | ⟨rfl,o,hk,hc,hd⟩ | ⟨rfl,hk⟩ | ⟨rfl,S,n,hk⟩
    · obtain ⟨its,_,pl,_⟩:=I.list hq
      refine ⟨pl.isList.typeIs,fun a e=>?_⟩
      cases e
      refine bq fun bG=>?_
      obtain ⟨o,n,e,c,hd,_⟩:=pl
      exact bG (⟨o,e,hd⟩)
    · refine ⟨⟨o,I.kIn p o hk,hc⟩,fun a e=>?_⟩
      cases e
      exact ⟨o,I.kIn _ o hk,hd⟩
    · have z:∃ o,s.heap.get? p=some o∧o.ExactDict:=by
        rcases hk with ⟨kvs,hk⟩ | ⟨kvs,hk⟩
        · obtain ⟨_,_,_,_,o,_,_,e,ex,_⟩:=I.hok p _ hk
          exact ⟨o,e,ex⟩
        · obtain ⟨_,_,_,_,o,_,_,e,ex,_⟩:=I.hok p _ hk
          exact ⟨o,e,ex⟩
      refine bq fun bG=>?_
      obtain ⟨o,e,ex⟩:=z
      refine bG (⟨⟨o,e,ex.1⟩,fun a e2=>?_⟩)
      cases e2
      exact ⟨o,e,ex.2.1⟩
    · obtain ⟨o,_,_,_,e,ex,_⟩:=I.hok p _ hk
      refine ⟨⟨o,e,ex.1⟩,fun a e2=>?_⟩
      cases e2
      exact ⟨o,e,ex.2.1⟩
  | _=>exact False.elim ty
def ztb (K:PySem.W.Frag) (T:String) (r:V→List V→Hp→VK→Prop) (to:TE):TE:=fun σ H Q=>to σ H fun x H1=>tyV K T x H1∧r x [] H1 Q
def tBM (K:PySem.W.Frag) (T:String) (r:V→List V→Hp→VK→Prop) (to:TE) (t:TA):TE:=fun σ H Q=>to σ H fun x H1=>tyV K T x H1∧t σ H1 fun xs H2=>r x xs H2 Q
variable {o e:Expr} {es:List Expr} {to:TE} {t:TA} {name:Str} {apos cpos:Pos} {T id:String} {r:V→List V→Hp→VK→Prop}
theorem zqx (pa:PlainAttrs T) (slot:Slot T name id) (hty:typeOf (.builtin id)=pure (.type "method_descriptor")) (hm:MtR X id r) (ho:PE X o to)
    (hbase:attributeBase o name X.env (eval o X.env)=eval o X.env:=by rfl) (hline:(apos.endLine==cpos.line)=true:=by rfl):PE X (.Call (.Attribute o name apos) [] [] cpos) (ztb X.K T r to):=by
  intro pins s σ H Q I h
  refine wpAny_Call_method0_late hbase hline (thn (ho pins s σ H _ I h) fun v s1 hm=>?_)
  refine bq fun bG=>?_
  obtain ⟨x,H1,I1,r1,ty,q1⟩:=hm
  obtain ⟨h1,h2⟩:=zlu I1 r1 ty
  exact bG (⟨T,id,pa,slot,hty,h1,h2,Calls.callWith_builtin rfl (PySem.evalArgs_none (hm pins s1 σ H1 x [] v [] Q I1 r1 .nil q1))⟩)
theorem zo3 (pa:PlainAttrs T) (slot:Slot T name id) (hty:typeOf (.builtin id)=pure (.type "method_descriptor")) (hm:MtR X id r) (ho:PE X o to) (ha:PA X (e::es) t)
    (hbase:attributeBase o name X.env (eval o X.env)=eval o X.env:=by rfl)
    (hfew:((backTo cpos (starEach (e::es) X.env)).all (fun x=>!x.1)&&(backToKw cpos (keywordEach [] X.env)).all (fun x=>x.1.isSome)
      && decide ((e::es).length+([]:List Keyword).length+(if ([]:List Keyword).isEmpty then 0 else 1)<30))=true:=by rfl)
    (hline:(apos.endLine==cpos.line)=true:=by rfl) (hs:starEach (e::es) X.env=(false,eval e X.env)::starEach es X.env:=by rfl) (hplain:(backTo cpos (starEach es X.env)).any (·.1)=false:=by rfl) :
    PE X (.Call (.Attribute o name apos) (e::es) [] cpos) (tBM X.K T r to t):=by
  intro pins s σ H Q I h
  refine wpAny_Call_method_late hbase hfew hline rfl (thn (ho pins s σ H _ I h) fun v s1 hm=>?_)
  refine bq fun bG=>?_
  obtain ⟨x,H1,I1,r1,ty,q1⟩:=hm
  obtain ⟨h1,h2⟩:=zlu I1 r1 ty
  refine bG (⟨T,id,pa,slot,hty,h1,h2,?_⟩)
  have hA:=ha cpos pins s1 σ H1 _ I1 q1
  rw [hs] at hA ⊢
  refine Calls.callWith_builtin (by show (false||(backTo cpos (starEach es X.env)).any (·.1))=false;rw [hplain] <;> rfl) (Calls.evalArgs_plain ?_)
  exact thn hA fun us s2 ⟨vs,H2,I2,r2,q2⟩=>hm pins s2 σ H2 x vs v us Q I2 r1 r2 q2
end
noncomputable def MtM (X:Cx) (id:String) (r:V→List V→Hp→VK→Prop):Prop :=
  ∀ (pins:List (Addr×Obj)) (s:Shared) (σ:St) (H:Hp) (x:V) (xs:List V) (v:Value) (us:List Value) (Q:VK),Inv X pins σ H s→RelV x v→Vals xs us→r x xs H Q →
    wpAny (model X.prog X.w) X.A (call (.builtin id) (v::us)) (EP X pins σ Q) X.xe s
theorem Vals.one {x:V} {us:List Value} (h:Vals [x] us):∃ u,us=[u]∧RelV x u:=by
  cases h with | cons r t=>cases t;exact ⟨_,rfl,r⟩
theorem Vals.zero:∀ {us:List Value},Vals [] us→us=[]
  | _,.nil=>rfl
theorem Vals.dropLast {xs:List V} {us:List Value} (h:Vals xs us):Vals xs.dropLast us.dropLast:=by
  induction h with
  | nil=>exact .nil
  | cons r t ih =>
    cases t with
    | nil=>exact .nil
    | cons q t'=>exact .cons r ih
theorem Vals.eraseIdx:∀ {xs:List V} {us:List Value} (i:Nat),Vals xs us→Vals (xs.eraseIdx i) (us.eraseIdx i)
  | _,_,_,.nil=>.nil
  | _,_,0,.cons _ t=>t
  | _,_,i+1,.cons r t=>.cons r (Vals.eraseIdx i t)
theorem Vals.reverse {xs:List V} {us:List Value} (h:Vals xs us):Vals xs.reverse us.reverse:=by
  induction h with
  | nil=>exact .nil
  | cons r t ih=>rw [List.reverse_cons,List.reverse_cons];exact Vals.append ih (.cons r .nil)
theorem Vals.rep {xs:List V} {us:List Value} (h:Vals xs us):∀ k:Nat,Vals (List.replicate k xs).flatten (List.replicate k us).flatten
  | 0=>.nil
  | k+1=>by
    rw [List.replicate_succ,List.replicate_succ,List.flatten_cons,List.flatten_cons]
    exact Vals.append h (Vals.rep h k)
theorem zgm {α:Type} (l:List α):l.eraseIdx (l.length - 1)=l.dropLast:=by
  induction l with
  | nil=>rfl
  | cons a r ih =>
    cases r with
    | nil=>rfl
    | cons b r =>
      have e:(a::b::r).length - 1=((b::r).length - 1)+1:=by
        have h1:(a::b::r).length=r.length+2:=rfl
        have h2:(b::r).length=r.length+1:=rfl
        omega
      rw [e,List.eraseIdx_cons_succ,ih]
      all_goals rfl
theorem zd2 {α:Type}:∀ (l:List α) (i:Nat),(l.eraseIdx i).length≤l.length
  | [],_=>Nat.le_refl _
  | _::_,0=>Nat.le_succ _
  | _::r,i+1=>Nat.succ_le_succ (zd2 r i)
theorem zd3 (its:List Value):∀ (k:Nat) (acc:List Value),
    List.foldl (fun x1 x2=>x1++x2) acc.toArray (List.replicate k its.toArray)=(acc++(List.replicate k its).flatten).toArray
  | 0,acc=>by simp
  | k+1,acc=>by
    have e:acc.toArray++its.toArray=(acc++its).toArray:=by simp
    have e2:(acc++its)++(List.replicate k its).flatten=acc++(List.replicate (k+1) its).flatten:=by
      rw [List.replicate_succ,List.flatten_cons,List.append_assoc]
    rw [← e2,← zd3 its k (acc++its),← e,List.replicate_succ,List.foldl_cons]
section
variable {X:Cx} {pins:List (Addr×Obj)} {σ:St} {H:Hp} {s:Shared} {l b:Addr} {xs ys zs:List V}
theorem Inv.lset {its its':List Value} {n:Nat} {f:Array Value→Array Value} {t':Nat} (I:Inv X pins σ H s) (hH:H l=some (.lst xs))
    (e:s.heap.get? l=some { cls:=.type "list",data:=.seq its.toArray n }) (hf:f its.toArray=its'.toArray) (hv:Vals ys its') (hz:ys.length≤sizeLine) :
    Inv X pins σ (upd H l (.lst ys)) { s with heap:=s.heap.update l (Obj.mapSeq f),toks:=t' }:=by
  have q:=PySem.IsL.update e f
  rw [hf] at q
  refine I.write (x:=l) (e:=l) (by rw [hH];exact trivial) (.inl rfl) (fun b' u hb hu=>(Heap.get?_update_other s.heap (Obj.mapSeq f) (Ne.symm hb)).trans hu) ⟨_,q⟩ ?_
  exact ⟨hz,its',_,hv,q⟩
theorem Inv.lnew {its:List Value} {t':Nat} (I:Inv X pins σ H s) (hv:Vals ys its) (hz:ys.length≤sizeLine) :
    Inv X pins σ (upd H s.heap.objs.size (.lst ys)) { s with heap:=s.heap.push { cls:=.type "list",data:=.seq its.toArray },toks:=t' } :=
  I.laid (fun _ _ q=>Heap.get?_push_of_some _ q) (Nat.le_refl _) ⟨hz,its,0,hv,Heap.get?_push_size _ rfl⟩
theorem Inv.fresh (I:Inv X pins σ H s):H s.heap.objs.size=none:=I.hok.fresh (Nat.le_refl _)
theorem Inv.lstM (I:Inv X pins σ H s) (hH:H l=some (.lst xs)):xs.length≤sizeLine∧∃ (its:List Value) (n:Nat),Vals xs its∧xs.length=its.length∧s.heap.get? l=some { cls:=.type "list",data:=.seq its.toArray n }:=by
  refine bq fun bG=>?_
  obtain ⟨z,its,n,r,e⟩:=I.hok l _ hH
  exact bG (⟨z,its,n,r,r.length,e⟩)
theorem zl4 {n:Nat} (h:n≤sizeLine):Builtin.List.listTooLong n=false:=by
  unfold Builtin.List.listTooLong
  exact decide_eq_false (by omega)
end
section
variable {X:Cx}
def zht:V→List V→Hp→VK→Prop:=fun x vs H Q=>∃ l xs y,x=.ref l∧vs=[y]∧H l=some (.lst xs)∧xs.length<sizeLine∧Q .non (upd H l (.lst (xs++[y])))
theorem zd1:MtM X "list.append" zht:=by
  intro pins s σ H x vs v us Q I rx rv h
  obtain ⟨l,xs,y,rfl,rfl,hH,hz,q⟩:=h
  cases rx
  obtain ⟨u,rfl,ru⟩:=rv.one
  obtain ⟨z,its,n,r,hl,e⟩:=I.lstM hH
  refine call_meets F.slot_list_append ⟨_,e,rfl⟩ F.entry_list_append (F.args_list_append_2 _ _) (PySem.list_append l its.toArray n u (by rw [List.size_toArray];omega)) ⟨e,?_⟩
  refine ⟨.non,_,I.lset (its':=its++[u]) hH e (by simp) (r.append (.cons ru .nil)) ?_,rfl,q⟩
  rw [List.length_append,List.length_singleton]
  omega
def zun:V→List V→Hp→VK→Prop:=fun x vs H Q=>∃ l xs y,x=.ref l∧vs=[]∧H l=some (.lst xs)∧xs[xs.length - 1]?=some y∧Q y (upd H l (.lst xs.dropLast))
theorem zrd:MtM X "list.pop" zun:=by
  intro pins s σ H x vs v us Q I rx rv h
  obtain ⟨l,xs,y,rfl,rfl,hH,hy,q⟩:=h
  cases rx
  have hus:=rv.zero
  subst hus
  obtain ⟨z,its,n,r,hl,e⟩:=I.lstM hH
  obtain ⟨u,hu,ru⟩:=r.get hy
  have hy':its.toArray[its.toArray.size - 1]?=some u:=by
    show its.toArray[its.length - 1]?=some u
    rw [← Array.getElem?_toList,← hl]
    exact hu
  refine call_meets F.slot_list_pop ⟨_,e,rfl⟩ F.entry_list_pop (F.args_list_pop_1 _) (MeetsSeq.list_pop_last l its.toArray n u hy' (by rw [List.size_toArray];omega)) ⟨e,?_⟩
  refine ⟨y,_,I.lset (its':=its.dropLast) hH e ?_ r.dropLast ?_,ru,q⟩
  · show its.toArray.eraseIdxIfInBounds (its.toArray.size - 1)=its.dropLast.toArray
    rw [List.size_toArray,List.eraseIdxIfInBounds_toArray,zgm]
  · rw [List.length_dropLast]
    omega
def zm5:V→List V→Hp→VK→Prop:=fun x vs H Q=>∃ l xs i k y,x=.ref l∧vs=[.int i]∧H l=some (.lst xs)∧-(2 ^ 63)≤i∧i<2 ^ 63∧seqIndex? i xs.length=some k∧xs[k]?=some y∧Q y (upd H l (.lst (xs.eraseIdx k)))
theorem zl8:MtM X "list.pop" zm5:=by
  intro pins s σ H x vs v us Q I rx rv h
  obtain ⟨l,xs,i,k,y,rfl,rfl,hH,h1,h2,hk,hy,q⟩:=h
  cases rx
  obtain ⟨u,rfl,ru⟩:=rv.one
  obtain ⟨t,rfl⟩:=ru
  obtain ⟨z,its,n,r,hl,e⟩:=I.lstM hH
  obtain ⟨w,hw,rw'⟩:=r.get hy
  refine call_meets F.slot_list_pop ⟨_,e,rfl⟩ F.entry_list_pop (F.args_list_pop_2 _ _)
    (MeetsSeq.list_pop_at l its.toArray n i t k w (fitsIndex_both h1 h2) (by rw [List.size_toArray,← hl];exact hk) (by rw [← Array.getElem?_toList];exact hw) (by rw [List.size_toArray];omega)) ⟨e,?_⟩
  refine ⟨y,_,I.lset (its':=its.eraseIdx k) hH e ?_ (r.eraseIdx k) ?_,rw',q⟩
  · show its.toArray.eraseIdxIfInBounds k=(its.eraseIdx k).toArray
    rw [List.eraseIdxIfInBounds_toArray]
  · have:=zd2 xs k
    omega
noncomputable def zur:R2:=fun x y H Q=>∃ l b xs zs,x=.ref l∧y=.ref b∧H l=some (.lst xs)∧H b=some (.lst zs)∧xs.length+zs.length≤sizeLine∧∀ p,H p=none→Q (.ref p) (upd H p (.lst (xs++zs)))
theorem op_cat:OpR X (binaryOp .Add) zur:=by
  intro pins s σ H x y v u Q I rx ry h
  obtain ⟨l,b,xs,zs,rfl,rfl,hH,hB,hz,q⟩:=h
  cases rx
  cases ry
  obtain ⟨z,its,n,r,hl,e⟩:=I.lstM hH
  obtain ⟨z2,its2,n2,r2,hl2,e2⟩:=I.lstM hB
  refine PySem.P.add_list e e2 ?_ (by rw [List.size_toArray,List.size_toArray];omega)
  have ea:its.toArray++its2.toArray=(its++its2).toArray:=by simp
  rw [ea]
  exact ⟨.ref _,_,I.lnew (t':=s.toks) (r.append r2) (by rw [List.length_append];omega),rfl,q _ I.fresh⟩
noncomputable def zum:R2:=fun x y H Q=>∃ l k xs,x=.ref l∧y=.int k∧H l=some (.lst xs)∧-(2 ^ 63)≤k∧k<2 ^ 63∧xs.length*k.toNat≤sizeLine ∧
  ∀ p,H p=none→Q (.ref p) (upd H p (.lst (List.replicate k.toNat xs).flatten))
theorem zoe {α:Type} (xs:List α) (k:Nat):(List.replicate k xs).flatten.length=k*xs.length:=by
  induction k with
  | zero=>simp
  | succ k ih=>rw [List.replicate_succ,List.flatten_cons,List.length_append,ih,Nat.succ_mul,Nat.add_comm]
theorem zr0:OpR X (binaryOp .Mult) zum:=by
  intro pins s σ H x y v u Q I rx ry h
  obtain ⟨l,k,xs,rfl,rfl,hH,h1,h2,hz,q⟩:=h
  cases rx
  obtain ⟨t,rfl⟩:=ry
  obtain ⟨z,its,n,r,hl,e⟩:=I.lstM hH
  have hlen:its.toArray.size*k.toNat≤sizeLine:=by rw [List.size_toArray,← hl];exact hz
  have hcap:¬ its.toArray.size*k.toNat > (2 ^ 63 - 1) / 8:=by
    have:(sizeLine:Nat)≤(2 ^ 63 - 1) / 8:=by decide
    omega
  have hfit:¬ (!Builtin.List.listFitsIndex k)=true:=by
    rw [fitsIndex_both h1 h2]
    exact Bool.false_ne_true
  have hlong:¬ Builtin.List.listTooLong (its.toArray.size*k.toNat)=true:=by
    rw [zl4 hlen]
    exact Bool.false_ne_true
  have hnew:List.foldl (fun x1 x2=>x1++x2) #[] (List.replicate (if its.toArray.isEmpty=true then 0 else k.toNat) its.toArray)=(List.replicate k.toNat its).flatten.toArray:=by
    have f0:∀ m:Nat,List.foldl (fun x1 x2=>x1++x2) #[] (List.replicate m its.toArray)=(List.replicate m its).flatten.toArray:=fun m=>by
      have:=zd3 its m []
      rw [List.nil_append] at this
      exact this
    rw [f0]
    cases its with
    | nil=>simp
    | cons a r'=>rw [if_neg (by simp)]
  refine wpAny_binaryOp_repeat_ref (T := "list") (U := "int") (by decide) ⟨_,e,rfl⟩ (fun s'=>typeIs_int s' k t) noFill_list_mul F.fills_int_mul F.slot_int_rmul repeat_list F.slot_int_index.lookup
    (call_meets F.slot_int_rmul (typeIs_int s k t) F.entry_int_rmul (F.args_int_rmul_2 _ _) (int___rmul___int_list k t l its.toArray n)
      ⟨e,rfl,⟨_,e,rfl⟩,call_meets F.slot_list_mul ⟨_,e,rfl⟩ F.entry_list_mul (F.args_list_mul_2 _ _) (AutoListH.list___mul___list_int_3 l its.toArray n k t hfit hcap hlong) ⟨e,?_⟩⟩)
  rw [hnew]
  exact ⟨.ref _,_,I.lnew (t':=s.toks) (r.rep k.toNat) (by rw [zoe,Nat.mul_comm];exact hz),rfl,q _ I.fresh⟩
end
section
variable {prog:Program} {w:World} {A:Around} {E:Value→Shared→Prop} {s:Shared}
end
section
variable {X:Cx}
end
section
variable {κ:Type} [DecidableEq κ]
end
section
variable {P:Program} {w:World} {H:Hp} {h:Heap} {a:Addr}
end
section
variable {X:Cx} {pins:List (Addr×Obj)} {σ:St} {H:Hp} {s:Shared} {a:Addr} {y v:V} {u r:Value} {o:Option V} {A:Around} {E:Value→Shared→Prop}
end
section
variable {X:Cx} {pins:List (Addr×Obj)} {σ:St} {H:Hp} {s:Shared} {a:Addr} {kvs:List (Key×V)} {k:Key} {u:Value} {A:Around} {E:Value→Shared→Prop}
end
section
variable {X:Cx} {o i e value:Expr} {pos pos' tpos:Pos} {td ty tv:TE}
end
section
variable {X:Cx} {pos:Pos}
end
section
variable {X:Cx} {pins:List (Addr×Obj)} {σ:St} {H:Hp} {s:Shared} {a:Addr} {y d:V} {u r:Value} {o:Option V} {A:Around} {E:Value→Shared→Prop}
end
section
variable {X:Cx} {o e f:Expr} {apos cpos:Pos} {td ty tx:TE}
end
section
variable {X:Cx} {pins:List (Addr×Obj)} {σ:St} {H:Hp} {s:Shared} {a:Addr} {kvs:List (Key×V)} {A:Around} {E:Value→Shared→Prop}
end
section
variable {X:Cx} {pins:List (Addr×Obj)} {σ:St} {H:Hp} {s:Shared} {a:Addr} {y:V} {u:Value} {A:Around} {E:Value→Shared→Prop}
end
end L2
namespace Att
open PySem PySem.W PySem.Calls PyProof.Rows
theorem za7 {P:Params} {h:Heap}:∀ (ns:List Int) (vs:List Value),WellAll P h vs (ns.map WData.int)→IntsAre vs ns:=by
  intro ns
  induction ns with
  | nil =>
    intro vs w
    rw [List.map_nil] at w
    cases w
    exact .nil
  | cons n ns ih =>
    intro vs w
    rw [List.map_cons] at w
    cases w with
    | cons a b =>
      cases a
      exact .cons _ _ (ih _ b)
theorem zhk {l:OpenLaw} {n:Nat} (hn:l.most=some n) {P:Params} {h:Heap} {args:List WData} {vals:List Value}
    (hpre:l.row.toRowW.claim.pre args=true) (hwl:WellAll P h vals args) :
    ∃ a vs ns,vals=[Value.ref a]∧args=[WData.list (ns.map WData.int)]∧h.get? a=some { cls:=.type "list",data:=.seq vs.toArray }∧IntsAre vs ns∧ns.length≤n:=by
  have hsh:WShape.hasAll [] args [.list .int]=true:=(pre_splitW hpre).1
  have hc:l.pre.holds [] { args:=args }=true:=(pre_splitW hpre).2
  obtain ⟨d,r,rfl,h1,h2⟩:=hasAllW_cons hsh
  obtain rfl:=hasAllW_nil h2
  obtain ⟨xs,rfl,h3⟩:=hasW_list h1
  obtain ⟨ns,rfl⟩:=items_int h3
  have hlen:ns.length≤n:=by
    unfold OpenLaw.pre at hc
    have h4:(WTm.not (.lt (.lit (.int (n:Int))) (.len (.arg 0)))).holds [] { args:=[.list (ns.map .int)] }=true:=by
      have h4:=(holds_andW hc).1
      rw [hn] at h4
      exact h4
    have h5:=condW_of h4 (w_not (w_lt w_lit (w_len_list (w_arg rfl))))
    rw [List.length_map] at h5
    refine Nat.le_of_not_lt fun q=>?_
    have q':(n:Int)<((ns.length:Nat):Int):=by omega
    first
      | (rw [decide_eq_true q'] at h5;exact absurd h5 (by decide))
      | (simp at h5;omega)
  cases hwl with
  | cons w1 w2 =>
    cases w2
    cases w1 with
    | list ho hall=>exact ⟨_,_,ns,rfl,rfl,ho,za7 ns _ hall,hlen⟩
theorem zhy (l:OpenLaw) (args:List WData):l.row.toRowW.claim.post args (.bool true) args=true :=
  postW_of (r:=l.row.toRowW) (X:=(true==true))
    (show WShape.has [] (.bool true) .bool=true by first | rfl | decide | simp [WShape.has,WShape.arms,WShape.armsAll])
    (show (WTm.eq .res (.lit (.bool true))).value [] { args:=args,res:=some (.bool true),after:=args }=some (.bool (true==true)) from w_eq_bool (w_res rfl) w_lit) rfl
theorem attach_call {l:OpenLaw} {n:Nat} {q:Program} {loose:List Str} {XP:(Str→Option Value)→Heap→Prop} {YP:World→Heap→Prop} {d:DefRec}
    (hn:l.most=some n) (hdf:d.params.defaults=[])
    (call:∀ (w:World) (s₀ s₁:Shared) (mg mb:Str→Option Value) (fa:Addr) (o:Obj) (pm cd doc:Value) (a:Addr) (vs:List Value) (ns:List Int),
      Ground q loose [] XP w s₀ mg mb s₁.heap→YP w s₁.heap →
      s₁.heap.get? fa=some o→o.data=.func (docDef d.name d.params d.body d.scope pm cd doc)→s₁.heap.CodeRec cd d.name→mg d.name=some (.ref fa) →
      s₁.heap.get? a=some { cls:=.type "list",data:=.seq vs.toArray }→IntsAre vs ns→ns.length≤n→s₁.gens=#[] →
      codeAny (model l.prog w) callerA (.call (.ref fa) ⟨[.ref a],[]⟩) (fun r s'=>r=.ok (.ret (.bool true))∧OldK s₁.heap s'.heap∧s'.os=s₁.os∧AllBare s'.gens) s₁) :
    WalkO q loose XP YP l.row.toRowW d [] (fun f vs=>PySem.call f vs):=by
  intro w s₀ s₁ mg mb G Y fa o pm cd doc dV kV ho hd hcd hD hmg hg args vals as hpre hlay hrd hwl hlo
  obtain rfl:dV=.none:=Dflts.none hD hdf
  obtain rfl:kV=.none:=Dflts.noKw hD
  refine bq fun bG=>?_
  obtain ⟨a,vs,ns,rfl,rfl,hobj,hints,hlen⟩:=zhk hn hpre hwl
  refine bG (enter_call (codeAny_mono (call w s₀ s₁ mg mb fa o pm cd doc a vs ns G Y ho (fd_plain hd) hcd hmg hobj hints hlen hg) fun r s' hq=>?_))
  refine bq fun bG=>?_
  obtain ⟨rfl,h2,h3,h4⟩:=hq
  exact bG (⟨.inl ⟨.bool true,.bool true,[],rfl,fun _=>rfl,.bool true,zhy l _,fun _=>⟨List.Pairwise.nil,fun _ hm=>(nomatch hm)⟩⟩,h2,h3,h4⟩)
section
variable {prog:Program} {w:World} {A:Around} {E:Value→Shared→Prop} {s:Shared} {K:Frag}
end
end Att
namespace L2
open PySem PySem.Spec PyProof.Rows
theorem z9p:∀ {vs:List Value} {ns:List Int},IntsAre vs ns→Vals (ns.map V.int) vs
  | _,_,.nil=>.nil
  | _,_,.cons n t h=>.cons ⟨t,rfl⟩ (z9p h)
def zsz (H:Hp):Prop:=∀ b,H b=none∨∃ o xs,H b=some (.frz o (.lst xs))
theorem zl9 {P:Program} {w:World} {K:PySem.W.Frag} {mg mb:Str→Option Value} {CX:CXT} {k:Nat} {fa a:Addr} {fd:FuncData} {x:Str} {sp:Sp} {s₁:Shared} {vs:List Value} {ns:List Int}
    (KX:K.In s₁.heap) (hns:s₁.heap.Ns mainGlobals mg) (hb:s₁.heap.Ns builtinsNs mb) (hbb:∀ x:Str,x ≠ "__name__" → mb x=bootBuiltins x) (hlim:s₁.heap.NoLimit) (hg:s₁.gens=#[])
    (ha:s₁.heap.get? a=some { cls:=.type "list",data:=.seq vs.toArray }) (hi:IntsAre vs ns) (hl:ns.length≤sizeLine) (hr:Room k callerA)
    (F:∀ base:Heap,K.In base→base.Ns mainGlobals mg→FnOk P w K mg base CX k fa fd [x] sp) (hbind:∀ (s:Shared) (u:Value),BindsTo s fd ⟨[u],[]⟩ [(x,u)])
    (hsp:∀ H:Hp,zsz H→SqL K H a (ns.map V.int)→sp [.ref a] H (fun v _=>v=.bl true) fun _ _ _=>False)
    (hCX:∀ H e s',CX [] H s₁ (fun _ _ _=>False) e s'→False) :
    codeAny (model P w) callerA (.call (.ref fa) ⟨[.ref a],[]⟩) (fun r s'=>r=.ok (.ret (.bool true))∧OldK s₁.heap s'.heap∧s'.os=s₁.os∧AllBare s'.gens) s₁:=by
  have rv:=z9p hi
  have lenV:=hi.length
  have core:∀ H:Hp,zsz H→SqL K H a (ns.map V.int)→HOk P w H s₁.heap→(∀ b,H b≠none→b=a)→(H a≠none→K.lookup a=none) →
      codeAny (model P w) callerA (.call (.ref fa) ⟨[.ref a],[]⟩) (fun r s'=>r=.ok (.ret (.bool true))∧OldK s₁.heap s'.heap∧s'.os=s₁.os∧AllBare s'.gens) s₁:=by
    intro H hO hS hok hA hK
    have base_of:∀ {b:Addr} {o:Obj},s₁.heap.get? b=some o→H b=none→(zld s₁.heap H).get? b=some o:=fun e n=>zlc e n
    have noA:∀ {b:Addr} {o:Obj} {es:Array DictEntry} {ep:Nat},s₁.heap.get? b=some o→o.data=.dict es ep→H b=none:=fun {b o es ep} e d=>by
      cases q:H b with
      | none=>rfl
      | some u =>
        have e':b=a:=hA b (by rw [q];simp)
        subst e'
        rw [ha] at e;cases e
        have d':Data.seq vs.toArray _=Data.dict es ep:=d
        cases d'
    have nsK:∀ {b:Addr} {m:Str→Option Value},s₁.heap.Ns b m→(zld s₁.heap H).Ns b m:=fun {b m} ⟨o,es,ep,e,d,r⟩=>⟨o,es,ep,base_of e (noA e d),d,r⟩
    have hKb:K.In (zld s₁.heap H):=fun b o e=>base_of (KX b o e) (by
      cases q:H b with
      | none=>rfl
      | some u =>
        have e':b=a:=hA b (by rw [q];simp)
        subst e'
        rw [hK (by rw [q];simp)] at e;cases e)
    have hM:Mod K mg (zld s₁.heap H):=⟨hKb,nsK hns,⟨mb,nsK hb,hbb⟩,let ⟨mc,h1,h2⟩:=hlim;⟨mc,nsK h1,h2⟩⟩
    have e0:Env0 P w K mg (zld s₁.heap H) callerA [] s₁ H:=⟨rfl,hM,fun b o e=>zo7 e,Nat.le_of_eq (ziq _ _),trivial,fun b hb=>absurd (show b∈([]:List Addr) from hb) (by simp),hok,.of_eq hg⟩
    refine codeAny_mono ((F _ hKb (nsK hns)).run callerA [] s₁ H ⟨[.ref a],[]⟩ [.ref a] [.ref a] _ _ hr e0 (hbind s₁ (.ref a)) (.cons rfl .nil) (hsp H hO hS)) fun r s' h=>?_
    cases r with
    | error e=>exact (hCX H e s' h).elim
    | ok fl =>
      cases fl with
      | next=>exact False.elim h
      | brk=>exact False.elim h
      | cont=>exact False.elim h
      | ret u =>
        obtain ⟨v,H',os,bare,un,hok',r',q⟩:=h
        have q':v=.bl true:=q
        subst q'
        obtain rfl:u=Value.bool true:=r'
        refine ⟨rfl,OldK.of_keep fun b o e=>?_,os,bare⟩
        cases q:H b with
        | none=>exact un.keep b o e q (by intro z;exact absurd (show b∈([]:List Addr) from z) (by simp)) (by simp)
        | some u =>
          rcases hO b with z | ⟨ob,xs,z⟩
          · rw [q] at z;cases z
          · have z2:=un.frzs b ob _ z
            obtain ⟨e1,_⟩:=hok b _ z
            obtain ⟨e2,_⟩:=hok' b _ z2
            rw [e] at e1;cases e1
            exact e2
  cases hk:K.lookup a with
  | some o =>
    have e:=KX a o hk
    rw [ha] at e
    cases e
    refine core (fun _=>none) (fun _=>.inl rfl) (.inr ⟨_,vs.toArray,_,hk,rfl,rfl,rfl,by rw [List.size_toArray,lenV];exact hl,by simpa using rv⟩) (fun b u z=>by have z':(none:Option HO)=some u:=z;cases z') (fun b z=>absurd rfl z) fun z=>absurd rfl z
  | none =>
    refine core (fun b=>if b=a then some (.frz { cls:=.type "list",data:=.seq vs.toArray } (.lst (ns.map V.int))) else none) (fun b=>?_) (.inl (.inr ⟨{ cls:=.type "list",data:=.seq vs.toArray },if_pos rfl⟩)) (fun b u z=>?_) (fun b z=>?_) fun _=>hk
    · by_cases hb:b=a
      · exact .inr ⟨_,_,if_pos hb⟩
      · exact .inl (if_neg hb)
    · by_cases hb:b=a
      · have z':=(if_pos hb).symm.trans z
        cases z'
        subst hb
        exact ⟨ha,by rw [List.length_map];exact hl,vs,_,rv,ha⟩
      · have z':=(if_neg hb).symm.trans z
        cases z'
    · by_cases hb:b=a
      · exact hb
      · exact absurd (if_neg hb) z
theorem walk_of {l:PySem.W.OpenLaw} {n k:Nat} {q:Program} {loose:List Str} {XP:(Str→Option Value)→Heap→Prop} {YP:World→Heap→Prop} {d:DefRec} {K:Params→PySem.W.Frag} {CX:World→CXT} {sp:World→Sp} {x:Str}
    (hn:l.most=some n) (hn2:n≤sizeLine) (hdf:d.params.defaults=[]) (hr:Room k callerA)
    (hY:∀ (w:World) (h:Heap),YP w h→(K w.params).In h)
    (F:∀ (w:World) (mg:Str→Option Value) (fa:Addr) (h:Heap),(K w.params).In h→h.Ns mainGlobals mg→mg d.name=some (.ref fa) →
      ∃ fd:FuncData,(∀ (s:Shared) (u:Value),BindsTo s fd ⟨[u],[]⟩ [(x,u)]) ∧
        ∀ base:Heap,(K w.params).In base→base.Ns mainGlobals mg→FnOk l.prog w (K w.params) mg base (CX w) k fa fd [x] (sp w))
    (hsp:∀ (w:World) (H:Hp) (a:Addr) (ns:List Int),ns.length≤n→zsz H→SqL (K w.params) H a (ns.map V.int)→sp w [.ref a] H (fun v _=>v=.bl true) fun _ _ _=>False)
    (hCX:∀ (w:World) (H:Hp) (s:Shared) (e:Value) (s':Shared),CX w [] H s (fun _ _ _=>False) e s'→False) :
    PySem.W.WalkO q loose XP YP l.row.toRowW d [] (fun f vs=>PySem.call f vs):=by
  refine Att.attach_call hn hdf fun w s₀ s₁ mg mb fa o pm cd doc a vs ns G Y ho hd hcd hmg hobj hints hlen hg=>?_
  have KX:=hY w _ Y
  refine bq fun bG=>?_
  obtain ⟨fd,hb,hF⟩:=F w mg fa _ KX G.T.g hmg
  exact bG (zl9 KX G.T.g G.T.b G.T.builtins G.T.nolimit hg hobj hints (Nat.le_trans hlen hn2) hr hF hb (fun H hO hS=>hsp w H a ns hlen hO hS) fun H e s'=>hCX w H s₁ e s')
noncomputable def z14 (s:Stmt):Arguments:=match s with
  | .FunctionDef _ a _ _ _ _ _ _ _ _=>a
  | _=>{ posonlyargs:=[],args:=[],vararg:=none,kwonlyargs:=[],kw_defaults:=[],kwarg:=none,defaults:=[] }
noncomputable def z0i (s:Stmt):List Stmt:=match s with
  | .FunctionDef _ _ b _ _ _ _ _ _ _=>b
  | _=>[]
noncomputable def z06 (s:Stmt):Scope:=match s with
  | .FunctionDef _ _ _ _ _ _ sc _ _ _=>sc
  | _=>{ kind:=.function,names:=[],isGenerator:=false,isCoroutine:=false }
noncomputable abbrev CX0:CXT:=fun _ _ _ _ _ _=>False
noncomputable abbrev E0:XK:=fun _ _ _=>False
theorem ztq {X:Cx}:zfp CX0 X E0:=fun _ _ _ _ _ _ _ h=>h.elim
structure Fun (K:PySem.W.Frag) (x qual:Str) (st:Stmt) (f:Addr) (fd:FuncData):Prop where
  ex:∃ (oc:Value) (od:Option Addr) (kV doc pm:Value) (an:Option Addr) (cdv ct:Value) (osl:Array (Option Value)),
    fd=PySem.W.fnOf x qual (z14 st) (z0i st) (z06 st) .none kV doc pm an cdv ct∧K.lookup f=some ⟨oc,od,.func fd,osl⟩∧PySem.W.codeIn K cdv qual=true
  kp:PySem.W.keepIn K (.ref f)=true
section
variable {P:Program} {w:World} {K:PySem.W.Frag} {mg:Str→Option Value} {base:Heap}
theorem Fun.ok {x qual:Str} {st:Stmt} {f:Addr} {fd:FuncData} {N ps:List Str} {k:Nat} {sp:Sp} (F:Fun K x qual st f fd) (S:FnScope N ps (z06 st)) (len:∀ vs H Q E,sp vs H Q E→vs.length=ps.length)
    (hbody:∀ (cdv:Value) (A:Around) (outer:List Env) (s:Shared) (H:Hp) (vs:List V) (Q:VK) (E:XK),Room k (A.deeper (envOfC qual (z06 st) s.heap.objs.size f cdv))→sp vs H Q E →
      ∃ t,PSs (z5k CX0 P w K mg base N qual (z06 st) f cdv A outer s H E).nox (z0i st) t∧t { nx:=fun _ H'=>Q .non H',rt:=Q } (zbp N vs) H):FnOk P w K mg base CX0 (k+1) f fd ps sp:=by
  refine bq fun bG=>?_
  obtain ⟨oc,od,kV,doc,pm,an,cdv,ct,osl,rfl,lk,hcd⟩:=F.ex
  refine bG (zrv lk hcd S len fun A outer s H vs Q E hr hsp=>?_)
  refine bq fun bG=>?_
  obtain ⟨t,h,q⟩:=hbody cdv A outer s H vs Q E hr hsp
  exact bG (⟨t,h.nox,q⟩)
theorem Fun.binds {x qual:Str} {st:Stmt} {f:Addr} {fd:FuncData} {ps:List Str} (F:Fun K x qual st f fd)
    (h:∀ (kV doc pm:Value) (an:Option Addr) (cdv ct:Value) (us:List Value),us.length=ps.length→bindArgs (PySem.W.fnOf x qual (z14 st) (z0i st) (z06 st) .none kV doc pm an cdv ct) ⟨us,[]⟩=pure (ps.zip us)):Binds K fd ps []:=by
  refine bq fun bG=>?_
  obtain ⟨oc,od,kV,doc,pm,an,cdv,ct,osl,rfl,lk,hcd⟩:=F.ex
  exact bG (.all (h kV doc pm an cdv ct))
theorem z37 {x qual:Str} {st:Stmt} {f:Addr} {oc:Value} {od an:Option Addr} {osl:Array (Option Value)} {kV doc pm cdv ct:Value} (l:K.lookup f=some ⟨oc,od,.func (PySem.W.fnOf x qual (z14 st) (z0i st) (z06 st) .none kV doc pm an cdv ct),osl⟩)
    (c:PySem.W.codeIn K cdv qual=true) (k:PySem.W.keepIn K (.ref f)=true):Fun K x qual st f (PySem.W.fnOf x qual (z14 st) (z0i st) (z06 st) .none kV doc pm an cdv ct):=⟨⟨oc,od,kV,doc,pm,an,cdv,ct,osl,rfl,l,c⟩,k⟩
end
section
variable {X:Cx}
theorem pv (i:Nat) {x:Str} {pos:Pos} (hN:X.N[i]?=some x:=by rfl) (hv:Vis X.env.scope x:=by first | exact Or.inl rfl | exact Or.inr (Or.inl rfl) | exact Or.inr (Or.inr rfl)) (hd:(x==("__debug__" : Str))=false:=by decide)
    (hcd:(x==("__classdict__" : Str))=false:=by decide):PE X (.Name x pos) (zuj i):=zma hN hv hd hcd
end
theorem zu3 {A B:Prop} (h:B):if false=true then A else B:=by
  rw [if_neg Bool.false_ne_true]
  exact h
theorem zu2 {A B:Prop} (h:A):if true=true then A else B:=by
  rw [if_pos rfl]
  exact h
theorem zuv {c A B:Prop} [Decidable c] (h1:c→A) (h2:¬ c→B):if c then A else B:=by
  by_cases h:c
  · rw [if_pos h]
    exact h1 h
  · rw [if_neg h]
    exact h2 h
def Same (H H':Hp):Prop:=∀ b o,H b=some o→H' b=some o
theorem Same.refl (H:Hp):Same H H:=fun _ _ h=>h
theorem Same.trans {H H1 H2:Hp} (a:Same H H1) (b:Same H1 H2):Same H H2:=fun c o h=>b c o (a c o h)
section
variable {X:Cx}
end
section
variable {κ:Type} [DecidableEq κ]
end
end L2
namespace Tim
open PySem PyProof.Rows
section
variable {prog:Program} {w:World} {A:Around} {E:Value→Shared→Prop} {s:Shared} {n:Nat} {pe:Array (Nat×Nat×Nat)} {st:SortSt}
noncomputable def descPart (lo n0 nrem:Nat):StateT SortSt Sem (Option Nat):=do
  rule "list.sort.descending-run"
  let mut n:=n0
  n:=n+1
  let mut neq:=0
  for _ in [n:nrem] do
    let some smaller ← ltAt' (lo+n) (lo+n - 1) | return none
    if smaller then
      if neq > 0 then reverseSlice' (lo+n - (neq+1)) (lo+n)
      neq:=0
    else
      let some larger ← ltAt' (lo+n - 1) (lo+n) | return none
      if larger then break
      neq:=neq+1
    n:=n+1
  if neq > 0 then reverseSlice' (lo+n - (neq+1)) (lo+n)
  reverseSlice' lo (lo+n)
  for _ in [n:nrem] do
    let some smaller ← ltAt' (lo+n) (lo+n - 1) | return none
    if smaller then break
    n:=n+1
  return some n
end
noncomputable def z4m:Bool→Keyed→Array Keyed→Nat→Nat→Nat→StateT SortSt Sem (Option Nat):=sortPriv% PySem.Builtin.gallop
noncomputable def zag (z3k:Bool) (key:Keyed) (arr:Array Keyed) (base i:Nat):StateT SortSt Sem (Option Bool):=do
  let x ← elem' arr (base+i)
  if z3k then lt' x key else return (← lt' key x).map (!·)
theorem zgh (z3k:Bool) (key:Keyed) (arr:Array Keyed) (base n hint:Nat):z4m z3k key arr base n hint=(do
  let mut lastofs:=0
  let mut ofs:=1
  let mut lo:=0
  let mut hi:=0
  let some right ← zag z3k key arr base hint | return none
  if right then
    let maxofs:=n - hint
    for _ in [0:n] do
      if ofs≥maxofs then break
      let some more ← zag z3k key arr base (hint+ofs) | return none
      if !more then break
      lastofs:=ofs
      ofs:=2*ofs+1
    lo:=hint+lastofs+1
    hi:=hint+min ofs maxofs
  else
    let maxofs:=hint+1
    for _ in [0:n] do
      if ofs≥maxofs then break
      let some found ← zag z3k key arr base (hint - ofs) | return none
      if found then break
      lastofs:=ofs
      ofs:=2*ofs+1
    lo:=hint+1 - min ofs maxofs
    hi:=hint - lastofs
  for _ in [0:n] do
    if lo≥hi then break
    let m:=lo+(hi - lo) / 2
    let some more ← zag z3k key arr base m | return none
    if more then lo:=m+1 else hi:=m
  return some hi):=rfl
section
variable {prog:Program} {w:World} {A:Around} {E:Value→Shared→Prop} {s:Shared} {st:SortSt}
end
noncomputable def z9f:Array Keyed→Array Keyed→StateT SortSt Sem (Array Keyed):=sortPriv% PySem.Builtin.mergeLo
noncomputable def z0j:Nat→StateT SortSt Sem Unit:=sortPriv% PySem.Builtin.setMinGallop
theorem z98 (g:Nat):z0j g=modify (fun s=>SortSt.mk' (kindOf s) (arrOf s) (pendingOf s) g (failedOf s)):=rfl
theorem ze1 (a b:Array Keyed):z9f a b=(do
  rule "list.sort.merge-lo"
  let total:=a.size+b.size
  let done (out:Array Keyed) (ia ib:Nat):=out++a.extract ia a.size++b.extract ib b.size
  let lastOfA (out:Array Keyed) (ia ib:Nat):=out++b.extract ib b.size++a.extract ia a.size
  let mut out:Array Keyed:=#[← elem' b 0]
  let mut ia:=0
  let mut ib:=1
  if ib==b.size then return done out ia ib
  if ia+1==a.size then return lastOfA out ia ib
  let mut minGallop:=gallopOf (← get)
  for _ in [0:total] do
    let mut acount:=0
    let mut bcount:=0
    for _ in [0:total] do
      let some bWins ← lt' (← elem' b ib) (← elem' a ia) | return done out ia ib
      if bWins then
        out:=out.push (← elem' b ib);ib:=ib+1;bcount:=bcount+1;acount:=0
        if ib==b.size then return done out ia ib
        if bcount≥minGallop then break
      else
        out:=out.push (← elem' a ia);ia:=ia+1;acount:=acount+1;bcount:=0
        if ia+1==a.size then return lastOfA out ia ib
        if acount≥minGallop then break
    rule "list.sort.gallop"
    minGallop:=minGallop+1
    for _ in [0:total] do
      if minGallop > 1 then minGallop:=minGallop - 1
      z0j minGallop
      let some k ← z4m false (← elem' b ib) a ia (a.size - ia) 0 | return done out ia ib
      acount:=k
      if k > 0 then
        out:=out++a.extract ia (ia+k);ia:=ia+k
        if ia+1==a.size then return lastOfA out ia ib
        if ia==a.size then return done out ia ib
      out:=out.push (← elem' b ib);ib:=ib+1
      if ib==b.size then return done out ia ib
      let some k ← z4m true (← elem' a ia) b ib (b.size - ib) 0 | return done out ia ib
      bcount:=k
      if k > 0 then
        out:=out++b.extract ib (ib+k);ib:=ib+k
        if ib==b.size then return done out ia ib
      out:=out.push (← elem' a ia);ia:=ia+1
      if ia+1==a.size then return lastOfA out ia ib
      if acount<7&&bcount<7 then break
    minGallop:=minGallop+1
    z0j minGallop
  unsupported "internal:list.sort.merge-bound"):=rfl
section
variable {prog:Program} {w:World} {A:Around} {E:Value→Shared→Prop} {s:Shared} {n:Nat} {pe:Array (Nat×Nat×Nat)} {st:SortSt}
theorem z0g {α:Type} {c:Prop} [Decidable c] {x y:StateT SortSt Sem α} {Q:α→SortSt→Prop} (h1:c→wpS (model prog w) A E s x Q st) (h2:¬ c→wpS (model prog w) A E s y Q st):wpS (model prog w) A E s (if c then x else y) Q st:=by
  by_cases hc:c
  · rw [if_pos hc];exact h1 hc
  · rw [if_neg hc];exact h2 hc
end
noncomputable def z9g:Array Keyed→Array Keyed→StateT SortSt Sem (Array Keyed):=sortPriv% PySem.Builtin.mergeHi
theorem ze2 (a b:Array Keyed):z9g a b=(do
  rule "list.sort.merge-hi"
  let total:=a.size+b.size
  let done (out:Array Keyed) (na nb:Nat):=a.extract 0 na++b.extract 0 nb++out.reverse
  let firstOfB (out:Array Keyed) (na nb:Nat):=b.extract 0 nb++a.extract 0 na++out.reverse
  let mut na:=a.size - 1
  let mut nb:=b.size
  let mut out:Array Keyed:=#[← elem' a na]
  if na==0 then return done out na nb
  if nb==1 then return firstOfB out na nb
  let mut minGallop:=gallopOf (← get)
  for _ in [0:total] do
    let mut acount:=0
    let mut bcount:=0
    for _ in [0:total] do
      let some aWins ← lt' (← elem' b (nb - 1)) (← elem' a (na - 1)) | return done out na nb
      if aWins then
        na:=na - 1;out:=out.push (← elem' a na);acount:=acount+1;bcount:=0
        if na==0 then return done out na nb
        if acount≥minGallop then break
      else
        nb:=nb - 1;out:=out.push (← elem' b nb);bcount:=bcount+1;acount:=0
        if nb==1 then return firstOfB out na nb
        if bcount≥minGallop then break
    rule "list.sort.gallop"
    minGallop:=minGallop+1
    for _ in [0:total] do
      if minGallop > 1 then minGallop:=minGallop - 1
      z0j minGallop
      let some at_ ← z4m false (← elem' b (nb - 1)) a 0 na (na - 1) | return done out na nb
      let k:=na - at_
      acount:=k
      if k > 0 then
        out:=out++(a.extract at_ na).reverse;na:=at_
        if na==0 then return done out na nb
      nb:=nb - 1;out:=out.push (← elem' b nb)
      if nb==1 then return firstOfB out na nb
      let some at_ ← z4m true (← elem' a (na - 1)) b 0 nb (nb - 1) | return done out na nb
      let k:=nb - at_
      bcount:=k
      if k > 0 then
        out:=out++(b.extract at_ nb).reverse;nb:=at_
        if nb==1 then return firstOfB out na nb
        if nb==0 then return done out na nb
      na:=na - 1;out:=out.push (← elem' a na)
      if na==0 then return done out na nb
      if acount<7&&bcount<7 then break
    minGallop:=minGallop+1
    z0j minGallop
  unsupported "internal:list.sort.merge-bound"):=rfl
section
variable {prog:Program} {w:World} {A:Around} {E:Value→Shared→Prop} {s:Shared} {n:Nat} {pe:Array (Nat×Nat×Nat)} {st:SortSt}
end
theorem ze3 (i:Nat):mergeAt' i=(do
  let s ← get
  let (some (sa,na,power),some (sb,nb,_)):=((pendingOf s)[i]?,(pendingOf s)[i+1]?) | unsupported "internal:list.sort.pending"
  set (setPending s (((pendingOf s).setIfInBounds i (sa,na+nb,power)).eraseIdxIfInBounds (i+1)))
  let some k ← z4m false (← elem' (arrOf s) sb) (arrOf s) sa na 0 | return false
  let (sa,na):=(sa+k,na - k)
  if na==0 then return true
  let some nb ← z4m true (← elem' (arrOf s) (sa+na - 1)) (arrOf s) sb nb (nb - 1) | return false
  if nb==0 then return true
  let x:=(arrOf s).extract sa sb
  let y:=(arrOf s).extract sb (sb+nb)
  let merged ← if na≤nb then z9f x y else z9g x y
  modify fun s=>setArr s (merged.toList.zipIdx.foldl (fun a (p,j)=>a.setIfInBounds (sa+j) p) (arrOf s))
  return (failedOf (← get)).isNone):=rfl
noncomputable def zaw (p:Array (Nat×Nat×Nat)) (hi:Nat):Prop :=
  ∀ (i sa na pw:Nat),p[i]?=some (sa,na,pw)→1≤na∧sa+na≤hi∧(∀ (sb nb q:Nat),p[i+1]?=some (sb,nb,q)→sb=sa+na)∧(p[i+1]?=none→sa+na=hi)
section
variable {prog:Program} {w:World} {A:Around} {E:Value→Shared→Prop} {s:Shared} {n:Nat} {pe:Array (Nat×Nat×Nat)} {st:SortSt}
theorem zn4 {f:SortSt} {Q:PUnit→SortSt→Prop} (h:Q ⟨⟩ f):wpS (model prog w) A E s (set f:StateT SortSt Sem PUnit) Q st:=by
  unfold wpS
  rw [StateT.run_set]
  exact wpAny_pure ⟨rfl,h⟩
theorem zfy {p:Array (Nat×Nat×Nat)} {hi i sa na pw sb nb q:Nat} (h:zaw p hi) (e1:p[i]?=some (sa,na,pw)) (e2:p[i+1]?=some (sb,nb,q)) :
    zaw ((p.setIfInBounds i (sa,na+nb,pw)).eraseIdxIfInBounds (i+1)) hi∧((p.setIfInBounds i (sa,na+nb,pw)).eraseIdxIfInBounds (i+1)).size+1=p.size:=by
  have hi1:i+1<p.size:=(Array.getElem?_eq_some_iff.mp e2).1
  have hsz:((p.setIfInBounds i (sa,na+nb,pw)).eraseIdxIfInBounds (i+1)).size+1=p.size:=by
    rw [Array.eraseIdxIfInBounds,dif_pos (by rw [Array.size_setIfInBounds];exact hi1),Array.size_eraseIdx,Array.size_setIfInBounds];omega
  have at_:∀ j,((p.setIfInBounds i (sa,na+nb,pw)).eraseIdxIfInBounds (i+1))[j]?=if j=i then some (sa,na+nb,pw) else if j<i then p[j]? else p[j+1]?:=by
    intro j
    rw [Array.eraseIdxIfInBounds,dif_pos (by rw [Array.size_setIfInBounds];exact hi1),Array.getElem?_eraseIdx,Array.getElem?_setIfInBounds,Array.getElem?_setIfInBounds]
    by_cases a:j=i
    · subst a;simp;omega
    · by_cases b:j<i
      · have c:¬ i=j:=fun z=>a z.symm
        rw [if_neg a,if_pos b,if_pos (by omega),if_neg c]
      · have c:¬ i=j+1:=by omega
        rw [if_neg a,if_neg b,if_neg (by omega),if_neg c]
  refine ⟨fun j s1 n1 p1 e=>?_,hsz⟩
  rw [at_] at e
  rw [at_]
  obtain ⟨a1,a2,a3,a4⟩:=h i sa na pw e1
  obtain ⟨b1,b2,b3,b4⟩:=h (i+1) sb nb q e2
  have c3:=a3 sb nb q e2
  by_cases hj:j=i
  · subst hj
    rw [if_pos rfl] at e
    cases e
    rw [if_neg (by omega),if_neg (by omega)]
    exact ⟨by omega,by omega,fun sc nc r e=>by have:=b3 sc nc r e;omega,fun e=>by have:=b4 e;omega⟩
  · rw [if_neg hj] at e
    by_cases hl:j<i
    · rw [if_pos hl] at e
      obtain ⟨d1,d2,d3,d4⟩:=h j s1 n1 p1 e
      refine ⟨d1,d2,fun sc nc r e5=>?_,fun e5=>?_⟩
      · by_cases hj1:j+1=i
        · rw [if_pos hj1] at e5
          cases e5
          exact d3 sa na pw (by rw [hj1];exact e1)
        · rw [if_neg hj1,if_pos (by omega)] at e5
          exact d3 sc nc r e5
      · by_cases hj1:j+1=i
        · rw [if_pos hj1] at e5;cases e5
        · rw [if_neg hj1,if_pos (by omega)] at e5
          exact d4 e5
    · rw [if_neg hl] at e
      obtain ⟨d1,d2,d3,d4⟩:=h (j+1) s1 n1 p1 e
      refine ⟨d1,d2,fun sc nc r e5=>?_,fun e5=>?_⟩
      · rw [if_neg (by omega),if_neg (by omega)] at e5
        exact d3 sc nc r e5
      · rw [if_neg (by omega),if_neg (by omega)] at e5
        exact d4 e5
end
theorem z70 {p:Array (Nat×Nat×Nat)} {lo m q:Nat} (h:zaw p lo) (hm:1≤m):zaw (p.push (lo,m,q)) (lo+m):=by
  intro i sa na pw e
  rw [Array.getElem?_push] at e
  rw [Array.getElem?_push]
  by_cases hi:i=p.size
  · subst hi
    rw [if_pos rfl] at e
    cases e
    rw [if_neg (by omega),Array.getElem?_eq_none (by omega)]
    exact ⟨hm,Nat.le_refl _,(fun _ _ _ z=>nomatch z),fun _=>rfl⟩
  · rw [if_neg hi] at e
    obtain ⟨a1,a2,a3,a4⟩:=h i sa na pw e
    have hlt:i<p.size:=(Array.getElem?_eq_some_iff.mp e).1
    refine ⟨a1,by omega,fun sb nb r z=>?_,fun z=>?_⟩
    · by_cases hj:i+1=p.size
      · rw [if_pos hj] at z
        cases z
        exact (a4 (by rw [Array.getElem?_eq_none_iff];omega)).symm
      · rw [if_neg hj] at z
        exact a3 sb nb r z
    · by_cases hj:i+1=p.size
      · rw [if_pos hj] at z;cases z
      · rw [if_neg hj] at z
        rw [Array.getElem?_eq_none_iff] at z
        omega
theorem zb6 {p:Array (Nat×Nat×Nat)} {hi k pw:Nat} (h:zaw p hi):zaw (p.modify k fun (a,b,_)=>(a,b,pw)) hi:=by
  have e0:∀ j,(p.modify k fun (a,b,_)=>(a,b,pw))[j]?=if k=j then (p[j]?).map (fun (a,b,_)=>(a,b,pw)) else p[j]?:=fun j=>Array.getElem?_modify
  have zsb:∀ (j sa na q:Nat),(p.modify k fun (a,b,_)=>(a,b,pw))[j]?=some (sa,na,q)→∃ q':Nat,p[j]?=some (sa,na,q'):=by
    intro j sa na q e
    rw [e0] at e
    split at e
    · cases z:p[j]? with
      | none=>rw [z] at e;cases e
      | some r =>
        obtain ⟨x,y,u⟩:=r
        rw [z] at e
        cases e
        exact ⟨u,rfl⟩
    · exact ⟨q,e⟩
  intro i sa na q e
  obtain ⟨q',e'⟩:=zsb i sa na q e
  obtain ⟨a1,a2,a3,a4⟩:=h i sa na q' e'
  refine ⟨a1,a2,fun sb nb r z=>?_,fun z=>?_⟩
  · obtain ⟨r',z'⟩:=zsb _ _ _ _ z
    exact a3 sb nb r' z'
  · refine a4 ?_
    rw [e0] at z
    split at z
    · exact Option.map_eq_none_iff.mp z
    · exact z
section
variable {prog:Program} {w:World} {A:Around} {E:Value→Shared→Prop} {s:Shared} {n:Nat} {pe:Array (Nat×Nat×Nat)} {st:SortSt}
end
section
variable {prog:Program} {w:World} {A:Around} {E:Value→Shared→Prop} {s:Shared}
end
end Tim
namespace L2
open PySem PySem.Spec PyProof.Rows
noncomputable def z2v (X:Cx) (N':List Str) (scope:Scope) (cl:List (Str×Addr)) (C:Addr) (s₀:Shared) (H₀:Hp) (ex:List Addr):Cx :=
  { X with N:=N',s₀:=s₀,H₀:=H₀,env:=compEnvC scope cl C X.env,outer:=X.stack,ex:=ex,fn:=fun x=>scope.names.lookup x==some NameKind.cell,pn:=[] }
theorem z8b {env:Env}:∀ (names:List (Str×NameKind)) (acc:List (Str×Addr)),(∀ y∈names,y.2=.free→∃ c,env.cells.lookup y.1=some c) →
    (∀ y c,acc.lookup y=some c→env.cells.lookup y=some c) →
    ∃ cl,(forIn names acc fun x r=>if (x.2==NameKind.free)=true then do let c ← cellOf env x.1;pure (ForInStep.yield ((x.1,c)::r)) else pure (ForInStep.yield r):Sem (List (Str×Addr)))=pure cl ∧
      (∀ y c,cl.lookup y=some c→env.cells.lookup y=some c)∧(∀ y,(y,NameKind.free)∈names→∃ c,cl.lookup y=some c)∧∀ y c,acc.lookup y=some c→∃ c',cl.lookup y=some c'
  | [],acc,_,ha=>⟨acc,by simp,ha,fun _ h=>by simp at h,fun y c h=>⟨c,h⟩⟩
  | (n,k)::r,acc,h,ha=>by
    by_cases hk:k=.free
    · subst hk
      obtain ⟨c,hc⟩:=h (n,.free) List.mem_cons_self rfl
      have e:cellOf env n=pure c:=by unfold cellOf;rw [hc]
      obtain ⟨cl,e1,h1,h2,h3⟩:=z8b r ((n,c)::acc) (fun y hy=>h y (List.mem_cons_of_mem _ hy)) (fun y d hd=>by
        rw [List.lookup_cons] at hd
        split at hd
        · rename_i hb
          have:y=n:=by simpa using hb
          subst this
          cases hd
          exact hc
        · exact ha y d hd)
      refine ⟨cl,?_,h1,fun y hy=>?_,fun y d hd=>?_⟩
      · rw [List.forIn_cons,e]
        simpa using e1
      · rcases List.mem_cons.mp hy with z | z
        · cases z
          exact h3 n c (by simp [List.lookup_cons])
        · exact h2 y z
      · by_cases hy:y=n
        · subst hy
          exact h3 y c (by simp [List.lookup_cons])
        · have hb:(y==n)=false:=by simpa using hy
          exact h3 y d (by simp only [List.lookup_cons,hb];exact hd)
    · have hb:(k==NameKind.free)=false:=by simpa using hk
      refine bq fun bG=>?_
      obtain ⟨cl,e1,h1,h2,h3⟩:=z8b r acc (fun y hy=>h y (List.mem_cons_of_mem _ hy)) ha
      refine bG (⟨cl,?_,h1,fun y hy=>?_,h3⟩)
      · rw [List.forIn_cons]
        simpa [hb] using e1
      · rcases List.mem_cons.mp hy with z | z
        · cases z
          exact absurd rfl hk
        · exact h2 y z
theorem z94 {scope:Scope} {env:Env} (h:∀ y∈scope.names,y.2=.free→∃ c,env.cells.lookup y.1=some c) :
    ∃ cl,closureFor scope env=pure cl∧(∀ y c,cl.lookup y=some c→env.cells.lookup y=some c)∧∀ y,(y,NameKind.free)∈scope.names→∃ c,cl.lookup y=some c:=by
  refine bq fun bG=>?_
  obtain ⟨cl,e,h1,h2,_⟩:=z8b (env:=env) scope.names [] h (fun _ _ z=>by simp at z)
  refine bG (⟨cl,?_,h1,h2⟩)
  unfold closureFor
  show ((forIn scope.names [] fun x r=>if (x.2==NameKind.free)=true then do let c ← cellOf env x.1;pure (ForInStep.yield ((x.1,c)::r)) else pure (ForInStep.yield r):Sem (List (Str×Addr))) >>= fun cs=>pure cs)=pure cl
  rw [e]
  rfl
section
variable {prog:Program} {w:World} {A:Around} {R:Result→Shared→Prop} {s:Shared}
theorem zd7 {elt target iter:Expr} {ifs:List Expr} {scope:Scope} {pos:Pos} {it acc:Value} {env:Env} (I:Nat→Shared→Prop)
    (turn:∀ n s,I n s→wpAny (model prog w) A (pyNext it) (fun r s₁=>match r with
      | none=>R (.ok .next) s₁
      | some v=>wpAny (model prog w) A (letOwnedTupleGo target it v) (fun _ s₁'=>wpAny (model prog w) A (assign target env v) (fun _ s₂ =>
          wpAny (model prog w) A (forIn ifs true fun c r=>if r=true then do let ok ← isTrue c env (eval c env);pure (ForInStep.yield ok) else pure (ForInStep.yield r)) (fun ok s₃ =>
            if ok=true then wpAny (model prog w) A (eval elt env) (fun x s₄ =>
              wpAny (model prog w) A (call (.builtin "list.append") [acc,x]) (fun _ s₅=>∃ m,m<n∧I m s₅) (fun _ _=>False) s₄) (fun _ _=>False) s₃
            else ∃ m,m<n∧I m s₃) (fun _ _=>False) s₂) (fun _ _=>False) s₁') (fun _ _=>False) s₁) (fun _ _=>False) s)
    (n:Nat) (h:I n s):codeAny (model prog w) A (.compLoop (.ListComp elt [⟨target,iter,ifs,0⟩] scope pos) 0 it acc env) R s:=by
  refine codeAny_loop rfl I (fun n s hI=>?_) n h
  show wpAny _ A ((compTurn (.ListComp elt [⟨target,iter,ifs,0⟩] scope pos) 0 it acc env).onRaise (fun x=>do noteFrame x env;theTreesLotGoes x)) _ _ s
  refine wpAny_noted ?_
  rw [compTurn_list]
  refine wpAny_mono (E:=fun _ _=>False) ?_ (fun _ _ x=>x) fun _ _ x=>x.elim
  refine wpAny_bind (wpAny_standAt (wpAny_bind (wpAny_mono (turn n s hI) (fun r s₁ h₁=>?_) fun _ _ h'=>h')))
  cases r with
  | none=>exact wpAny_pure h₁
  | some v =>
    refine wpAny_bind (wpAny_mono h₁ (fun _ s₁' h₁'=>?_) fun _ _ h'=>h')
    refine wpAny_bind (wpAny_mono h₁' (fun _ s₂ h₂=>wpAny_bind (wpAny_mono h₂ (fun ok s₃ h₃=>?_) fun _ _ h'=>h')) fun _ _ h'=>h')
    cases ok with
    | false=>exact wpAny_pure ⟨rfl,h₃⟩
    | true =>
      exact wpAny_bind (wpAny_bind (wpAny_mono h₃ (fun x s₄ h₄=>wpAny_bind (wpAny_mono h₄ (fun _ s₅ h₅=>wpAny_pure (wpAny_pure ⟨rfl,h₅⟩)) fun _ _ h'=>h')) fun _ _ h'=>h'))
end
theorem z6j {env:Env} {x:Str}:∀ {names:List (Str×NameKind)},names.lookup x=some .free →
    (names.map fun (n,k)=>if (k==NameKind.free&&env.scope.kind==.function&&env.kindOf n==some .cell) then (n,NameKind.cell) else (n,k)).lookup x=some .free ∨
    (names.map fun (n,k)=>if (k==NameKind.free&&env.scope.kind==.function&&env.kindOf n==some .cell) then (n,NameKind.cell) else (n,k)).lookup x=some .cell
  | [],h=>by simp at h
  | (n,k)::r,h=>by
    have ih:=@z6j env x r
    show List.lookup x ((if (k==NameKind.free&&env.scope.kind==.function&&env.kindOf n==some .cell)=true then (n,NameKind.cell) else (n,k))::_)=_∨List.lookup x ((if (k==NameKind.free&&env.scope.kind==.function&&env.kindOf n==some .cell)=true then (n,NameKind.cell) else (n,k))::_)=_
    cases hx:x==n with
    | true =>
      simp only [List.lookup_cons,hx] at h
      cases h
      by_cases hc:(NameKind.free==NameKind.free&&env.scope.kind==.function&&env.kindOf n==some .cell)=true
      · rw [if_pos hc];exact .inr (by simp [List.lookup_cons,hx])
      · rw [if_neg hc];exact .inl (by simp [List.lookup_cons,hx])
    | false =>
      simp only [List.lookup_cons,hx] at h
      by_cases hc:(k==NameKind.free&&env.scope.kind==.function&&env.kindOf n==some .cell)=true
      · rw [if_pos hc];simp only [List.lookup_cons,hx];exact ih h
      · rw [if_neg hc];simp only [List.lookup_cons,hx];exact ih h
theorem z8o {env:Env} {x:Str}:∀ {names:List (Str×NameKind)},
    ((names.map fun (n,k)=>if (k==NameKind.free&&env.scope.kind==.function&&env.kindOf n==some .cell) then (n,NameKind.cell) else (n,k)).lookup x=some .cell ∨
     (names.map fun (n,k)=>if (k==NameKind.free&&env.scope.kind==.function&&env.kindOf n==some .cell) then (n,NameKind.cell) else (n,k)).lookup x=some .free)→names.lookup x=some .free∨names.lookup x=some .cell
  | [],h=>by simp at h
  | (n,k)::r,h=>by
    have ih:=@z8o env x r
    have h:List.lookup x ((if (k==NameKind.free&&env.scope.kind==.function&&env.kindOf n==some .cell)=true then (n,NameKind.cell) else (n,k))::(r.map fun (n,k)=>if (k==NameKind.free&&env.scope.kind==.function&&env.kindOf n==some .cell) then (n,NameKind.cell) else (n,k)))=some .cell ∨
      List.lookup x ((if (k==NameKind.free&&env.scope.kind==.function&&env.kindOf n==some .cell)=true then (n,NameKind.cell) else (n,k))::(r.map fun (n,k)=>if (k==NameKind.free&&env.scope.kind==.function&&env.kindOf n==some .cell) then (n,NameKind.cell) else (n,k)))=some .free:=h
    cases hx:x==n with
    | true =>
      by_cases hc:(k==NameKind.free&&env.scope.kind==.function&&env.kindOf n==some .cell)=true
      · have:k=.free:=by
          have z:=(Bool.and_eq_true_iff.mp (Bool.and_eq_true_iff.mp hc).1).1
          simpa using z
        subst this
        exact .inl (by simp [List.lookup_cons,hx])
      · rw [if_neg hc] at h
        simp only [List.lookup_cons,hx] at h ⊢
        exact h.symm
    | false =>
      have:∀ p:NameKind,List.lookup x ((if (k==NameKind.free&&env.scope.kind==.function&&env.kindOf n==some .cell)=true then (n,NameKind.cell) else (n,k))::(r.map fun (n,k)=>if (k==NameKind.free&&env.scope.kind==.function&&env.kindOf n==some .cell) then (n,NameKind.cell) else (n,k)))=some p↔(r.map fun (n,k)=>if (k==NameKind.free&&env.scope.kind==.function&&env.kindOf n==some .cell) then (n,NameKind.cell) else (n,k)).lookup x=some p:=fun p=>by
        by_cases hc:(k==NameKind.free&&env.scope.kind==.function&&env.kindOf n==some .cell)=true
        · rw [if_pos hc];simp only [List.lookup_cons,hx]
        · rw [if_neg hc];simp only [List.lookup_cons,hx]
      rw [this .cell,this .free] at h
      have:=ih h
      simp only [List.lookup_cons,hx]
      exact this
theorem z2k:∀ (names:List (Str×NameKind)) (n:Nat) (acc:List (Str×Addr)),cellsFrom n names acc=cellsFrom n names []++acc
  | [],_,_=>rfl
  | (name,kind)::r,n,acc=>by
    unfold cellsFrom
    split
    · rw [z2k r (n+1) ((name,n)::acc),z2k r (n+1) [(name,n)],List.append_assoc]
      rfl
    · exact z2k r n acc
theorem zaf {x:Str} {c:Addr}:∀ (names:List (Str×NameKind)) (n:Nat) (acc:List (Str×Addr)),(x,c)∈cellsFrom n names acc→(x,NameKind.cell)∈names∨(x,c)∈acc
  | [],_,_,h=>.inr h
  | (name,kind)::r,n,acc,h=>by
    unfold cellsFrom at h
    split at h
    · rename_i hk
      have hk':kind=.cell:=by simpa using hk
      rcases zaf r (n+1) _ h with z | z
      · exact .inl (List.mem_cons_of_mem _ z)
      · rcases List.mem_cons.mp z with z | z
        · cases z;rw [hk'];exact .inl List.mem_cons_self
        · exact .inr z
    · rcases zaf r n acc h with z | z
      · exact .inl (List.mem_cons_of_mem _ z)
      · exact .inr z
structure CompScope (X:Cx) (N' own:List Str) (cap:List (Str×Nat)) (scope:Scope):Prop where
  kind:scope.kind=.function
  own1:∀ y∈scope.names,y.2=.cell→scope.names.lookup y.1=some .cell
  free1:∀ y∈scope.names,y.2=.free→scope.names.lookup y.1=some .free
  names:∀ y∈scope.names,y.2=.local→scope.names.lookup y.1=some .local
  free:∀ y∈scope.names,y.2=.free→X.env.kindOf y.1=some .cell∨X.env.kindOf y.1=some .free
  eq:N'=own++cap.map (·.1)
  cap:∀ p∈cap,X.N[p.2]?=some p.1∧scope.names.lookup p.1=some .free∧(X.env.kindOf p.1=some .cell∨X.env.kindOf p.1=some .free)
noncomputable def z8d (own:List Str) (cap:List (Str×Nat)) (σ:St):St:=own.map (fun _=>none)++cap.map fun p=>(σ[p.2]?).join
section
variable {X:Cx} {pins:List (Addr×Obj)} {σ:St} {H:Hp} {s:Shared} {N' own:List Str} {cap:List (Str×Nat)} {scope:Scope} {cl:List (Str×Addr)} {fp:List Addr}
structure CellsAre (X:Cx) (scope:Scope) (C:Addr) (cl cs:List (Str×Addr)):Prop where
  old:∀ y c,cs.lookup y=some c→(cl.lookup y=some c∧scope.names.lookup y≠some .cell)∨(C<c∧scope.names.lookup y=some .cell)
  free:∀ y c,cl.lookup y=some c→scope.names.lookup y≠some .cell→cs.lookup y=some c
  has:∀ y,scope.names.lookup y=some .cell→∃ c,cs.lookup y=some c
  inj:∀ x y c,C<c→cs.lookup x=some c→cs.lookup y=some c→x=y
theorem z4r {α:Type} {x:Str}:∀ {l r:List (Str×α)},(l++r).lookup x=(l.lookup x).or (r.lookup x)
  | [],r=>by simp
  | (k,v)::l,r=>by
    have ih:=@z4r α x l r
    rw [List.cons_append,List.lookup_cons,List.lookup_cons]
    cases x==k with
    | true=>rfl
    | false=>exact ih
theorem zjc {h:Heap} {C:Addr} (hC:h.objs.size=C+1) (S:CompScope X N' own cap scope) (hcl:∀ y c,cl.lookup y=some c→¬ C<c):CellsAre X scope C cl (cellsFrom (C+1) scope.names cl):=by
  have ok:=cellsFrom_ok scope.names h (C+1) [] ⟨fun _ _ hm=>(nomatch hm),List.Pairwise.nil⟩ (by rw [hC];exact Nat.le_refl _)
  rw [hC] at ok
  have own:∀ y c,(cellsFrom (C+1) scope.names []).lookup y=some c→C<c∧scope.names.lookup y=some .cell:=fun y c e=>by
    have m:=PySem.mem_of_lookup e
    refine ⟨(ok.empty y c m).2,?_⟩
    rcases zaf _ _ _ m with z | z
    · exact S.own1 _ z rfl
    · simp at z
  have no:∀ y,scope.names.lookup y≠some .cell→(cellsFrom (C+1) scope.names []).lookup y=none:=fun y hy=>by
    cases e:(cellsFrom (C+1) scope.names []).lookup y with
    | none=>rfl
    | some c=>exact absurd (own y c e).2 hy
  have has:∀ y,scope.names.lookup y=some .cell→∃ c,(cellsFrom (C+1) scope.names []).lookup y=some c:=fun y hy=>Option.isSome_iff_exists.mp (PySem.W.cellsFrom_some scope.names (C+1) [] (.inl hy))
  refine ⟨fun y c e=>?_,fun y c e hy=>?_,fun y hy=>?_,fun x y c hc e1 e2=>?_⟩
  · rw [z2k,z4r] at e
    cases q:(cellsFrom (C+1) scope.names []).lookup y with
    | none =>
      rw [q] at e
      refine .inl ⟨e,fun z=>?_⟩
      obtain ⟨c',e'⟩:=has y z
      rw [q] at e';cases e'
    | some c' =>
      rw [q] at e
      have:c'=c:=Option.some.inj e
      subst this
      exact .inr (own y c' q)
  · rw [z2k,z4r,no y hy]
    exact e
  · obtain ⟨c,e⟩:=has y hy
    exact ⟨c,by rw [z2k,z4r,e];rfl⟩
  · have ztk:∀ z,(cellsFrom (C+1) scope.names cl).lookup z=some c→(z,c)∈cellsFrom (C+1) scope.names []:=fun z e=>by
      rw [z2k,z4r] at e
      cases q:(cellsFrom (C+1) scope.names []).lookup z with
      | none=>rw [q] at e;exact absurd hc (hcl z c e)
      | some c' =>
        rw [q] at e
        have:c'=c:=Option.some.inj e
        subst this
        exact PySem.mem_of_lookup q
    exact PySem.name_of_addr ok.apart (ztk x e1) (ztk y e2)
theorem zoq (I:Inv X pins σ H s) (S:CompScope X N' own cap scope) {cs:List (Str×Addr)} (A:CellsAre X scope s.heap.objs.size cl cs) (c1:∀ y c,cl.lookup y=some c→X.env.cells.lookup y=some c) (c2:∀ y,(y,NameKind.free)∈scope.names→∃ c,cl.lookup y=some c)
    (hf:∀ b∈fp,zfq X pins H b) (hlt:∀ b∈fp,b<s.heap.objs.size):(z2v X N' scope cs s.heap.objs.size s H fp).Ok where
  mod:=I.ok.mod
  kind:=S.kind
  glob:=I.ok.glob
  blt:=I.ok.blt
  above:=Nat.le_refl _
  inj:=fun x y c h1 h2=>by
    rcases A.old x c h1 with ⟨a1,_⟩ | ⟨a1,_⟩
    · rcases A.old y c h2 with ⟨b1,_⟩ | ⟨b1,_⟩
      · exact I.ok.inj x y c (c1 x c a1) (c1 y c b1)
      · obtain ⟨v,o,ho,_⟩:=I.cell x c (c1 x c a1)
        exact absurd (Nat.lt_trans b1 (Heap.lt_size ho)) (Nat.lt_irrefl _)
    · exact A.inj x y c a1 h1 h2
  has:=fun x h=>by
    rcases z8o h with z | z
    · obtain ⟨c,e⟩:=c2 x (PySem.mem_of_lookup z)
      exact ⟨c,A.free x c e (by rw [z];simp)⟩
    · exact A.has x z
  cab:=fun x c h e=>by
    have h':scope.names.lookup x=some .cell:=by
      have:(scope.names.lookup x==some NameKind.cell)=true:=h
      simpa using this
    rcases A.old x c e with ⟨_,z⟩ | ⟨z,_⟩
    · exact absurd h' z
    · exact Nat.le_of_lt z
  hd:=I.ok.hd
  frames:=I.ok.frames
  stk:=.inl rfl
  exf:=fun b hb=>⟨Nat.ne_of_lt (hlt b hb),fun x c h=>by
    rcases A.old x c h with ⟨z,_⟩ | ⟨z,_⟩
    · exact (hf b hb).2.2.2.2.1 x c (c1 x c z)
    · exact fun e=>absurd (Nat.lt_trans (e ▸ z) (hlt b hb)) (Nat.lt_irrefl _)⟩
  bs:=I.bs
  bsz:=Nat.le_trans I.ok.bsz I.sz
  noex:=fun b o e hb=>by
    rcases (hf b hb).2.2.2.1 with z | z
    · exact I.ok.noex b o e z
    · exact absurd (Nat.lt_of_lt_of_le (Heap.lt_size e) (Nat.le_trans I.ok.bsz z)) (Nat.lt_irrefl _)
  exfs:=fun b hb z=>by
    rcases List.mem_cons.mp (I.stkSub b z) with q | q
    · exact (hf b hb).2.1 q
    · exact (hf b hb).2.2.1 q
  funs:=I.stack
  frf:=I.stkFree
theorem comp_inv {h':Heap} {t':Nat} {cs:List (Str×Addr)} (I:Inv X pins σ H s) (S:CompScope X N' own cap scope) (A:CellsAre X scope s.heap.objs.size cl cs) (hA:∀ y c,cs.lookup y=some c→s.heap.objs.size<c→h'.IsCell c none)
    (c1:∀ y c,cl.lookup y=some c→X.env.cells.lookup y=some c) (c2:∀ y,(y,NameKind.free)∈scope.names→∃ c,cl.lookup y=some c)
    (hf:∀ b∈fp,zfq X pins H b) (hlt:∀ b∈fp,b<s.heap.objs.size) (hk:∀ b o,s.heap.get? b=some o→h'.get? b=some o) {m:Str→Option Value} (hn:h'.Ns s.heap.objs.size m) :
    Inv (z2v X N' scope cs s.heap.objs.size s H fp) [] (z8d own cap σ) H { s with heap:=h',toks:=t' }:=by
  refine ⟨zoq I S A c1 c2 hf hlt,rfl,I.bare,Un.kept hk,⟨m,hn,fun i x v h1 h2 h3=>?_⟩,fun x c e=>?_,I.hok.fresh (Nat.le_refl _),fun x c e=>?_,fun p hp=>absurd hp (by show p∉([]++[]:List (Addr×Obj));simp),?_,?_⟩
  · have hi:own.length≤i:=by
      by_cases hi:own.length≤i
      · exact hi
      · unfold z8d at h2
        rw [List.getElem?_append_left (by rw [List.length_map];omega),List.getElem?_map] at h2
        cases e:own[i]? with
        | none=>rw [e] at h2;cases h2
        | some a=>rw [e] at h2;cases h2
    have h1':(own++cap.map (·.1))[i]?=some x:=by rw [← S.eq];exact h1
    rw [List.getElem?_append_right hi,List.getElem?_map] at h1'
    unfold z8d at h2
    rw [List.getElem?_append_right (by rw [List.length_map];exact hi),List.length_map,List.getElem?_map] at h2
    cases e:cap[i - own.length]? with
    | none=>rw [e] at h2;cases h2
    | some p =>
      rw [e] at h1' h2
      have ex:p.1=x:=Option.some.inj h1'
      have ev:(σ[p.2]?).join=some v:=Option.some.inj h2
      have ev':σ[p.2]?=some (some v):=by
        cases q:σ[p.2]? with
        | none=>rw [q] at ev;cases ev
        | some z=>rw [q] at ev;exact congrArg some ev
      refine bq fun bG=>?_
      obtain ⟨k1,k2,k3⟩:=S.cap p (List.mem_of_getElem? e)
      subst ex
      obtain ⟨m0,hn0,hl⟩:=I.loc
      obtain ⟨u,ru,lk⟩:=hl p.2 p.1 v k1 ev' (by rcases k3 with z | z;exact .inr (.inl z);exact .inr (.inr z))
      refine bG (⟨u,ru,?_⟩)
      rcases lk with ⟨z,_⟩ | ⟨_,c,hc,hcell⟩
      · rcases k3 with q | q <;> (rw [z] at q;cases q)
      · refine .inr ⟨?_,c,?_,?_⟩
        · rcases z6j (env:=X.env) k2 with q | q
          · exact .inr q
          · exact .inl q
        · obtain ⟨c',e'⟩:=c2 p.1 (PySem.mem_of_lookup k2)
          have:=c1 _ _ e'
          rw [hc] at this
          cases this
          exact A.free _ _ e' (by rw [k2];simp)
        · obtain ⟨o,ho,hd⟩:=hcell
          exact ⟨o,hk _ _ ho,hd⟩
  · rcases A.old x c e with ⟨z,_⟩ | ⟨z,_⟩
    · obtain ⟨v,o,ho,hd⟩:=I.cell x c (c1 x c z)
      exact ⟨v,o,hk _ _ ho,hd⟩
    · exact ⟨none,hA x c e z⟩
  · rcases A.old x c e with ⟨z,_⟩ | ⟨z,_⟩
    · exact I.freeC x c (c1 x c z)
    · exact I.hok.fresh (Nat.le_of_lt z)
  · exact I.hok.kept hk
  · show (z8d own cap σ).length=N'.length
    rw [S.eq]
    unfold z8d
    simp
end
noncomputable def PIf (X:Cx) (ifs:List Expr) (t:TT):Prop :=
  ∀ (pins:List (Addr×Obj)) (s:Shared) (σ:St) (H:Hp) (Q:Bool→Hp→Prop),Inv X pins σ H s→t σ H Q →
    wpAny (model X.prog X.w) X.A (forIn ifs true fun c r=>if r=true then do let ok ← isTrue c X.env (eval c X.env);pure (ForInStep.yield ok) else pure (ForInStep.yield r)) (TP X pins σ Q) X.xe s
def zv6:TT:=fun _ H Q=>Q true H
theorem znv {X:Cx}:PIf X [] zv6:=fun _ _ _ H _ I h=>wpAny_tests_nil ⟨H,I,h⟩
theorem znu {X:Cx} {c:Expr} {t:TT} (h:PT X c t):PIf X [c] t:=fun pins s σ H Q I hw=>wpAny_tests_one (h pins s σ H Q I hw)
theorem zc3 {M:Model} {A:Around} {E:Value→Shared→Prop} {s:Shared} {scope:Scope} {globals:Addr} {cl:List (Str×Addr)} {qual:Str} {env:Env} {Q:Env→Shared→Prop}
    (hQ:∀ h',h'.Ns s.heap.objs.size (fun _=>none)→(∀ b o,s.heap.get? b=some o→h'.get? b=some o)→(∀ n c,(n,c)∈cellsFrom (s.heap.objs.size+1) scope.names []→h'.IsCell c none) →
      Q (newEnv scope s.heap.objs.size globals (cellsFrom (s.heap.objs.size+1) scope.names cl) qual none .none (some env) builtinsNs) { s with heap:=h' }) :
    wpAny M A (newFunctionEnv scope globals cl [] qual none .none (some env)) Q E s:=by
  simp only [newFunctionEnv,Option.isSome_some,if_true]
  refine wpAny_bind (wpAny_alloc ?_)
  refine wpAny_bind (wpAny_layCells _ (fun name kind cells=>by cases hkc:kind==NameKind.cell <;> simp [hkc]) _ _ _ _ ?_)
  have ok:=cellsFrom_ok scope.names (s.heap.push { cls:=.type "dict",data:=.dict #[] }) (s.heap.objs.size+1) [] ⟨fun _ _ hm=>(nomatch hm),List.Pairwise.nil⟩ (by rw [Heap.size_push];exact Nat.le_refl _)
  rw [Heap.size_push] at ok
  rw [show ({ s with heap:=s.heap.push { cls:=.type "dict",data:=.dict #[] } }:Shared).heap.objs.size=s.heap.objs.size+1 from Heap.size_push ..]
  rw [List.forIn_nil]
  refine wpAny_bind (wpAny_pure (wpAny_pure ?_))
  exact hQ _ ((Heap.Ns.new s.heap (.type "dict")).keeps (pushCells_keeps _ _)) (fun b o e=>pushCells_keeps _ _ b o (Heap.get?_push_of_some _ e)) fun n c hm=>(ok.empty n c hm).1
noncomputable def z5a (J:It) (g:TG) (tc:TT) (te:TE) (D:Addr) (σ0:St) (H0:Hp) (Z:Hp→Prop):Prop :=
  ∃ W:Nat→Nat→St→Hp→Prop,(∃ m,W 0 m σ0 (upd H0 D (.lst [])))∧∀ i m σ H,W i m σ H →
    (J.stop i H∧Z H)∨(J.go i H∧∃ N:St→Hp→Prop,(∀ σ' H',N σ' H'→∃ m',m'<m∧W (i+1) m' σ' H')∧∀ x H',J.yld i H x H'→g x σ H' fun σ2 H2=>tc σ2 H2 fun b H3 =>
      if b=true then te σ2 H3 fun v H4=>∃ ys,H4 D=some (.lst ys)∧ys.length<sizeLine∧N σ2 (upd H4 D (.lst (ys++[v]))) else N σ2 H3)
section
variable {X:Cx} {pins:List (Addr×Obj)} {σ:St} {N' own:List Str} {cap:List (Str×Nat)} {scope:Scope} {tg iter elt:Expr} {ifs:List Expr} {pos:Pos} {g:TG} {tc:TT} {te:TE}
theorem zj9 {Y:Cx} {s:Shared} {σ0:St} {H2:Hp} {it D:Addr} {fp:List Addr} {tn:Nat→Heap→Prop} {J:It} {Z:Hp→Prop} {R:Result→Shared→Prop}
    (hx:∀ e s,Y.xe e s→False) (hc:Y.calm=true) (hg:PG Y tg g) (ht:PIf Y ifs tc) (he:PE Y elt te)
    (T:Turn Y.prog Y.w Y.K tg J fp it tn) (J0:Inv Y [] σ0 (upd H2 D (.lst [])) s) (st3:tn 0 s.heap) (f3:∀ b∈fp,upd H2 D (.lst []) b=none)
    (stat:∀ {H':Hp},(∀ b∈fp,H' b=none)→∀ b∈fp,zfq Y [] H' b) (h:z5a J g tc te D σ0 H2 Z)
    (hR:∀ σ4 H4 s5,Inv Y [] σ4 H4 s5→Z H4→R (.ok .next) s5) :
    codeAny (model Y.prog Y.w) Y.A (.compLoop (.ListComp elt [⟨tg,iter,ifs,0⟩] scope pos) 0 (.ref it) (.ref D) Y.env) R s:=by
  obtain ⟨W,⟨m0,w0⟩,turn⟩:=h
  have noX:∀ {α:Type} {t:Sem α} {Q:α→Shared→Prop} {s:Shared},wpAny (model Y.prog Y.w) Y.A t Q Y.xe s→wpAny (model Y.prog Y.w) Y.A t Q (fun _ _=>False) s:=fun q=>wpAny_mono q (fun _ _ z=>z) fun e s z=>hx e s z
  obtain ⟨P,hP⟩:∃ P:Nat→Shared→Prop,∀ n s',P n s'↔∃ i σ' H',Inv Y [] σ' H' s'∧tn i s'.heap∧(∀ b∈fp,H' b=none)∧W i n σ' H':=⟨_,fun _ _=>Iff.rfl⟩
  refine zd7 P ?_ m0 ((hP _ _).2 ⟨0,_,_,J0,st3,f3,w0⟩)
  rintro n s4 h4
  obtain ⟨i,σ4,H4,I4,st4,fr4,w4⟩:=(hP _ _).1 h4
  rcases turn i n σ4 H4 w4 with ⟨stop,qz⟩ | ⟨go,N,hN,step⟩
  · refine wpAny_mono (T.done Y rfl rfl rfl hc i [] s4 σ4 H4 (fun _ _=>False) I4 (stat fr4) st4 stop) (fun r s5 ⟨hr,I5⟩=>?_) fun _ _ z=>z
    subst hr
    exact hR σ4 H4 s5 I5 qz
  · refine wpAny_mono (T.item Y rfl rfl rfl hc i [] s4 σ4 H4 (fun _ _=>False) I4 (stat fr4) st4 go) (fun r s5 ⟨u,hr,h5⟩=>?_) fun _ _ z=>z
    subst hr
    refine wpAny_mono h5 (fun _ s6 hm=>?_) fun _ _ z=>z
    obtain ⟨x,H6,I6,r6,y6,st6,fr6⟩:=hm
    have I6':=I6.pinned (stat fr6) (T.obj _ _ st6)
    have again:∀ {σ7:St} {H7:Hp} {s7:Shared},Inv Y ([]++zcx fp s6.heap) σ7 H7 s7→N σ7 H7→∃ m,m<n∧P m s7:=fun {σ7 H7 s7} I7 n7=>by
      refine bq fun bG=>?_
      obtain ⟨m',hm,w7⟩:=hN σ7 H7 n7
      refine bG (⟨m',hm,(hP _ _).2 ⟨i+1,σ7,H7,I7.unpinned,T.keep _ _ _ st6 fun b hb o e=>(I7.pin (b,o) (List.mem_append_right _ (List.mem_append_right _ (z69 hb e)))).1,fun b hb=>?_,w7⟩⟩)
      refine bq fun bG=>?_
      obtain ⟨o,e,d⟩:=T.obj _ _ st6 b hb
      exact bG ((I7.pin (b,o) (List.mem_append_right _ (List.mem_append_right _ (z69 hb e)))).2.1)
    refine noX (thn (hg _ s6 σ4 H6 x u _ I6' r6 (step x H6 y6)) fun _ s7 hm=>?_)
    refine bq fun bG=>?_
    obtain ⟨σ7,H7,I7,q7⟩:=hm
    refine bG (noX (thn (ht _ s7 σ7 H7 _ I7 q7) fun b s8 hm=>?_))
    obtain ⟨H8,I8,q8⟩:=hm
    cases b with
    | false =>
      show ∃ m,_
      exact again I8 q8
    | true =>
      show wpAny _ _ _ _ _ _
      refine noX (thn (he _ s8 σ7 H8 _ I8 q8) fun y s9 hm=>?_)
      refine bq fun bG=>?_
      obtain ⟨v,H9,I9,r9,ys,hy,hz,q9⟩:=hm
      refine bG (noX (thn (zd1 (X:=Y) _ s9 σ7 H9 (.ref D) [v] (.ref D) [y] (fun _ H'=>N σ7 H') I9 rfl (.cons r9 .nil) ⟨_,ys,v,rfl,rfl,hy,hz,q9⟩) fun _ s10 hm=>?_))
      refine bq fun bG=>?_
      obtain ⟨_,H10,I10,_,q10⟩:=hm
      exact bG (again I10 q10)
theorem zd6 {s2:Shared} {H2:Hp} {it:Addr} {fp:List Addr} {tn:Nat→Heap→Prop} {J:It} {cl:List (Str×Addr)} {Z:Addr→Hp→Prop} {RR:Value→Addr→Result→Shared→Prop} {E:Value→Shared→Prop}
    (hx:∀ e s,X.xe e s→False) (hc:X.calm=true) (S:CompScope X N' own cap scope)
    (hg:∀ cl C s₀ H₀ ex,PG (z2v X N' scope cl C s₀ H₀ ex) tg g) (ht:∀ cl C s₀ H₀ ex,PIf (z2v X N' scope cl C s₀ H₀ ex) ifs tc) (he:∀ cl C s₀ H₀ ex,PE (z2v X N' scope cl C s₀ H₀ ex) elt te)
    (I2:Inv X pins σ H2 s2) (T:Turn X.prog X.w X.K tg J fp it tn) (st2:tn 0 s2.heap) (f2:∀ b∈fp,zfq X pins H2 b)
    (c1:∀ y c,cl.lookup y=some c→X.env.cells.lookup y=some c) (c2:∀ y,(y,NameKind.free)∈scope.names→∃ c,cl.lookup y=some c)
    (h:∀ D,H2 D=none→z5a J g tc te D (z8d own cap σ) H2 (Z D))
    (hRR:∀ D C s' m' H',Inv X pins σ H' s'→s'.heap.Ns C m'→zfq X pins H' C→Z D H'→RR (.ref D) C (.ok .next) s') :
    wpAny (model X.prog X.w) X.A (newList []) (fun acc s₃=>wpAny (model X.prog X.w) X.A (newFunctionEnv scope X.env.globals cl [] X.env.qual none .none (some X.env)) (fun cenv s₄ =>
      codeAny (model X.prog X.w) X.A (.compStart (.ListComp elt [⟨tg,iter,ifs,0⟩] scope pos) 0 (.ref it) acc { cenv with scope:=relabel scope X.env }) (RR acc cenv.locals) s₄) E s₃) E s2:=by
  have hlt:∀ b∈fp,b<s2.heap.objs.size:=fun b hb=>by
    refine bq fun bG=>?_
    obtain ⟨o,e,_⟩:=T.obj _ _ st2 b hb
    exact bG (Heap.lt_size e)
  have hD:H2 s2.heap.objs.size=none:=I2.hok.fresh (Nat.le_refl _)
  refine wpAny_newObj_type (zc3 (fun h₁ hns₁ hk₁ hce₁=>?_))
  dsimp only at hns₁ hk₁ hce₁ ⊢
  have I3:Inv X pins σ (upd H2 s2.heap.objs.size (.lst [])) { s2 with heap:=s2.heap.push { cls:=.type "list",dict:=none,data:=.seq ([]:List Value).toArray },toks:=s2.toks } :=
    I2.laid (fun b o e=>Heap.get?_push_of_some _ e) (Nat.le_refl _) ⟨Nat.zero_le _,[],0,.nil,Heap.get?_push_size _ rfl⟩
  generalize hs3:({ s2 with heap:=s2.heap.push { cls:=.type "list",dict:=none,data:=.seq ([]:List Value).toArray },toks:=s2.toks }:Shared)=s3 at I3
  have e3:s2.heap.push { cls:=.type "list",dict:=none,data:=.seq ([]:List Value).toArray }=s3.heap:=by rw [← hs3]
  have hsz:s3.heap.objs.size=s2.heap.objs.size+1:=by rw [← e3,Heap.size_push]
  rw [e3] at hns₁ hk₁ hce₁ ⊢
  have hk:=hk₁
  have hcl:∀ y c,cl.lookup y=some c→¬ s3.heap.objs.size<c:=fun y c e z=>by
    refine bq fun bG=>?_
    obtain ⟨v,o,ho,_⟩:=I3.cell y c (c1 y c e)
    exact bG (Nat.lt_irrefl _ (Nat.lt_trans z (Heap.lt_size ho)))
  have CA:CellsAre X scope s3.heap.objs.size cl (cellsFrom (s3.heap.objs.size+1) scope.names cl):=zjc (h:=s3.heap.push { cls:=.type "dict",data:=.dict #[] }) (by rw [Heap.size_push]) S hcl
  have hcell:∀ y c,(cellsFrom (s3.heap.objs.size+1) scope.names cl).lookup y=some c→s3.heap.objs.size<c→h₁.IsCell c none:=fun y c e z=>by
    rw [z2k,z4r] at e
    cases q:(cellsFrom (s3.heap.objs.size+1) scope.names []).lookup y with
    | none=>rw [q] at e;exact absurd z (hcl y c e)
    | some c' =>
      rw [q] at e
      have:c'=c:=Option.some.inj e
      subst this
      exact hce₁ y c' (PySem.mem_of_lookup q)
  generalize hcs:cellsFrom (s3.heap.objs.size+1) scope.names cl=cs at CA hcell ⊢
  have f3:∀ b∈fp,zfq X pins (upd H2 s2.heap.objs.size (.lst [])) b:=fun b hb=>⟨by rw [z0z (Nat.ne_of_lt (hlt b hb))];exact (f2 b hb).1,(f2 b hb).2⟩
  have hlt3:∀ b∈fp,b<s3.heap.objs.size:=fun b hb=>by rw [hsz];exact Nat.lt_succ_of_lt (hlt b hb)
  have st3:tn 0 h₁:=T.keep _ _ _ st2 fun b hb o e=>hk b o (by rw [← e3];exact Heap.get?_push_of_some _ e)
  have J0:Inv (z2v X N' scope cs s3.heap.objs.size s3 (upd H2 s2.heap.objs.size (.lst [])) fp) [] (z8d own cap σ) (upd H2 s2.heap.objs.size (.lst [])) { s3 with heap:=h₁,toks:=s2.toks } :=
    comp_inv I3 S CA hcell c1 c2 f3 hlt3 hk hns₁
  have stat:∀ {pl:List (Addr×Obj)} {H':Hp},pl=[]→(∀ b∈fp,H' b=none)→∀ b∈fp,zfq (z2v X N' scope cs s3.heap.objs.size s3 (upd H2 s2.heap.objs.size (.lst [])) fp) pl H' b:=fun {pl H'} hp hn b hb=>by
    subst hp
    refine ⟨hn b hb,Nat.ne_of_lt (hlt3 b hb),J0.ok.exfs b hb,.inl hb,fun x c e=>J0.ok.exf b hb |>.2 x c e,fun p hp=>absurd hp (by show p∉([]++[]:List (Addr×Obj));simp)⟩
  have loop:codeAny (model X.prog X.w) X.A (.compLoop (.ListComp elt [⟨tg,iter,ifs,0⟩] scope pos) 0 (.ref it) (.ref s2.heap.objs.size) (compEnvC scope cs s3.heap.objs.size X.env)) (RR (.ref s2.heap.objs.size) s3.heap.objs.size)
      { s3 with heap:=h₁,toks:=s2.toks }:=zj9 (Y:=z2v X N' scope cs s3.heap.objs.size s3 (upd H2 s2.heap.objs.size (.lst [])) fp) hx hc (hg _ _ _ _ _) (ht _ _ _ _ _) (he _ _ _ _ _) T J0 st3 (fun b hb=>(f3 b hb).1) (stat rfl) (h _ hD) fun σ4 H4 s5 I5 qz=>by
    have I6:Inv X pins σ H4 s5:=I3.call' (ch:=fp) I5.os I5.base I5.hok I5.bare fun b hb=>⟨(f3 b hb).2.2.2.1,(f3 b hb).2.1,(f3 b hb).2.2.2.2.1,(f3 b hb).2.2.2.2.2⟩
    refine bq fun bG=>?_
    obtain ⟨m',hn',_⟩:=I5.loc
    exact bG (hRR _ _ s5 m' H4 I6 hn' (I3.fpOk (Nat.le_refl _) I5.free) qz)
  have lp:codeAny (model X.prog X.w) X.A (.compStart (.ListComp elt [⟨tg,iter,ifs,0⟩] scope pos) 0 (.ref it) (.ref s2.heap.objs.size) (compEnvC scope cs s3.heap.objs.size X.env)) (RR (.ref s2.heap.objs.size) s3.heap.objs.size)
      { s3 with heap:=h₁,toks:=s2.toks }:=codeAny_compStart_list loop (T.self _ 0 _ _ _ st3 loop)
  subst hs3
  exact lp
end
def zta (own:List Str) (cap:List (Str×Nat)) (wi:TI) (g:TG) (tc:TT) (te:TE):TE:=fun σ H Q=>wi σ H fun J H1=>∀ D,H1 D=none→z5a J g tc te D (z8d own cap σ) H1 (Q (.ref D))
def zkb (i:Nat) (own:List Str) (cap:List (Str×Nat)) (wi:TI) (g:TG) (tc:TT) (te:TE):TS:=fun D σ H=>wi σ H fun J H1=>∀ p,H1 p=none→z5a J g tc te p (z8d own cap σ) H1 (fun H2=>D.nx (σ.set i (some (.ref p))) H2)
section
variable {X:Cx} {N' own:List Str} {cap:List (Str×Nat)} {scope:Scope} {tg iter elt:Expr} {ifs:List Expr} {pos:Pos} {wi:TI} {g:TG} {tc:TT} {te:TE}
theorem Inv.letgo {pins:List (Addr×Obj)} {σ:St} {H:Hp} {s:Shared} {h':Heap} {C:Addr} (I:Inv X pins σ H s) (f:zfq X pins H C) (hs:Heap.SameBut C s.heap h'):Inv X pins σ H { s with heap:=h' } :=
  I.turned (t':=s.toks) (it:=C) (fun b o hb e=>(hs.2 b hb).trans e) f.1 f.2.1 f.2.2.2.1 f.2.2.2.2.1 f.2.2.2.2.2
theorem zo1 (S:CompScope X N' own cap scope) (hi:PI X tg iter wi)
    (hg:∀ cl C s₀ H₀ ex,PG (z2v X N' scope cl C s₀ H₀ ex) tg g) (ht:∀ cl C s₀ H₀ ex,PIf (z2v X N' scope cl C s₀ H₀ ex) ifs tc) (he:∀ cl C s₀ H₀ ex,PE (z2v X N' scope cl C s₀ H₀ ex) elt te)
    (hx:∀ e s,X.xe e s→False:=by exact fun _ _ z=>z) (hc:X.calm=true:=by rfl) (hs:∀ x,foldedSetIterable iter X.env x=pure x:=by intro _;rfl) :
    PE X (.ListComp elt [⟨tg,iter,ifs,0⟩] scope pos) (zta own cap wi g tc te):=by
  intro pins s σ H Q I h
  rw [eval_ListComp]
  refine bq fun bG=>?_
  obtain ⟨cl,hcl,c1,c2⟩:=z94 (scope:=scope) (env:=X.env) fun y hy hk=>I.ok.has y.1 (S.free y hy hk)
  refine bG (wpAny_comprehension_free (use:=none) rfl hs hcl S.kind S.names (thn (hi pins s σ H _ I h) fun v s1 h1=>thn h1 fun itv s2 h2=>?_))
  refine bq fun bG=>?_
  obtain ⟨it,fp,tn,J,H2,e,I2,T,st2,f2,q⟩:=h2
  subst e
  refine bG (zd6 (RR:=fun acc C=>compPost (model X.prog X.w) X.A X.xe none (EP X pins σ Q) acc C) (Z:=fun D=>Q (.ref D)) hx hc S hg ht he I2 T st2 f2 c1 c2 q ?_)
  intro D C s' m' H' I' hn' f' z
  exact ⟨m',hn',fun h'' hs''=>⟨.ref D,H',I'.letgo f' hs'',rfl,z⟩⟩
theorem zg4 {i:Nat} {y:Str} {py spos:Pos} (hN:X.N.Nodup) (hi':X.N[i]?=some y) (hy:X.env.scope.names.lookup y=some .local) (S:CompScope X N' own cap scope) (hi:PI X tg iter wi)
    (hg:∀ cl C s₀ H₀ ex,PG (z2v X N' scope cl C s₀ H₀ ex) tg g) (ht:∀ cl C s₀ H₀ ex,PIf (z2v X N' scope cl C s₀ H₀ ex) ifs tc) (he:∀ cl C s₀ H₀ ex,PE (z2v X N' scope cl C s₀ H₀ ex) elt te)
    (hsw:swapsWith (.ListComp elt [⟨tg,iter,ifs,0⟩] scope pos) (some (.Name y py)) spos.line X.env=pure true:=by rfl)
    (hx:∀ e s,X.xe e s→False:=by exact fun _ _ z=>z) (hc:X.calm=true:=by rfl) (hs:∀ x,foldedSetIterable iter X.env x=pure x:=by intro _;rfl) :
    PS X (.Assign [.Name y py] (.ListComp elt [⟨tg,iter,ifs,0⟩] scope pos) spos) (zkb i own cap wi g tc te):=by
  intro pins s σ H D I h
  obtain ⟨cl,hcl,c1,c2⟩:=z94 (scope:=scope) (env:=X.env) fun y hy hk=>I.ok.has y.1 (S.free y hy hk)
  rw [exec_Assign_Name_used _ _ _ _ hsw]
  refine wpAny_bind (wpAny_standAt (wpAny_bind ?_))
  show wpAny _ _ (do let _ ← comprehension (.ListComp elt [⟨tg,iter,ifs,0⟩] scope pos) scope X.env _ (newList []) false (eval iter X.env) (some (assign (.Name y py) X.env))) _ _ s
  refine wpAny_bind (wpAny_mono (wpAny_comprehension_free (use:=some (assign (.Name y py) X.env)) (Q:=fun _ s'=>SP X pins D .next s') rfl hs hcl S.kind S.names
    (thn (hi pins s σ H _ I h) fun v s1 h1=>thn h1 fun itv s2 h2=>?_)) (fun _ s' hq=>wpAny_pure (wpAny_pure hq)) fun _ _ e=>e)
  refine bq fun bG=>?_
  obtain ⟨it,fp,tn,J,H2,e,I2,T,st2,f2,q⟩:=h2
  subst e
  refine bG (zd6 (RR:=fun acc C=>compPost (model X.prog X.w) X.A X.xe (some (assign (.Name y py) X.env)) (fun _ s'=>SP X pins D .next s') acc C) (Z:=fun p H2=>D.nx (σ.set i (some (.ref p))) H2) hx hc S hg ht he I2 T st2 f2 c1 c2 q ?_)
  intro p C s' m' H' I' hn' f' z
  show wpAny _ _ (assign (.Name y py) X.env (.ref p)) _ _ _
  refine wpAny_assign_Name (zcq I' hN hi' (.inl hy) (v:=.ref p) rfl (fun s'' I'' hm=>?_) (.inr hy))
  obtain ⟨a,hsb,ha⟩:=hm
  have hCa:C≠a:=by
    rcases ha with z | z
    · rw [z];exact f'.2.1
    · exact fun e=>f'.2.2.2.2.1 y a z e.symm
  refine ⟨m',hn'.sameBut hsb hCa,fun h3 hs3=>?_⟩
  exact ⟨_,H',I''.letgo f' hs3,z⟩
end
section
variable {K:PySem.W.Frag} {g:TG} {tc:TT} {te:TE} {D:Addr} {σ0:St} {H0:Hp} {Z:Hp→Prop}
end
section
variable {X:Cx} {pins:List (Addr×Obj)} {σ:St} {H:Hp} {s:Shared} {h':Heap} {ch:List Addr}
end
section
variable {X:Cx}
end
section
variable {X:Cx}
end
section
variable {X:Cx}
end
section
variable {X:Cx}
theorem zqt {e:Expr} {te:TE} {pos p2 p3 p4:Pos} {j:Nat} (he:PE X e te) :
    PE X (.Subscript e (.Slice none none (some (.UnaryOp .USub (.Constant (.int 1) j p4) p3)) p2) pos) (fun σ H Q=>te σ H fun x H1=>∃ (a:Addr) (xs:List V),x=.ref a∧SqL X.K H1 a xs∧∀ p,H1 p=none→Q (.ref p) (upd H1 p (.lst xs.reverse))):=by
  intro pins s σ H Q I h
  refine Subscript_ (thn (he pins s σ H _ I h) fun v s1 hm=>?_)
  refine bq fun bG=>?_
  obtain ⟨x,H1,I1,r1,q1⟩:=hm
  refine bG (bq fun bG=>?_)
  obtain ⟨a,xs,rfl,hx,q⟩:=q1
  cases r1
  refine bG (wpAny_Slice ?_)
  rw [evalPart_none]
  refine wpAny_pure (wpAny_pure ?_)
  rw [evalPart_some]
  refine thn (zqr zlt zmd pins s1 σ H1 (fun y H2=>y=.int (-1)∧H2=H1) I1 ⟨1,rfl,rfl,rfl⟩) fun u s2 hm=>?_
  refine bq fun bG=>?_
  obtain ⟨y,H2,I2,ry,ey,eH⟩:=hm
  subst ey eH
  refine bG (bq fun bG=>?_)
  obtain ⟨t,rfl⟩:=ry
  have I4:Inv X pins σ H2 { s2 with heap:=s2.heap.push { cls:=.type "slice",data:=.fields #[.none,.none,.int (-1) t] } }:=I2.kept (t':=s2.toks) fun b ob q=>Heap.get?_push_of_some _ q
  obtain ⟨its,rv,pl,hz⟩:=I4.list hx
  have hl:=rv.length
  refine bG (tail_any (ops:=[.ref a,.ref s2.heap.objs.size]) pl.isList.typeIs slot_list_getitem.lookup ?_ (by with_unfolding_all rfl))
  refine wpAny_getItem_list_slice (lo:=none) (hi:=none) (st:=some (-1)) pl.isList (Heap.IsSliceOf.new ..) .none .none (.int (-1) t) (by decide) ?_ (by rw [List.size_toArray];omega)
  rw [PySem.W.krv_pick]
  refine ⟨.ref _,_,I4.laid (t':=s2.toks) (o:=.lst xs.reverse) (fun b ob q=>Heap.get?_push_of_some _ q) (Nat.le_refl _) ?_,rfl,q _ (I4.hok.fresh (Nat.le_refl _))⟩
  exact ⟨by rw [List.length_reverse];exact hz,its.reverse,0,rv.reverse,Heap.get?_push_size _ rfl⟩
end
mutual
inductive Dp (K:PySem.W.Frag) (H:Hp):V→PyData→Prop where
  | non:Dp K H .non .none
  | bl (b:Bool):Dp K H (.bl b) (.bool b)
  | int (i:Int):Dp K H (.int i) (.int i)
  | str (x:Str):Dp K H (.str x) (.str x)
  | lst {a:Addr} {xs:List V} {ds:List PyData}:SqL K H a xs→Dps K H xs ds→Dp K H (.ref a) (.list ds)
  | tup {a:Addr} {xs:List V} {ds:List PyData}:SqT K H a xs→Dps K H xs ds→Dp K H (.ref a) (.tuple ds)
inductive Dps (K:PySem.W.Frag) (H:Hp):List V→List PyData→Prop where
  | nil:Dps K H [] []
  | cons {x:V} {d:PyData} {xs:List V} {ds:List PyData}:Dp K H x d→Dps K H xs ds→Dps K H (x::xs) (d::ds)
end
section
variable {X:Cx} {pins:List (Addr×Obj)} {σ:St} {H:Hp} {s:Shared}
mutual
theorem Dp.reads (I:Inv X pins σ H s):∀ {v:V} {d:PyData} {u:Value},Dp X.K H v d→RelV v u→∃ as,Reads s.heap u d as
  | _,_,_,.non,r=>by cases (show _=Value.none from r);exact ⟨_,.none⟩
  | _,_,_,.bl b,r=>by cases (show _=Value.bool b from r);exact ⟨_,.bool b⟩
  | _,_,_,.int i,r=>by obtain ⟨t,rfl⟩:=r;exact ⟨_,.int i t⟩
  | _,_,_,.str x,r=>by obtain ⟨t,rfl⟩:=r;exact ⟨_,.str x t⟩
  | _,_,_,.lst (a:=a) h hs,r=>by
    cases (show _=Value.ref a from r)
    obtain ⟨its,rv,⟨o,n,h1,h2,_,h4⟩,_⟩:=I.list h
    obtain ⟨as,hr⟩:=Dps.reads I hs rv
    exact ⟨_,.list h1 h2 h4 (by simpa using hr)⟩
  | _,_,_,.tup (a:=a) h hs,r=>by
    cases (show _=Value.ref a from r)
    refine bq fun bG=>?_
    obtain ⟨its,rv,⟨o,h1,h2,n,h4⟩,_⟩:=I.tuple h
    obtain ⟨as,hr⟩:=Dps.reads I hs rv
    exact bG (⟨_,.tuple h1 h2 h4 (by simpa using hr)⟩)
theorem Dps.reads (I:Inv X pins σ H s):∀ {vs:List V} {ds:List PyData} {us:List Value},Dps X.K H vs ds→Vals vs us→∃ as,ReadsAll s.heap us ds as
  | _,_,_,.nil,r=>by cases r;exact ⟨_,.nil⟩
  | _,_,_,.cons h hs,r=>by
    cases r with
    | cons r1 r2 =>
      refine bq fun bG=>?_
      obtain ⟨as,h1⟩:=Dp.reads I h r1
      obtain ⟨bs,h2⟩:=Dps.reads I hs r2
      exact bG (⟨_,.cons h1 h2⟩)
end
theorem zmf (hu:X.A.units+64<cLine):OpR X (compareOp .Eq) (fun x y H Q=>∃ d e,Dp X.K H x d∧Dp X.K H y e∧(d.canLay0&&e.canLay0&&decide (d.depth≤64))=true∧Q (.bl (PyData.eqv d e)) H):=by
  intro pins s σ H x y v u Q I rx ry h
  refine bq fun bG=>?_
  obtain ⟨d,e,hd,he,hc,q⟩:=h
  simp only [Bool.and_eq_true,decide_eq_true_eq] at hc
  obtain ⟨as,r1⟩:=hd.reads I rx
  obtain ⟨bs,r2⟩:=he.reads I ry
  exact bG (SeqAt.compareEq_reads r1 r2 hc.1.1 hc.1.2 (by omega) ⟨.bl _,H,I,rfl,q⟩)
theorem zme (hu:X.A.units+64<cLine):OpR X (compareOp .NotEq) (fun x y H Q=>∃ d e,Dp X.K H x d∧Dp X.K H y e∧(d.canLay0&&e.canLay0&&decide (d.depth≤64))=true∧Q (.bl (!PyData.eqv d e)) H):=by
  intro pins s σ H x y v u Q I rx ry h
  refine bq fun bG=>?_
  obtain ⟨d,e,hd,he,hc,q⟩:=h
  simp only [Bool.and_eq_true,decide_eq_true_eq] at hc
  obtain ⟨as,r1⟩:=hd.reads I rx
  obtain ⟨bs,r2⟩:=he.reads I ry
  exact bG (SeqAt.compareNe_reads r1 r2 hc.1.1 hc.1.2 (by omega) ⟨.bl _,H,I,rfl,q⟩)
end
section
variable {X:Cx}
end
noncomputable def Df (P:Program) (w:World) (K:PySem.W.Frag) (mg:Str→Option Value) (base:Heap) (k:Nat) (x:Str) (ps:List Str) (sp:Sp):Prop :=
  ∃ f fd,FnOk P w K mg base CX0 k f fd ps sp∧Binds K fd ps []∧PySem.W.keepIn K (.ref f)=true∧mg x=some (.ref f)
section
variable {P:Program} {w:World} {K:PySem.W.Frag} {mg:Str→Option Value} {base:Heap} {j k:Nat} {x:Str} {ps:List Str} {sp sp':Sp}
end
section
variable {X:Cx} {k:Nat} {x:Str} {ps:List Str} {sp:Sp} {e:Expr} {es:List Expr} {t:TA} {p pos:Pos}
theorem zto (D:Df X.prog X.w X.K X.mg X.base k x ps sp) (hr:Room k X.A) (ha:PA X (e::es) t) (hg:Gl X x:=by rfl) (hdb:(x==("__debug__" : Str))=false:=by decide)
    (he:starEach (e::es) X.env=(false,eval e X.env)::starEach es X.env:=by rfl) (hpl:(backTo pos (starEach es X.env)).any (·.1)=false:=by rfl) :
    PE X (.Call (.Name x p) (e::es) [] pos) (fun σ H Q=>t σ H fun vs H1=>sp vs H1 Q E0):=by
  obtain ⟨f,fd,F,hb,hk,hm⟩:=D
  intro pins s σ H Q I h
  exact zo2 F hr hg hm hk hb .nil ztq ha hdb he hpl pins s σ H Q I (by unfold zps;simpa using h)
end
section
variable {X:Cx}
end
def But (p:Addr) (H H':Hp):Prop:=∀ b o,b≠p→H b=some o→H' b=some o
section
variable {p:Addr} {H H' H'':Hp}
end
theorem z6q {n:Nat} (h:n≤1000000):n≤sizeLine:=by rw [sizeLine_eq];omega
theorem zig {n:Nat} (h:n≤1000000):n<sizeLine:=by rw [sizeLine_eq];omega
noncomputable def zmr (N:List Str) (names:List (Str×NameKind)) (own:List Str) (cap:List (Str×Nat)) (scope:Scope):Bool :=
  (scope.kind==.function)&&scope.names.all (fun y=>(y.2 != .cell||scope.names.lookup y.1==some .cell)&&(y.2 != .local||scope.names.lookup y.1==some .local)&&(y.2 != .free||scope.names.lookup y.1==some .free)&&(y.2 != .free||(names.lookup y.1==some .cell||names.lookup y.1==some .free)))
  && cap.all fun p=>N[p.2]?==some p.1&&scope.names.lookup p.1==some .free&&(names.lookup p.1==some .cell||names.lookup p.1==some .free)
theorem z4o {X:Cx} {own:List Str} {cap:List (Str×Nat)} {scope:Scope} (h:zmr X.N X.env.scope.names own cap scope=true):CompScope X (own++cap.map (·.1)) own cap scope:=by
  unfold zmr at h
  simp only [Bool.and_eq_true,List.all_eq_true,Bool.or_eq_true,bne_iff_ne,beq_iff_eq] at h
  refine bq fun bG=>?_
  obtain ⟨⟨h1,h2⟩,h3⟩:=h
  exact bG (⟨h1,fun y hy hl=>(h2 y hy).1.1.1.resolve_left fun z=>z hl,fun y hy hl=>(h2 y hy).1.2.resolve_left fun z=>z hl,fun y hy hl=>(h2 y hy).1.1.2.resolve_left fun z=>z hl,fun y hy hl=>(h2 y hy).2.resolve_left fun z=>z hl,rfl,fun p hp=>⟨(h3 p hp).1.1,(h3 p hp).1.2,(h3 p hp).2⟩⟩)
section
variable {X:Cx} {a b e o:Expr} {es:List Expr} {ta tb te to:TE} {t:TA} {p pos:Pos}
theorem zw2 (K:PySem.W.Frag) (ml:X.mg "len" = none) (ha:PE X a ta) (hg:Gl X "len" := by rfl) (hs:starEach [a] X.env=[(false,eval a X.env)]:=by rfl) (hK:X.K=K:=by rfl) :
    PE X (.Call (.Name "len" p) [a] [] pos) (fun σ H Q=>ta σ H fun x H1=>∃ p ys,[x]=[V.ref p]∧(SqL K H1 p ys∨SqT K H1 p ys)∧Q (.int ys.length) H1):=by
  subst hK
  exact z72 zdc hg ml PySem.boot_len (z2p ha z4v hs) (he:=hs)
theorem zu9 (K:PySem.W.Frag) (ml:X.mg "list" = none) (ha:PE X a ta) (hg:Gl X "list" := by rfl) (hs:starEach [a] X.env=[(false,eval a X.env)]:=by rfl) (hK:X.K=K:=by rfl) :
    PE X (.Call (.Name "list" p) [a] [] pos) (fun σ H Q=>ta σ H fun x H1=>∃ p ys,[x]=[V.ref p]∧(SqL K H1 p ys∨SqT K H1 p ys)∧∀ l,H1 l=none→Q (.ref l) (upd H1 l (.lst ys))):=by
  subst hK
  exact z9y zdb hg ml rfl (z2p ha z4v hs) (he:=hs)
theorem zw1 (ml:X.mg "max" = none) (ha:PE X a ta) (hb:PE X b tb) (hc:X.calm=true:=by rfl) (hg:Gl X "max" := by rfl) (hs:starEach [a,b] X.env=[(false,eval a X.env),(false,eval b X.env)]:=by rfl) (hs2:starEach [b] X.env=[(false,eval b X.env)]:=by rfl) :
    PE X (.Call (.Name "max" p) [a,b] [] pos) (fun σ H Q=>ta σ H fun x H1=>tb σ H1 fun y H2=>∃ i j,[x,y]=[.int i,.int j]∧Q (.int (if j > i then j else i)) H2):=by
  exact z72 (zjd hc) hg ml rfl (z2p ha (z2p hb z4v hs2) (by rw [hs,hs2])) (he:=by rw [hs,hs2]) (hpl:=by rw [hs2];rfl)
theorem iL (K:PySem.W.Frag) {tg:Expr} (ha:PE X a ta) (hK:X.K=K:=by rfl):PI X tg a (zrs K ta):=by subst hK;exact znw ha
theorem iR (mr:X.mg "range" = none) {tg:Expr} (ha:PE X a ta) (hg:Gl X "range" := by rfl) (hs:starEach [a] X.env=[(false,eval a X.env)]:=by rfl):PI X tg (.Call (.Name "range" p) [a] [] pos) (zrr (zao ta zkc)):=zhz hg mr (z2p ha z4v hs) hs
theorem zw4 (K:PySem.W.Frag) {apos:Pos} (ho:PE X o to) (ha:PE X a ta) (hs:starEach [a] X.env=[(false,eval a X.env)]:=by rfl)
    (hbase:attributeBase o "append" X.env (eval o X.env)=eval o X.env:=by rfl) (hline:(apos.endLine==pos.line)=true:=by rfl) (hK:X.K=K:=by rfl)
    (hfew:((backTo pos (starEach [a] X.env)).all (fun x=>!x.1)&&(backToKw pos (keywordEach [] X.env)).all (fun x=>x.1.isSome)
      && decide ([a].length+([]:List Keyword).length+(if ([]:List Keyword).isEmpty then 0 else 1)<30))=true:=by rfl) :
    PE X (.Call (.Attribute o "append" apos) [a] [] pos) (tBM K "list" zht to (zao ta zkc)):=by
  subst hK
  exact zo3 PySem.F.plainAttrs_list PySem.F.slot_list_append PySem.F.type_list_append zd1 ho (z2p ha z4v hs) hbase hfew hline hs
theorem zs7 (K:PySem.W.Frag) {apos:Pos} (ho:PE X o to) (ha:PE X a ta) (hs:starEach [a] X.env=[(false,eval a X.env)]:=by rfl)
    (hbase:attributeBase o "pop" X.env (eval o X.env)=eval o X.env:=by rfl) (hline:(apos.endLine==pos.line)=true:=by rfl) (hK:X.K=K:=by rfl)
    (hfew:((backTo pos (starEach [a] X.env)).all (fun x=>!x.1)&&(backToKw pos (keywordEach [] X.env)).all (fun x=>x.1.isSome)
      && decide ([a].length+([]:List Keyword).length+(if ([]:List Keyword).isEmpty then 0 else 1)<30))=true:=by rfl) :
    PE X (.Call (.Attribute o "pop" apos) [a] [] pos) (tBM K "list" zm5 to (zao ta zkc)):=by
  subst hK
  exact zo3 PySem.F.plainAttrs_list PySem.F.slot_list_pop PySem.F.type_list_pop zl8 ho (z2p ha z4v hs) hbase hfew hline hs
end
def Pot (H:Hp) (p:Addr):Prop:=∃ a b c:Int,H p=some (.lst [.int a,.int b,.int c])
structure Drawn (p:Addr) (H H':Hp):Prop where
  but:But p H H'
  pot:Pot H' p
section
variable {p q:Addr} {H H' H'':Hp}
end
theorem zsc {xs:List V} {r:Int} (h0:0≤r) (h1:r<(xs.length:Int)):atI xs r=some (xs[r.toNat]'(by omega)):=by
  have hk:r.toNat<xs.length:=by omega
  have:=zjg (xs:=xs) (j:=r.toNat) (v:=xs[r.toNat]) (by simp [hk])
  have er:((r.toNat:Nat):Int)=r:=by omega
  rw [er] at this
  exact this
theorem zpu {n:Nat} {r:Int} (h0:0≤r) (h1:r<(n:Int)):seqIndex? r n=some r.toNat:=seqIndex_of h0 h1
section
variable {X:Cx} {a:Expr} {ta:TE} {p pos:Pos}
theorem gT (K:PySem.W.Frag) {es:List Expr} {k:Nat} {t:TGs} {n:Nat} (h:PGs X es t) (hc:X.calm=true:=by rfl) (hn:(assignEach es X.env).length=n:=by rfl) (hst:(assignEach es X.env).findIdx? (·.1)=none:=by rfl) (hK:X.K=K:=by rfl) :
    PG X (.Tuple es k pos) (zuw K n t):=by subst hK;exact zqp hc h hn hst
theorem zvz (K:PySem.W.Frag) {p2 p3 p4:Pos} {j:Nat} (he:PE X a ta) (hK:X.K=K:=by rfl) :
    PE X (.Subscript a (.Slice none none (some (.UnaryOp .USub (.Constant (.int 1) j p4) p3)) p2) pos) (fun σ H Q=>ta σ H fun x H1=>∃ (q:Addr) (xs:List V),x=.ref q∧SqL K H1 q xs∧∀ p,H1 p=none→Q (.ref p) (upd H1 p (.lst xs.reverse))):=by
  subst hK;exact zqt he
end
section
variable {K:PySem.W.Frag} {g:TG} {te:TE} {D:Addr} {σ0:St} {H0:Hp} {Z:Hp→Prop}
end
theorem ztk {xs:List V} {Pd:V→Prop} {r:Int} (h:∀ x∈xs,Pd x) (h0:0≤r) (h1:r<(xs.length:Int)):∃ v,atI xs r=some v∧Pd v :=
  ⟨_,zsc h0 h1,h _ (List.getElem_mem _)⟩
section
variable {X:Cx} {a b o:Expr} {ta tb to:TE} {p pos:Pos}
end
noncomputable abbrev Cel:=Int×List Int×Addr
noncomputable def gs (cs:List Cel):List (Int×List Int):=cs.map fun c=>(c.1,c.2.1)
theorem at0 {x:V} {r:List V}:atI (x::r) 0=some x:=zjg (xs:=x::r) (j:=0) (v:=x) rfl
section
variable {K:PySem.W.Frag} {H H':Hp}
theorem Dps.len:∀ {vs:List V} {ds:List PyData},Dps K H vs ds→vs.length=ds.length
  | _,_,.nil=>rfl
  | _,_,.cons _ hs=>congrArg (·+1) (Dps.len hs)
theorem Dps.get:∀ {vs:List V} {ds:List PyData} {i:Nat} {v:V},Dps K H vs ds→vs[i]?=some v→∃ d,ds[i]?=some d∧Dp K H v d
  | _,_,_,_,.nil,h=>by simp at h
  | _,_,0,_,.cons (d:=d) h hs,e=>by
    have:_=_:=Option.some.inj e
    subst this
    exact ⟨d,rfl,h⟩
  | _,_,i+1,_,.cons h hs,e=>Dps.get (i:=i) hs e
end
section
variable {X:Cx} {a b:Expr} {ta tb:TE} {p pos:Pos}
end
section
variable {prog:Program} {w:World} {A:Around} {R:Result→Shared→Prop} {I l:Addr} {items:Array Value} {ns:List Int} {d:Value}
end
section
variable {X:Cx} {a b:Expr} {ta tb:TE} {p pos kp:Pos}
end
section
variable {X:Cx} {a b e o:Expr} {ta tb te to:TE} {p pos:Pos}
theorem zje:zal X (.type "int") (fun xs H Q=>∃ k,xs=[V.bl k]∧Q (.int (if k then 1 else 0)) H):=fun pins s σ H xs us Q I r h=>zjf pins s σ H xs us Q I r (.inr h)
theorem zw3 (ml:X.mg "int" = none) (ha:PE X a ta) (hg:Gl X "int" := by rfl) (hs:starEach [a] X.env=[(false,eval a X.env)]:=by rfl) :
    PE X (.Call (.Name "int" p) [a] [] pos) (fun σ H Q=>ta σ H fun x H1=>∃ k,[x]=[V.bl k]∧Q (.int (if k then 1 else 0)) H1) :=
  z9y zje hg ml rfl (z2p ha z4v hs) (he:=hs)
theorem eIn (K:PySem.W.Frag) (ha:PE X a ta) (hb:PE X b tb) (hm:behindInMarks .In b=false:=by rfl) (hK:X.K=K:=by rfl):PE X (.Compare a [.In] [b] pos) (tOp (rIn K false) ta tb):=by
  subst hK;exact zdv zi4 ha hb hm
theorem zs8 (K:PySem.W.Frag) (ha:PE X a ta) (hb:PE X b tb) (hm:behindInMarks .NotIn b=false:=by rfl) (hK:X.K=K:=by rfl):PE X (.Compare a [.NotIn] [b] pos) (tOp (rIn K true) ta tb):=by
  subst hK;exact zdv z91 ha hb hm
theorem zpr (K:PySem.W.Frag) (ha:PE X a ta) (hb:PE X b tb) (hm:behindInMarks .NotIn b=false:=by rfl) (hK:X.K=K:=by rfl):PT X (.Compare a [.NotIn] [b] pos) (zka (tOp (rIn K true) ta tb)):=by
  subst hK;exact zhv z91 ha hb hm
end
noncomputable abbrev Ask:=Nat×Nat×Bool
noncomputable def zcu (ks:List Int) (i j:Nat):Bool:=decide (ks.getD i 0=ks.getD j 0)
theorem ne_nil (ks:List Int):(!PyData.eqv (.list (ks.map PyData.int)) (.list []))=!decide (ks=[]):=by
  cases ks <;> simp [PyData.eqv,PyData.eqvAll]
section
variable {X:Cx} {pos:Pos}
end
noncomputable def zsb (ks:List Int) (t:Nat):List Nat→Nat→List Ask→List Ask×Option Nat
  | [],z3k,a=>(a,if 0<z3k then some t else none)
  | [x],z3k,a=>if zcu ks x t then ((if x=t then a else a++[(t,x,zcu ks x t)]),some t)
    else if z3k=0 then ((if x=t then a else a++[(t,x,zcu ks x t)]),none)
    else ((if x=t then a else a++[(t,x,zcu ks x t)]),if 0<z3k - 1 then some t else none)
  | x::y::r,z3k,a=>if zcu ks x t then zsb ks t r z3k (if x=t then a else a++[(t,x,zcu ks x t)])
    else if z3k=0 then ((if x=t then a else a++[(t,x,zcu ks x t)]),none)
    else zsb ks t (y::r) (z3k - 1) (if x=t then a else a++[(t,x,zcu ks x t)])
section
variable {n:Nat} {p q:Addr} {H H' H'':Hp}
end
section
variable {X:Cx}
theorem zl3:OpR X (binaryOp .FloorDiv) (rI (fun _ j=>0<j∧j<2 ^ 200) fun i j=>.int (i / j)):=opI fun i j _ _ _ _ _ hc q=>by
  obtain ⟨h1,h2⟩:=hc
  refine floordiv_int (by omega) (by rw [Int.fdiv_eq_ediv_of_nonneg i (by omega)];exact q) (.inl (PyProof.noPylong_of_log2 ?_))
  have h3:j.natAbs≠0:=by omega
  have h4:j.natAbs<2 ^ 200:=by
    have:((j.natAbs:Nat):Int)=j:=by omega
    have h5:((j.natAbs:Nat):Int)<((2 ^ 200:Nat):Int):=by rw [this];exact_mod_cast h2
    omega
  have:=(Nat.log2_lt h3).mpr h4
  omega
end
section
variable {X:Cx}
end
theorem zh6:∀ {bs:List Bool} {us:List Value},Vals (bs.map V.bl) us→us=bs.map Value.bool
  | [],_,h=>by cases h;rfl
  | b::r,_,h=>by
    cases h with
    | cons h1 h2 =>
      cases (show _=Value.bool b from h1)
      rw [zh6 h2];rfl
section
variable {X:Cx} {a b o:Expr} {ta tb to:TE} {p pos:Pos}
theorem zw5 (K:PySem.W.Frag) (mm:X.mg "all" = none) (ha:PE X a ta) (hc:X.calm=true:=by rfl) (hg:Gl X "all" := by rfl) (hs:starEach [a] X.env=[(false,eval a X.env)]:=by rfl) (hK:X.K=K:=by rfl) :
    PE X (.Call (.Name "all" p) [a] [] pos) (fun σ H Q=>ta σ H fun x H1=>∃ (q:Addr) (bs:List Bool),[x]=[.ref q]∧SqL K H1 q (bs.map V.bl)∧Q (.bl (bs.all id)) H1):=by
  subst hK
  have rule:zal X (.builtin "all") (fun xs H Q=>∃ (q:Addr) (bs:List Bool),xs=[.ref q]∧SqL X.K H q (bs.map V.bl)∧Q (.bl (bs.all id)) H):=by
    intro pins s σ H xs us Q I r h
    refine bq fun bG=>?_
    obtain ⟨q,bs,rfl,hq,k⟩:=h
    obtain ⟨u,rfl,ru⟩:=zco r
    cases ru
    obtain ⟨its,rv,pl,hz⟩:=I.list hq
    have ei:its=bs.map Value.bool:=zh6 rv
    subst ei
    obtain ⟨ol,el,_⟩:=id pl.isList
    have qlt:q<s.heap.objs.size:=Heap.lt_size el
    refine bG (call_all_walk (wpAny_pyIter_list pl.isList ⟨_,_,_,_,_,_,fun i=>bs.getD i false,rfl,Walks.list (A:=X.A.in1) (I.ok.hd hc) _ q (Nat.ne_of_lt qlt) (bs.map Value.bool).toArray,⟨⟨_,Heap.get?_push_size _ rfl,rfl,rfl⟩,pl.isList.push _⟩,?_,fun h' tk keep=>?_⟩))
    · intro i v s' Q' E' hv hQ
      have hv':(bs.map Value.bool)[i]?=some v:=by simpa using hv
      rw [List.getElem?_map] at hv'
      cases eb:bs[i]? with
      | none=>rw [eb] at hv';cases hv'
      | some b =>
        rw [eb] at hv'
        have:v=.bool b:=(Option.some.inj hv').symm
        subst this
        have e2:bs.getD i false=b:=by rw [List.getD_eq_getElem?_getD,eb];rfl
        simp only [e2] at hQ
        exact wpAny_truthy_bool hQ
    · have ea:(List.range (bs.map Value.bool).toArray.size).all (fun i=>bs.getD i false)=bs.all id:=by
        rw [Bool.eq_iff_iff,List.all_eq_true,List.all_eq_true]
        constructor
        · intro hh b hb
          obtain ⟨i,hi⟩:=List.getElem?_of_mem hb
          have:=hh i (by simp;exact (List.getElem?_eq_some_iff.mp hi).1)
          rw [List.getD_eq_getElem?_getD,hi] at this
          exact this
        · intro hh i hi
          have hi':i<bs.length:=by simpa using hi
          rw [List.getD_eq_getElem?_getD,List.getElem?_eq_getElem hi']
          exact hh _ (List.getElem_mem hi')
      rw [ea]
      have kp:∀ b o,s.heap.get? b=some o→h'.get? b=some o:=fun b o e=>keep b o (fun hm=>absurd (List.mem_singleton.mp hm) (Nat.ne_of_lt (Heap.lt_size e))) (Heap.get?_push_of_some _ e)
      exact ⟨.bl _,H,I.kept kp,rfl,k⟩
  exact z72 rule hg mm rfl (z2p ha z4v hs) (he:=hs)
noncomputable def isInt (k:Int):Value→Bool
  | .int a _=>a==k
  | _=>false
end
theorem in_ints {k:Int} {ns:List Int}:inV (.int k) (ns.map V.int)=decide (k∈ns):=by
  unfold inV
  rw [Bool.eq_iff_iff,List.any_eq_true]
  simp only [decide_eq_true_eq]
  constructor
  · rintro ⟨y,hy,e⟩
    obtain ⟨n,hn,rfl⟩:=List.mem_map.mp hy
    have:n=k:=by
      have e':eqV (.int n) (.int k)=true:=e
      simpa [eqV] using e'
    rw [← this];exact hn
  · intro h
    exact ⟨.int k,List.mem_map.mpr ⟨k,h,rfl⟩,by simp [eqV]⟩
noncomputable def zvn (o:List Int) (k:Int):Nat:=if k∈o then o.idxOf k+1 else o.length
noncomputable def zr8 (o:List Int) (fs:List Nat) (n:Nat) (k:Int) (m:Nat):List Ask:=(List.range m).map fun at_=>(fs.getD at_ 0,n,decide (o.getD at_ 0=k))
noncomputable def ob (ks:List Int):Nat→List Int×List Nat×List Ask
  | 0=>([],[],[])
  | n+1=>(if ks.getD n 0∈(ob ks n).1 then (ob ks n).1 else (ob ks n).1++[ks.getD n 0],
      if ks.getD n 0∈(ob ks n).1 then (ob ks n).2.1 else (ob ks n).2.1++[n],
      (ob ks n).2.2++zr8 (ob ks n).1 (ob ks n).2.1 n (ks.getD n 0) (zvn (ob ks n).1 (ks.getD n 0)))
section
variable {prog:Program} {w:World} {A:Around} {R:Result→Shared→Prop} {s:Shared}
end
section
variable {X:Cx} {pins:List (Addr×Obj)} {σ:St} {N' own:List Str} {cap:List (Str×Nat)} {scope:Scope} {tg iter kx vx:Expr} {ifs:List Expr} {pos:Pos} {g:TG} {tc:TT} {tk tv:TE} {wi:TI}
end
section
variable {X:Cx} {o:Expr} {to:TE} {pos:Pos}
end
noncomputable abbrev An:=Nat×Nat×Bool
noncomputable def nb (as:List An) (x:Nat):List Nat:=as.flatMap fun a=>if a.2.2=true then (if x=a.1 then [a.2.1] else [])++(if x=a.2.1 then [a.1] else []) else []
inductive Conn (as:List An):Nat→Nat→Prop where
  | refl (x:Nat):Conn as x x
  | step {x y z:Nat}:Conn as x y→z∈nb as y→Conn as x z
structure Out (as:List An) (n t:Nat) (F:Nat→Option Nat):Prop where
  con:∀ x r,F x=some r→Conn as x r∧r<t
  fin:∀ x r y,F x=some r→y∈nb as x→F y=some r
  all:∀ x,x<t→(F x).isSome=true
noncomputable def z3k (as:List An) (F:Nat→Option Nat):Nat→Nat
  | 0=>0
  | n+1=>z3k as F n+(if (F n).isSome=true then 0 else (nb as n).length)
section
variable {X:Cx} {a b o:Expr} {ta tb to:TE} {p pos:Pos}
theorem zw0 (K:PySem.W.Frag) {apos:Pos} (ho:PE X o to) (hbase:attributeBase o "pop" X.env (eval o X.env)=eval o X.env:=by rfl) (hline:(apos.endLine==pos.line)=true:=by rfl) (hK:X.K=K:=by rfl) :
    PE X (.Call (.Attribute o "pop" apos) [] [] pos) (ztb K "list" zun to):=by
  subst hK
  exact zqx PySem.F.plainAttrs_list PySem.F.slot_list_pop PySem.F.type_list_pop zrd ho hbase hline
theorem zs6 (mr:X.mg "range" = none) (ha:PE X a ta) (hg:Gl X "range" := by rfl) (hs:starEach [a] X.env=[(false,eval a X.env)]:=by rfl) :
    PE X (.Call (.Name "range" p) [a] [] pos) (fun σ H Q=>ta σ H fun x H1=>∃ j:Int,x=.int j∧∀ r,H1 r=none→Q (.ref r) (upd H1 r (.rng 0 j))):=by
  intro pins s σ H Q I h
  refine Call_ (zf8 I hg mr boot_range (PyProof.Rows.callWith_type1 (thn (z2p ha z4v hs pos pins s σ H (fun vs H1=>∃ x,vs=[x]∧∃ j:Int,x=.int j∧∀ r,H1 r=none→Q (.ref r) (upd H1 r (.rng 0 j))) I ?_) fun us s1 ⟨vs,H1,I1,r1,q1⟩=>?_) hs rfl))
  · have:∀ x H1,(∃ j:Int,x=V.int j∧∀ r,H1 r=none→Q (.ref r) (upd H1 r (.rng 0 j)))=(∃ x',[x]=[x']∧∃ j:Int,x'=V.int j∧∀ r,H1 r=none→Q (.ref r) (upd H1 r (.rng 0 j))):=by
      intro x H1;exact propext ⟨fun q=>⟨x,rfl,q⟩,fun ⟨x',e,q⟩=>by cases e;exact q⟩
    unfold zao zkc
    simp only [← this]
    exact h
  obtain ⟨x,e,j,ex,q⟩:=q1
  subst e ex
  cases r1 with
  | cons r rr =>
    cases rr
    refine bq fun bG=>?_
    obtain ⟨t,rfl⟩:=r
    refine bG (call_range_1 ?_)
    refine ⟨.ref s1.heap.objs.size,_,I1.laid (o:=.rng 0 j) (fun b o e=>Heap.get?_push_of_some _ e) (Nat.le_refl _) ?_,rfl,q _ (I1.hok.fresh (Nat.le_refl _))⟩
    exact ⟨_,_,_,Heap.get?_push_size _ rfl⟩
theorem zcg (hc:X.calm=true):zal X (.type "list") (fun xs H Q=>∃ (r:Addr) (n:Nat),xs=[.ref r]∧H r=some (.rng 0 (n:Int))∧n≤1000000∧∀ l,H l=none→Q (.ref l) (upd H l (.lst ((List.range n).map fun k:Nat=>V.int (k:Int))))):=by
  intro pins s σ H xs us Q I r h
  obtain ⟨r',n,rfl,e,hn,q⟩:=h
  obtain ⟨u,rfl,ru⟩:=zco r
  cases ru
  obtain ⟨t,u,v,ho⟩:=(show ∃ t u v,s.heap.get? r'=some { cls:=.type "range",data:=.fields #[.int 0 t,.int (n:Int) u,.int 1 v] } from I.hok r' _ e)
  refine call_list_range (a:=0) (b:=n) (c:=1) (n:=n) (I.ok.hd hc) ho (small_one (by omega) (by omega) (by omega) (by omega)) (by rw [rangeSize_one];split <;> omega) (by omega) fun h' tk acc' c' hk hS' hacc=>?_
  refine ⟨.ref s.heap.objs.size,_,I.laid (t':=tk) (o:=.lst ((List.range n).map fun k:Nat=>V.int (k:Int))) hk (Nat.le_refl _) ?_,rfl,q _ (I.hok.fresh (Nat.le_refl _))⟩
  refine ⟨by rw [List.length_map,List.length_range];exact z6q hn,acc'.toList,c',?_,by simpa using hS'⟩
  have hl:acc'.toList.length=n:=by rw [Array.length_toList];exact hacc.1
  have key:∀ (m:Nat) (l:List Value) (k0:Nat),l.length=m→(∀ j v,l[j]?=some v→∃ t,v=Value.int ((k0+j:Nat):Int) t)→Vals ((List.range' k0 m).map fun k:Nat=>V.int (k:Int)) l:=by
    intro m
    induction m with
    | zero=>intro l k0 e _;have:=List.length_eq_zero_iff.mp e;subst this;exact .nil
    | succ m ih =>
      intro l k0 e hj
      cases l with
      | nil=>simp at e
      | cons x l =>
        rw [List.range'_succ,List.map_cons]
        refine bq fun bG=>?_
        obtain ⟨t,ex⟩:=hj 0 x rfl
        refine bG (.cons ⟨t,?_⟩ (ih l (k0+1) (by simpa using e) fun j v ev=>?_))
        · rw [ex];simp
        · obtain ⟨t',e'⟩:=hj (j+1) v (by simpa using ev)
          exact ⟨t',by rw [e'];congr 2;omega⟩
  rw [List.range_eq_range']
  refine key n acc'.toList 0 hl fun j v ev=>?_
  obtain ⟨t',e'⟩:=hacc.2 j v (by simpa using ev)
  exact ⟨t',by rw [e'];simp⟩
theorem zs9 (ml:X.mg "list" = none) (ha:PE X a ta) (hg:Gl X "list" := by rfl) (hs:starEach [a] X.env=[(false,eval a X.env)]:=by rfl) (hc:X.calm=true:=by rfl) :
    PE X (.Call (.Name "list" p) [a] [] pos) (fun σ H Q=>ta σ H fun x H1=>∃ (r:Addr) (n:Nat),[x]=[.ref r]∧H1 r=some (.rng 0 (n:Int))∧n≤1000000∧∀ l,H1 l=none→Q (.ref l) (upd H1 l (.lst ((List.range n).map fun k:Nat=>V.int (k:Int))))) :=
  z9y (p:=p) (pos:=pos) (zcg hc) hg ml rfl (z2p ha z4v hs) (he:=hs)
end
theorem zl5 {ps:List Addr} (h:ps.Nodup) {i j:Nat} {p:Addr} (a:ps[i]?=some p) (b:ps[j]?=some p):i=j:=by
  obtain ⟨l1,g1⟩:=List.getElem?_eq_some_iff.mp a
  obtain ⟨l2,g2⟩:=List.getElem?_eq_some_iff.mp b
  rcases Nat.lt_trichotomy i j with z | z | z
  · exact absurd (g1.trans g2.symm) ((List.pairwise_iff_getElem.mp h) i j l1 l2 z)
  · exact z
  · exact absurd (g2.trans g1.symm) ((List.pairwise_iff_getElem.mp h) j i l2 l1 z)
section
variable {prog:Program} {w:World} {A:Around} {R:Result→Shared→Prop} {s:Shared} {elt tg iter tg2 iter2:Expr} {ifs ifs2:List Expr} {scope:Scope} {pos:Pos} {it acc:Value} {env:Env}
end
section
variable {X:Cx} {pins:List (Addr×Obj)} {σ:St} {N' own:List Str} {cap:List (Str×Nat)} {scope:Scope} {tg iter elt tg2 iter2:Expr} {ifs ifs2:List Expr} {pos:Pos} {g g2:TG} {tc tc2:TT} {te:TE} {wi wi2:TI}
end
section
variable {prog:Program} {w:World} {A:Around} {R:Result→Shared→Prop} {I:Addr} {fp wr:List Addr} {n:Nat} {P:Nat→Value→Prop} {St:Nat→Heap→Prop}
end
section
variable {X:Cx} {a:Expr} {ta:TE} {p pos:Pos}
end
end L2
namespace L2
open PySem PySem.W PySem.Spec PySem.Calls PyProof.Rows PySem.Builtin PySem.Builtin.ObjectAttr PySem.Builtin.Getset_descriptor
section
variable {prog:Program} {w:World} {A:Around} {E:Value→Shared→Prop} {s:Shared} {K:Frag} {x D:Addr} {ox:Obj}
end
noncomputable def zvy (e D:Addr):HO:=.ext fun h=>∃ o,h.get? e=some o∧o.cls=.ref D
section
variable {X:Cx} {a b:Expr} {ta tb:TE} {p pos:Pos}
end
noncomputable def PJ (X:Cx) (es:List Expr) (t:St→Hp→(Hp→Prop)→Prop):Prop :=
  ∀ (pins:List (Addr×Obj)) (s:Shared) (σ:St) (H:Hp) (Q:Hp→Prop) (acc:Str) (n:Nat),acc.length≤n→n+2000*es.length≤1000000→Inv X pins σ H s→t σ H Q →
    wpAny (model X.prog X.w) X.A (joinParts acc (evalEach es X.env)) (fun u s'=>∃ z t H',u=.str z t∧Inv X pins σ H' s'∧Q H') X.xe s
section
variable {X:Cx} {e e2:Expr} {es:List Expr} {te:TE} {t:St→Hp→(Hp→Prop)→Prop} {p pos:Pos}
theorem zqn:PJ X [] (fun _ H Q=>Q H):=fun pins s σ H Q acc n h1 h2 I h=>joinParts_nil ⟨acc,_,H,rfl,I.tok _,h⟩ (by rw [sizeLine_eq];simp at h2;omega)
theorem zqm {x:Str} {j:Nat} (hx:x.length≤2000) (hr:PJ X es t):PJ X (.Constant (.str x) j p::es) t:=by
  intro pins s σ H Q acc n h1 h2 I h
  have hl:(acc++x).length≤n+2000:=by rw [strLen_append];omega
  simp only [List.length_cons] at h2
  show wpAny _ _ (joinParts acc (eval (.Constant (.str x) j p) X.env::evalEach es X.env)) _ _ s
  refine joinParts_cons (thn (zmb pins s σ H (fun v H'=>v=.str x∧H'=H) I ⟨rfl,rfl⟩) fun u s1 hm=>?_)
  obtain ⟨v,H1,I1,r1,e1,e2⟩:=hm
  subst e1 e2
  obtain ⟨tk,rfl⟩:=r1
  exact ⟨by rw [sizeLine_eq];omega,hr pins s1 σ _ Q _ (n+2000) hl (by omega) I1 h⟩
theorem zqo (he:PE X e te) (hr:PJ X es t):PJ X (.FormattedValue e (-1) none p::es) (fun σ H Q=>te σ H fun v H1=>∃ i,v=.int i∧i.natAbs.log2<1920∧t σ H1 Q):=by
  intro pins s σ H Q acc n h1 h2 I h
  simp only [List.length_cons] at h2
  show wpAny _ _ (joinParts acc (eval (.FormattedValue e (-1) none p) X.env::evalEach es X.env)) _ _ s
  refine joinParts_cons (FormattedValue_plain (thn (he pins s σ H _ I h) fun u s1 hm=>?_))
  refine bq fun bG=>?_
  obtain ⟨v,H1,I1,r1,i,ev,hi,q⟩:=hm
  subst ev
  obtain ⟨tk,rfl⟩:=r1
  refine bG (formatField_int_small hi ?_)
  have hz:=int_text_len_1921 hi
  have hl:(acc++Str.ofString (toString i)).length≤n+2000:=by rw [strLen_append];omega
  exact ⟨by rw [sizeLine_eq];omega,hr pins _ σ H1 Q _ (n+2000) hl (by omega) (I1.tok _) q⟩
theorem znz (h:PJ X (e::e2::es) t) (hl:(e::e2::es).length≤400:=by decide):PE X (.JoinedStr (e::e2::es) pos) (fun σ H Q=>t σ H fun H1=>∀ z,Q (.str z) H1):=by
  intro pins s σ H Q I q
  refine JoinedStr_many ?_
  refine thn (h pins s σ H _ Str.empty 0 (Nat.zero_le _) (by omega) I q) fun u s' hm=>?_
  refine bq fun bG=>?_
  obtain ⟨z,tk,H',eu,I',q'⟩:=hm
  exact bG (⟨.str z,H',I',⟨tk,eu⟩,q' z⟩)
end
end L2
namespace L2
open PySem PySem.Spec PyProof.Rows
theorem ObjOk.there {P:Program} {w:World} {H:Hp} {h:Heap} {a:Addr} {o:HO} (x:ObjOk P w H h a o):∃ ob,h.get? a=some ob:=by
  cases o with
  | lst xs=>obtain ⟨_,_,_,_,e⟩:=x;exact ⟨_,e⟩
  | tup xs=>obtain ⟨_,_,_,p⟩:=x;obtain ⟨ob,e,_⟩:=p;exact ⟨_,e⟩
  | dK kvs=>obtain ⟨_,_,_,_,o,_,_,e,_⟩:=x;exact ⟨_,e⟩
  | dT kvs=>obtain ⟨_,_,_,_,o,_,_,e,_⟩:=x;exact ⟨_,e⟩
  | set S n=>obtain ⟨o,_,_,_,e,_⟩:=x;exact ⟨_,e⟩
  | ins C dx fs=>obtain ⟨_,_,_,e,_⟩:=x;exact ⟨_,e⟩
  | own y=>obtain ⟨_,e⟩:=x;exact ⟨_,e⟩
  | xd fs=>obtain ⟨_,⟨_,_,_,e,_⟩,_⟩:=x;exact ⟨_,e⟩
  | rng lo hi=>obtain ⟨_,_,_,e⟩:=x;exact ⟨_,e⟩
  | frz ob u=>obtain ⟨e,_⟩:=x;exact ⟨_,e⟩
  | tbl ps=>exact ⟨_,(show h.get? a=some _ from x)⟩
  | met f y=>exact ⟨_,(show h.get? a=some _ from x)⟩
  | ext φ=>obtain ⟨_,e,_⟩:=x;exact e
structure Flew (P:Program) (w:World) (outer:List Env) (H H':Hp) (s:Shared) (e:Addr) (C:Value) (B:Heap) (s':Shared):Prop where
  os:s'.os=s.os
  bare:AllBare s'.gens
  un:Un (frs outer) [] H H' s.heap s'.heap
  hok:HOk P w H' s'.heap
  trk:∀ b o,s'.heap.get? b=some o→H' b≠none→B.get? b=some o
  old:∀ b o,s.heap.get? b=some o→H b=none→b∉frs outer→B.get? b=some o
  thr:∀ b o,s.heap.get? b=some o→b∉frs outer→∃ o',B.get? b=some o'
  frf:∀ b∈frs outer,H b=none
  unt:H' e=none
  new:s.heap.get? e=none
  fly:∃ a0,Heap.FlyingW B outer e C a0 s'.heap
noncomputable def CXr (P:Program) (w:World):CXT:=fun outer H s E e s'=>∃ (a:Addr) (C:Value) (H':Hp) (B:Heap),e=.ref a∧Flew P w outer H H' s a C B s'∧E C none H'
section
variable {P:Program} {w:World} {outer:List Env} {H H':Hp} {s s':Shared} {e:Addr} {C:Value} {B:Heap}
theorem Flew.to {h2:Heap} (F:Flew P w outer H H' s e C B s') (hB:B.StaysIn h2) (hs:s'.heap.UpToSlots h2):Un (frs outer) [] H H' s.heap h2∧HOk P w H' h2∧∀ b o,h2.get? b=some o→H' b≠none→B.get? b=some o:=by
  obtain ⟨a0,fl⟩:=F.fly
  have kp:∀ b o,s.heap.get? b=some o→H b=none→b∉frs outer→h2.get? b=some o:=fun b o x n hb=>hB b o (F.old b o x n hb)
  have sl:∀ b o,s.heap.get? b=some o→H b=none→b∈frs outer→∃ sl,h2.get? b=some { o with slots:=sl }:=fun b o x n hb=>by
    refine bq fun bG=>?_
    obtain ⟨sl,e1⟩:=F.un.slot b o x n hb (by simp)
    obtain ⟨_,o',e2,d⟩:=fl.2.2.1.mem hb
    rw [e1] at e2
    cases e2
    obtain ⟨sl',e3⟩:=hs b { o with slots:=sl } e1 d
    exact bG (⟨sl',e3⟩)
  refine ⟨⟨fun b o x n hb _=>kp b o x n hb,fun b o x n hb _=>sl b o x n hb,F.un.free,fun b o x _=>?_,F.un.tups,F.un.frzs,F.un.tbls⟩,fun a u eu=>?_,fun b o x n=>?_⟩
  · by_cases hb:b∈frs outer
    · obtain ⟨l,e1⟩:=sl b o x (F.frf b hb) hb
      exact ⟨_,e1⟩
    · obtain ⟨o',e1⟩:=F.thr b o x hb
      exact ⟨o',hB b o' e1⟩
  · refine (F.hok a u eu).stay (fun b v hb q=>hB b v (F.trk b v q ?_)) (fun _ q=>q) fun _ _ q=>q
    rcases hb with z | z
    · rw [z,eu];simp
    · rw [z];simp
  · cases eu:H' b with
    | none=>exact absurd eu n
    | some u =>
      refine bq fun bG=>?_
      obtain ⟨o1,e1⟩:=(F.hok b u eu).there
      have e2:=F.trk b o1 e1 n
      have e3:=hB b o1 e2
      rw [x] at e3
      cases e3
      exact bG (e2)
theorem Flew.next {h2:Heap} (F:Flew P w outer H H' s e C B s') (hs:s'.heap.UpToSlots h2) (fl:∃ a0,Heap.FlyingW B outer e C a0 h2):Flew P w outer H H' s e C B { s' with heap:=h2 }:=by
  refine bq fun bG=>?_
  obtain ⟨a0,fl⟩:=fl
  obtain ⟨u,k,t⟩:=F.to fl.1 hs
  exact bG (⟨F.os,F.bare,u,k,t,F.old,F.thr,F.frf,F.unt,F.new,a0,fl⟩)
theorem Flew.inv {X:Cx} {pins:List (Addr×Obj)} {σ:St} (F:Flew X.prog X.w X.stack H H' s e C B s') (I:Inv X pins σ H s):Inv X pins σ H' s' :=
  I.call' (ch:=[]) F.os F.un F.hok F.bare fun _ z=>nomatch z
end
section
variable {P:Program} {w:World} {K:PySem.W.Frag} {mg:Str→Option Value} {base:Heap} {N:List Str} {qual:Str} {scope:Scope} {f:Addr} {cd:Value} {A:Around} {outer:List Env} {s s1:Shared} {H H1:Hp} {E E':XK}
  {pins:List (Addr×Obj)} {σ:St}
theorem zq1 {h':Heap} {e C:Addr} {vs:List Value} (I:Inv (z5k (CXr P w) P w K mg base N qual scope f cd A outer s H E) pins σ H1 s1) (hx:Heap.MadeExcOf s1.heap h' e (.ref C) vs) (hE:E (.ref C) none H1) :
    (z5k (CXr P w) P w K mg base N qual scope f cd A outer s H E).xe (.ref e) { s1 with heap:=h' }:=by
  have fs:∀ b,b∈frs (envOfC qual scope s.heap.objs.size f cd::outer)→H1 b=none:=I.stkFree
  have inn:∀ b o,s1.heap.get? b=some o→b∉frs (envOfC qual scope s.heap.objs.size f cd::outer)→(PySem.W.hideAll s1.heap (frs (envOfC qual scope s.heap.objs.size f cd::outer))).get? b=some o:=fun b o e hb=>PySem.W.hideAll_get _ e hb
  have out:∀ b o,s.heap.get? b=some o→b∉frs outer→b∉frs (envOfC qual scope s.heap.objs.size f cd::outer):=fun b o e hb z=>by
    have z:b∈s.heap.objs.size::frs outer:=z
    rcases List.mem_cons.mp z with q | q
    · rw [q] at e;exact Nat.lt_irrefl _ (Heap.lt_size e)
    · exact hb q
  have frf:∀ b∈frs outer,H b=none:=I.ok.frf
  have hin:∀ env∈(envOfC qual scope s.heap.objs.size f cd::outer),∀ a,env.frame=some a→a∈frs (envOfC qual scope s.heap.objs.size f cd::outer):=fun env he a ha=>List.mem_filterMap.mpr ⟨env,he,ha⟩
  show wpAny (model P w) (A.deeper (envOfC qual scope s.heap.objs.size f cd)) (leaving (envOfC qual scope s.heap.objs.size f cd) (.ref e)) _ _ _
  refine wpAny_leaves_madeW (base:=PySem.W.hideAll s1.heap (frs (envOfC qual scope s.heap.objs.size f cd::outer))) I.ok.frames rfl (fun b o q=>PySem.W.of_hideAll _ q) (PySem.W.funFrames_hide I.stack hin) hx fun h2 t fl _ _ ups=>?_
  have hB:=fl.1
  have sl:∀ b o,s.heap.get? b=some o→H b=none→b∈frs outer→∃ sl,h2.get? b=some { o with slots:=sl }:=fun b o x n hb=>by
    refine bq fun bG=>?_
    obtain ⟨sl,e1⟩:=I.base.slot b o x n hb (by simp [z5k])
    obtain ⟨_,o',e2,d⟩:=I.stack.mem (show b∈s.heap.objs.size::frs outer from List.mem_cons_of_mem _ hb)
    rw [e1] at e2
    cases e2
    obtain ⟨sl',e3⟩:=ups b { o with slots:=sl } (hx.keeps b { o with slots:=sl } e1) d
    exact bG (⟨sl',e3⟩)
  have old:∀ b o,s.heap.get? b=some o→H b=none→b∉frs outer→(PySem.W.hideAll s1.heap (frs (envOfC qual scope s.heap.objs.size f cd::outer))).get? b=some o:=fun b o x n hb =>
    inn b o (I.base.keep b o x n hb (by simp [z5k])) (out b o x hb)
  have thr:∀ b o,s.heap.get? b=some o→b∉frs outer→∃ o',(PySem.W.hideAll s1.heap (frs (envOfC qual scope s.heap.objs.size f cd::outer))).get? b=some o':=fun b o x hb=>by
    refine bq fun bG=>?_
    obtain ⟨o',e1⟩:=I.base.there b o x (by simp [z5k])
    exact bG (⟨o',inn b o' e1 (out b o x hb)⟩)
  have nfr:∀ b,H1 b≠none→b∉frs (envOfC qual scope s.heap.objs.size f cd::outer):=fun b n z=>n (fs b z)
  refine ⟨e,.ref C,H1,_,rfl,⟨I.os,I.bare,⟨fun b o x n hb _=>hB b o (old b o x n hb),fun b o x n hb _=>sl b o x n hb,fun b o x n _=>I.base.free b o x n (by simp [z5k]),fun b o x _=>?_,I.base.tups,I.base.frzs,I.base.tbls⟩,fun a u eu=>?_,fun b o x n=>?_,old,thr,frf,?_,?_,_,fl⟩,hE⟩
  · by_cases hb:b∈frs outer
    · obtain ⟨l,e1⟩:=sl b o x (frf b hb) hb
      exact ⟨_,e1⟩
    · obtain ⟨o',e1⟩:=thr b o x hb
      exact ⟨o',hB b o' e1⟩
  · refine (I.hok a u eu).stay (fun b v hb q=>hB b v (inn b v q (nfr b ?_))) (fun _ q=>q) fun _ _ q=>q
    rcases hb with z | z
    · rw [z,eu];simp
    · rw [z];simp
  · cases eu:H1 b with
    | none=>exact absurd eu n
    | some u =>
      refine bq fun bG=>?_
      obtain ⟨o1,e1⟩:=(I.hok b u eu).there
      have e2:=inn b o1 e1 (nfr b n)
      have e3:=hB b o1 e2
      rw [x] at e3
      cases e3
      exact bG (e2)
  · cases eu:H1 e with
    | none=>rfl
    | some u =>
      obtain ⟨o1,e1⟩:=(I.hok e u eu).there
      rw [hx.new] at e1
      cases e1
  · cases eo:s.heap.get? e with
    | none=>rfl
    | some o =>
      obtain ⟨o1,e1⟩:=I.base.there e o eo (by simp [z5k])
      rw [hx.new] at e1
      cases e1
theorem zo4 (hE:∀ C d H',E' C d H'→E C d H'):zfp (CXr P w) (z5k (CXr P w) P w K mg base N qual scope f cd A outer s H E) E':=by
  intro pins σ H1 s1 e s' I hc
  obtain ⟨a,C,H',B,rfl,F,q⟩:=hc
  have F:Flew P w (envOfC qual scope s.heap.objs.size f cd::outer) H1 H' s1 a C B s':=F
  obtain ⟨a0,fl⟩:=F.fly
  have I2:Inv (z5k (CXr P w) P w K mg base N qual scope f cd A outer s H E) pins σ H' s':=Flew.inv (X:=z5k (CXr P w) P w K mg base N qual scope f cd A outer s H E) F I
  have out:∀ b o,s.heap.get? b=some o→b∉frs outer→b∉frs (envOfC qual scope s.heap.objs.size f cd::outer):=fun b o e hb z=>by
    have z:b∈s.heap.objs.size::frs outer:=z
    rcases List.mem_cons.mp z with q | q
    · rw [q] at e;exact Nat.lt_irrefl _ (Heap.lt_size e)
    · exact hb q
  obtain ⟨f1,f2,⟨_,_,f3⟩,f4⟩:=id fl
  have G:Flew P w outer H H' s a C B s':=by
    refine ⟨I2.os,F.bare,⟨fun b o x n hb _=>I2.base.keep b o x n hb (by simp [z5k]),fun b o x n hb _=>I2.base.slot b o x n hb (by simp [z5k]),fun b o x n _=>I2.base.free b o x n (by simp [z5k]),fun b o x _=>I2.base.there b o x (by simp [z5k]),I2.base.tups,I2.base.frzs,I2.base.tbls⟩,F.hok,F.trk,
      fun b o x n hb=>F.old b o (I.base.keep b o x n hb (by simp [z5k])) (I.base.free b o x n (by simp [z5k])) (out b o x hb),fun b o x hb=>?_,I.ok.frf,F.unt,?_,a0,f1,f2,f3,f4⟩
    · obtain ⟨o1,e1⟩:=I.base.there b o x (by simp [z5k])
      exact F.thr b o1 e1 (out b o x hb)
    · cases eo:s.heap.get? a with
      | none=>rfl
      | some o =>
        obtain ⟨o1,e1⟩:=I.base.there a o eo (by simp [z5k])
        rw [F.new] at e1
        cases e1
  show wpAny (model P w) (A.deeper (envOfC qual scope s.heap.objs.size f cd)) (leaving (envOfC qual scope s.heap.objs.size f cd) (.ref a)) _ _ _
  exact wpAny_leaves_onW I.ok.frames rfl fl fun h2 fl2 ups=>⟨a,C,H',B,rfl,G.next ups ⟨_,fl2⟩,hE C none H' q⟩
end
section
variable {prog:Program} {w:World} {A:Around} {R:Result→Shared→Prop} {I l:Addr} {items:Array Value} {ls:List Nat} {d:Value}
end
section
variable {X:Cx} {a b:Expr} {ta tb:TE} {p p2 pos kp kp2:Pos}
end
section
variable {prog:Program} {w:World} {A:Around} {R:Result→Shared→Prop} {I:Addr} {fp wr:List Addr} {n:Nat} {P:Nat→Value→Prop} {St:Nat→Heap→Prop}
end
section
variable {prog:Program} {w:World} {A:Around} {E:Value→Shared→Prop} {s:Shared}
end
section
variable {X:Cx}
end
end L2
namespace L3
open PySem PySem.Spec L2
inductive D where
  | non | bl (b:Bool) | int (i:Int) | str (x:Str) | lst (xs:List D) | scr (xs:List D) | tup (xs:List D) | gt (xs:List D) | ref (k:Nat)
inductive O where
  | lst (xs:List D) | dK (kvs:List (Key×D)) | dN (kvs:List (NK×D)) | ins (C:Addr) (fs:List (Str×D)) | exc (C:Addr)
noncomputable abbrev M:=List (Option O)
noncomputable abbrev G:=List (Option D)
structure Wd where
  ρ:List Addr
  μ:M
  H:Hp
  hid:Addr→Prop
def SqF (K:PySem.W.Frag) (H:Hp) (a:Addr) (xs:List V):Prop:=(∃ o,H a=some (.frz o (.lst xs))) ∨
    ∃ (o:Obj) (its:Array Value) (n:Nat),K.lookup a=some o∧o.cls=.type "list" ∧ o.dict=none∧o.data=.seq its n∧its.size≤sizeLine∧Vals xs its.toList
theorem SqF.seq {K:PySem.W.Frag} {H:Hp} {a:Addr} {xs:List V} (h:SqF K H a xs):SqL K H a xs:=by
  rcases h with h | h
  · exact .inl (.inr h)
  · exact .inr h
def RL (W:Wd) (a:Addr):Prop:=∃ (k:Nat) (o:O),W.μ[k]?=some (some o)∧W.ρ[k]?=some a
def zsi (W:Wd) (a:Addr):Prop:=RL W a∨W.hid a
mutual
inductive DR (K:PySem.W.Frag) (W:Wd):D→V→Prop where
  | non:DR K W .non .non
  | bl (b:Bool):DR K W (.bl b) (.bl b)
  | int (i:Int):DR K W (.int i) (.int i)
  | str (x:Str):DR K W (.str x) (.str x)
  | ref {k:Nat} {a:Addr}:W.ρ[k]?=some a→DR K W (.ref k) (.ref a)
  | lst {a:Addr} {vs:List V} {ds:List D}:W.H a=some (.lst vs)→¬ zsi W a→DRs K W ds vs→DR K W (.lst ds) (.ref a)
  | scr {a:Addr} {vs:List V} {ds:List D}:SqF K W.H a vs→DRs K W ds vs→DR K W (.scr ds) (.ref a)
  | tup {a:Addr} {vs:List V} {ds:List D}:W.H a=some (.tup vs)→DRs K W ds vs→DR K W (.tup ds) (.ref a)
  | gt {a:Addr} {vs:List V} {ds:List D}:SqT K W.H a vs→DRs K W ds vs→DR K W (.gt ds) (.ref a)
inductive DRs (K:PySem.W.Frag) (W:Wd):List D→List V→Prop where
  | nil:DRs K W [] []
  | cons {d:D} {v:V} {ds:List D} {vs:List V}:DR K W d v→DRs K W ds vs→DRs K W (d::ds) (v::vs)
end
def KR (K:PySem.W.Frag) (W:Wd):List (Key×D)→List (Key×V)→Prop:=Paired fun p q=>p.1=q.1∧DR K W p.2 q.2
def NR (K:PySem.W.Frag) (W:Wd):List (NK×D)→List (NK×V)→Prop:=Paired fun p q=>p.1=q.1∧DR K W p.2 q.2
def FR (K:PySem.W.Frag) (W:Wd):List (Str×D)→List (Str×V)→Prop:=Paired fun p q=>p.1=q.1∧DR K W p.2 q.2
def OR (K:PySem.W.Frag) (W:Wd) (a:Addr):O→HO→Prop
  | .lst ds,ho=>∃ vs,ho=.lst vs∧DRs K W ds vs
  | .dK kvs,ho=>∃ vs,ho=.dK vs∧KR K W kvs vs
  | .dN kvs,ho=>∃ vs,ho=.dT vs∧NR K W kvs vs
  | .ins C fs,ho=>∃ vs,(∃ dx,ho=.ins C dx vs)∧FR K W fs vs
  | .exc C,ho=>ho=zvy a C
structure Ok (K:PySem.W.Frag) (W:Wd):Prop where
  len:W.ρ.length=W.μ.length
  nd:W.ρ.Nodup
  rs:∀ a∈W.ρ,W.H a≠none
  at_:∀ (k:Nat) (o:O),W.μ[k]?=some (some o)→∃ a ho,W.ρ[k]?=some a∧W.H a=some ho∧OR K W a o ho
  hd0:∀ a,W.hid a→W.H a≠none∧a∉W.ρ
theorem Ok.hd {K:PySem.W.Frag} {W:Wd} (ok:Ok K W):∀ a,W.hid a→W.H a≠none∧¬ RL W a:=fun a z=>⟨(ok.hd0 a z).1,fun ⟨_,_,_,h⟩=>(ok.hd0 a z).2 (List.mem_of_getElem? h)⟩
structure Step (W W':Wd):Prop where
  ρ:∀ (k:Nat) a,W.ρ[k]?=some a→W'.ρ[k]?=some a
  live:∀ a,RL W' a→RL W a∨W.H a=none
  keep:∀ a o,W.H a=some o→¬ RL W a→W'.H a=some o
  hid:W'.hid=W.hid
  still:∀ a,W.H a≠none→W'.H a≠none
structure EnvR (K:PySem.W.Frag) (W:Wd) (Γ:G) (σ:St):Prop where
  len:Γ.length=σ.length
  at_:∀ (i:Nat) d,Γ[i]?=some (some d)→∃ v,σ[i]?=some (some v)∧DR K W d v
section
variable {K:PySem.W.Frag} {W W' W'':Wd} {Γ:G} {σ:St}
theorem Step.refl:Step W W:=⟨fun _ _ h=>h,fun _ h=>.inl h,fun _ _ h _=>h,rfl,fun _ h=>h⟩
theorem Step.nlive (s:Step W W') {a:Addr} {o:HO} (h:W.H a=some o) (n:¬ RL W a):¬ RL W' a:=fun z=>by
  rcases s.live a z with z | z
  · exact n z
  · rw [h] at z;cases z
theorem Step.trans (s:Step W W') (t:Step W' W''):Step W W'' where
  ρ k a h:=t.ρ k a (s.ρ k a h)
  live a h:=by
    rcases t.live a h with z | z
    · exact s.live a z
    · exact .inr (Classical.byContradiction fun n=>s.still a n z)
  keep a o h n:=t.keep a o (s.keep a o h n) (s.nlive h n)
  hid:=t.hid.trans s.hid
  still a h:=t.still a (s.still a h)
theorem Step.nLive (s:Step W W') {a:Addr} {o:HO} (h:W.H a=some o) (n:¬ zsi W a):¬ zsi W' a:=fun z=>by
  rcases z with z | z
  · exact s.nlive h (fun q=>n (.inl q)) z
  · rw [s.hid] at z;exact n (.inr z)
theorem znm (s:Step W W') {a:Addr} {u:HO} (n:¬ RL W a) (r:Rd W.H a u):Rd W'.H a u:=by
  rcases r with h | ⟨o,h⟩
  · exact .inl (s.keep _ _ h n)
  · exact .inr ⟨o,s.keep _ _ h n⟩
theorem Ok.notup (ok:Ok K W) {a:Addr} {vs:List V} (r:Rd W.H a (.tup vs)):¬ RL W a:=fun ⟨k,o,hk,ha⟩=>by
  obtain ⟨a',ho,h1,h2,h3⟩:=ok.at_ k o hk
  rw [ha] at h1
  cases h1
  rcases r with h | ⟨q,h⟩
  · rw [h2] at h
    cases o with
    | lst ds=>obtain ⟨ws,rfl,_⟩:=h3;cases h
    | dK kvs=>obtain ⟨ws,rfl,_⟩:=h3;cases h
    | dN kvs=>obtain ⟨ws,rfl,_⟩:=h3;cases h
    | ins C fs=>obtain ⟨ws,⟨dx,rfl⟩,_⟩:=h3;cases h
    | exc C=>cases (show _=_ from h3);cases h
  · rw [h2] at h
    cases o with
    | lst ds=>obtain ⟨ws,rfl,_⟩:=h3;cases h
    | dK kvs=>obtain ⟨ws,rfl,_⟩:=h3;cases h
    | dN kvs=>obtain ⟨ws,rfl,_⟩:=h3;cases h
    | ins C fs=>obtain ⟨ws,⟨dx,rfl⟩,_⟩:=h3;cases h
    | exc C=>cases (show _=_ from h3);cases h
theorem zhd (ok:Ok K W) (s:Step W W') {a:Addr} {vs:List V} (h:SqT K W.H a vs):SqT K W'.H a vs:=by
  rcases h with h | h
  · exact .inl (znm s (ok.notup h) h)
  · exact .inr h
theorem Ok.nofrz (ok:Ok K W) {a:Addr} {u:HO} {q:Obj} (h:W.H a=some (.frz q u)):¬ RL W a:=fun ⟨k,o,hk,ha⟩=>by
  obtain ⟨a',ho,h1,h2,h3⟩:=ok.at_ k o hk
  rw [ha] at h1
  cases h1
  rw [h2] at h
  cases o with
  | lst ds=>obtain ⟨ws,rfl,_⟩:=h3;cases h
  | dK kvs=>obtain ⟨ws,rfl,_⟩:=h3;cases h
  | dN kvs=>obtain ⟨ws,rfl,_⟩:=h3;cases h
  | ins C fs=>obtain ⟨ws,⟨dx,rfl⟩,_⟩:=h3;cases h
  | exc C=>cases (show _=_ from h3);cases h
theorem zhj (ok:Ok K W) (s:Step W W') {a:Addr} {vs:List V} (h:SqF K W.H a vs):SqF K W'.H a vs:=by
  rcases h with ⟨o,h⟩ | h
  · exact .inl ⟨o,s.keep _ _ h (ok.nofrz h)⟩
  · exact .inr h
mutual
theorem DR.step (ok:Ok K W) (s:Step W W'):∀ {d:D} {v:V},DR K W d v→DR K W' d v
  | _,_,.non=>.non
  | _,_,.bl b=>.bl b
  | _,_,.int i=>.int i
  | _,_,.str x=>.str x
  | _,_,.ref h=>.ref (s.ρ _ _ h)
  | _,_,.lst r n h=>.lst (s.keep _ _ r (fun z=>n (.inl z))) (s.nLive r n) (DRs.step ok s h)
  | _,_,.scr r h=>.scr (zhj ok s r) (DRs.step ok s h)
  | _,_,.tup r h=>.tup (s.keep _ _ r (ok.notup (.inl r))) (DRs.step ok s h)
  | _,_,.gt r h=>.gt (zhd ok s r) (DRs.step ok s h)
theorem DRs.step (ok:Ok K W) (s:Step W W'):∀ {ds:List D} {vs:List V},DRs K W ds vs→DRs K W' ds vs
  | _,_,.nil=>.nil
  | _,_,.cons h t=>.cons (h.step ok s) (DRs.step ok s t)
end
theorem KR.step (ok:Ok K W) (s:Step W W') {kvs:List (Key×D)} {vs:List (Key×V)} (h:KR K W kvs vs):KR K W' kvs vs:=Paired.mapP h fun _ _ ⟨e,q⟩=>⟨e,q.step ok s⟩
theorem NR.step (ok:Ok K W) (s:Step W W') {kvs:List (NK×D)} {vs:List (NK×V)} (h:NR K W kvs vs):NR K W' kvs vs:=Paired.mapP h fun _ _ ⟨e,q⟩=>⟨e,q.step ok s⟩
theorem FR.step (ok:Ok K W) (s:Step W W') {kvs:List (Str×D)} {vs:List (Str×V)} (h:FR K W kvs vs):FR K W' kvs vs:=Paired.mapP h fun _ _ ⟨e,q⟩=>⟨e,q.step ok s⟩
theorem OR.step (ok:Ok K W) (s:Step W W') {a:Addr} {o:O} {ho:HO} (h:OR K W a o ho):OR K W' a o ho:=by
  cases o with
  | lst ds=>obtain ⟨vs,e,q⟩:=h;exact ⟨vs,e,q.step ok s⟩
  | dK kvs=>obtain ⟨vs,e,q⟩:=h;exact ⟨vs,e,q.step ok s⟩
  | dN kvs=>obtain ⟨vs,e,q⟩:=h;exact ⟨vs,e,q.step ok s⟩
  | ins C fs=>obtain ⟨vs,e,q⟩:=h;exact ⟨vs,e,q.step ok s⟩
  | exc C=>exact h
theorem EnvR.step (e:EnvR K W Γ σ) (ok:Ok K W) (s:Step W W'):EnvR K W' Γ σ:=⟨e.len,fun i d h=>let ⟨v,a,b⟩:=e.at_ i d h;⟨v,a,b.step ok s⟩⟩
theorem DRs.length:∀ {ds:List D} {vs:List V},DRs K W ds vs→ds.length=vs.length
  | _,_,.nil=>rfl
  | _,_,.cons _ t=>by simp [t.length]
theorem DRs.get:∀ {ds:List D} {vs:List V} {i:Nat} {d:D},DRs K W ds vs→ds[i]?=some d→∃ v,vs[i]?=some v∧DR K W d v
  | _,_,_,_,.nil,e=>by simp at e
  | _,_,0,_,.cons h _,e=>by simp at e;subst e;exact ⟨_,rfl,h⟩
  | _,_,i+1,d,.cons _ t,e=>by
    refine bq fun bG=>?_
    obtain ⟨v,h1,h2⟩:=DRs.get (i:=i) (d:=d) t (by simpa using e)
    exact bG (⟨v,by simpa using h1,h2⟩)
theorem DRs.append:∀ {ds es:List D} {vs us:List V},DRs K W ds vs→DRs K W es us→DRs K W (ds++es) (vs++us)
  | _,_,_,_,.nil,s=>s
  | _,_,_,_,.cons h t,s=>.cons h (DRs.append t s)
theorem DRs.take:∀ {ds:List D} {vs:List V} (n:Nat),DRs K W ds vs→DRs K W (ds.take n) (vs.take n)
  | _,_,0,_=>.nil
  | _,_,_+1,.nil=>.nil
  | _,_,n+1,.cons r t=>.cons r (DRs.take n t)
theorem DRs.drop:∀ {ds:List D} {vs:List V} (n:Nat),DRs K W ds vs→DRs K W (ds.drop n) (vs.drop n)
  | _,_,0,r=>r
  | _,_,_+1,.nil=>.nil
  | _,_,n+1,.cons _ t=>DRs.drop n t
theorem DRs.set {d:D} {v:V} (r:DR K W d v):∀ {ds:List D} {vs:List V} (i:Nat),DRs K W ds vs→DRs K W (ds.set i d) (vs.set i v)
  | _,_,_,.nil=>.nil
  | _,_,0,.cons _ t=>.cons r t
  | _,_,i+1,.cons q t=>.cons q (DRs.set r i t)
theorem DRs.erase:∀ {ds:List D} {vs:List V} (i:Nat),DRs K W ds vs→DRs K W (ds.eraseIdx i) (vs.eraseIdx i)
  | _,_,_,.nil=>.nil
  | _,_,0,.cons _ t=>t
  | _,_,i+1,.cons q t=>.cons q (DRs.erase i t)
theorem DRs.reverse {ds:List D} {vs:List V} (h:DRs K W ds vs):DRs K W ds.reverse vs.reverse:=by
  induction ds generalizing vs with
  | nil=>cases h;exact .nil
  | cons d r ih =>
    cases h with
    | cons h t=>simp only [List.reverse_cons];exact (ih t).append (.cons h .nil)
theorem DRs.dropLast {ds:List D} {vs:List V} (h:DRs K W ds vs):DRs K W ds.dropLast vs.dropLast:=by
  rw [List.dropLast_eq_take,List.dropLast_eq_take,h.length];exact h.take _
theorem DRs.rep {ds:List D} {vs:List V} (h:DRs K W ds vs):∀ n,DRs K W (List.replicate n ds).flatten (List.replicate n vs).flatten
  | 0=>.nil
  | n+1=>by simp only [List.replicate_succ,List.flatten_cons];exact h.append (DRs.rep h n)
end
section
variable {K:PySem.W.Frag} {W:Wd}
noncomputable def Wd.lay (W:Wd) (p:Addr) (o:HO):Wd:={ W with H:=upd W.H p o }
theorem zis (ok:Ok K W) {p:Addr} (h:W.H p=none):¬ RL W p:=fun ⟨k,o,_,ha⟩=>ok.rs p (List.mem_of_getElem? ha) h
theorem zbh (ok:Ok K W) {p:Addr} (h:W.H p=none):¬ W.hid p:=fun z=>(ok.hd p z).1 h
theorem ze8 (ok:Ok K W) {p:Addr} (h:W.H p=none):¬ zsi W p:=fun z=>z.elim (zis ok h) (zbh ok h)
theorem z0w {p:Addr} {o:HO} (h:W.H p=none):Step W (W.lay p o) where
  ρ _ _ h:=h
  live _ h:=.inl h
  keep a u e _:=by show upd W.H p o a=_;rw [z0z (z0x e h)];exact e
  hid:=rfl
  still a n:=by
    show upd W.H p o a≠none
    by_cases e:a=p
    · subst e;rw [z15];simp
    · rw [z0z e];exact n
theorem z5v (ok:Ok K W) {p:Addr} {o:HO} (h:W.H p=none):Ok K (W.lay p o) where
  len:=ok.len
  nd:=ok.nd
  rs a m:=(z0w h).still a (ok.rs a m)
  at_ k u e:=by
    refine bq fun bG=>?_
    obtain ⟨a,ho,h1,h2,h3⟩:=ok.at_ k u e
    refine bG (⟨a,ho,h1,?_,h3.step ok (z0w h)⟩)
    show upd W.H p o a=_
    rw [z0z (z0x h2 h)];exact h2
  hd0 a z:=⟨(z0w h).still a (ok.hd a z).1,(ok.hd0 a z).2⟩
theorem zi8 (ok:Ok K W) {p:Addr} {o:HO} (h:W.H p=none):¬ zsi (W.lay p o) p:=ze8 ok h
theorem zac (ok:Ok K W) {p:Addr} {ds:List D} {vs:List V} (h:W.H p=none) (r:DRs K W ds vs):DR K (W.lay p (.lst vs)) (.lst ds) (.ref p) :=
  .lst z15 (zi8 ok h) (r.step ok (z0w h))
theorem zj5 (ok:Ok K W) {p:Addr} {ds:List D} {vs:List V} (h:W.H p=none) (r:DRs K W ds vs):DR K (W.lay p (.tup vs)) (.tup ds) (.ref p) :=
  .tup z15 (r.step ok (z0w h))
noncomputable def Wd.new (W:Wd) (p:Addr) (o:HO) (x:O):Wd:={ W with H:=upd W.H p o,ρ:=W.ρ++[p],μ:=W.μ++[some x] }
theorem z9h {α:Type} {l:List α} {x y:α} {k:Nat} (h:(l++[x])[k]?=some y):l[k]?=some y∨(k=l.length∧y=x):=by
  by_cases hk:k<l.length
  · rw [List.getElem?_append_left hk] at h;exact .inl h
  · rw [List.getElem?_append_right (by omega)] at h
    have:k - l.length=0:=by
      cases e:k - l.length with
      | zero=>rfl
      | succ n=>rw [e] at h;simp at h
    rw [this] at h
    simp at h
    exact .inr ⟨by omega,h.symm⟩
theorem zq0 (ok:Ok K W) {p a:Addr} {o:HO} {x:O} (h:RL (W.new p o x) a):RL W a∨a=p:=by
  obtain ⟨k,u,h1,h2⟩:=h
  rcases z9h h1 with z | ⟨e,_⟩
  · rcases z9h h2 with y | ⟨e,y⟩
    · exact .inl ⟨k,u,z,y⟩
    · have:=(List.getElem?_eq_some_iff.mp z).1
      rw [e,ok.len] at this
      omega
  · rcases z9h h2 with y | ⟨_,y⟩
    · have:=(List.getElem?_eq_some_iff.mp y).1
      rw [e,← ok.len] at this
      omega
    · exact .inr y
theorem z4y (ok:Ok K W) {p:Addr} {o:HO} {x:O} (h:W.H p=none):Step W (W.new p o x) where
  ρ k a e:=by
    show (W.ρ++[p])[k]?=_
    rw [List.getElem?_append_left (List.getElem?_eq_some_iff.mp e).1];exact e
  live a z:=by
    rcases zq0 ok z with z | rfl
    · exact .inl z
    · exact .inr h
  keep a u e _:=by show upd W.H p o a=_;rw [z0z (z0x e h)];exact e
  hid:=rfl
  still a n:=by
    show upd W.H p o a≠none
    by_cases e:a=p
    · subst e;rw [z15];simp
    · rw [z0z e];exact n
theorem zi5 (ok:Ok K W) {p:Addr} {o:HO} {x:O} (h:W.H p=none) (r:OR K W p x o):Ok K (W.new p o x) where
  len:=by show (W.ρ++[p]).length=(W.μ++[some x]).length;simp [ok.len]
  nd:=by
    show (W.ρ++[p]).Nodup
    rw [List.nodup_append]
    refine ⟨ok.nd,by simp,fun a ha b hb e=>?_⟩
    simp at hb
    subst hb e
    exact ok.rs _ ha h
  rs a m:=by
    rcases List.mem_append.mp m with m | m
    · exact (z4y ok h).still a (ok.rs a m)
    · simp at m
      subst m
      show upd W.H a o a≠none
      rw [z15];simp
  at_ k u e:=by
    rcases z9h e with e | ⟨e,y⟩
    · obtain ⟨a,ho,h1,h2,h3⟩:=ok.at_ k u e
      refine ⟨a,ho,(z4y ok h).ρ k a h1,?_,h3.step ok (z4y ok h)⟩
      show upd W.H p o a=_
      rw [z0z (z0x h2 h)];exact h2
    · cases y
      rename_i hk
      refine ⟨p,o,?_,z15,r.step ok (z4y ok h)⟩
      show (W.ρ++[p])[k]?=_
      rw [hk,← ok.len];simp
  hd0 a z:=by
    refine ⟨(z4y ok h).still a (ok.hd a z).1,fun q=>?_⟩
    have q:a∈W.ρ++[p]:=q
    rcases List.mem_append.mp q with q | q
    · exact (ok.hd0 a z).2 q
    · simp at q
      subst q
      exact (ok.hd a z).1 h
theorem zj6 (ok:Ok K W) {p:Addr} {o:HO} {x:O}:DR K (W.new p o x) (.ref W.μ.length) (.ref p):=by
  refine .ref ?_
  show (W.ρ++[p])[W.μ.length]?=_
  rw [← ok.len];simp
noncomputable def Wd.put (W:Wd) (k:Nat) (a:Addr) (o:HO) (x:O):Wd:={ W with H:=upd W.H a o,μ:=W.μ.set k (some x) }
theorem zpz {k:Nat} {a b:Addr} {o:HO} {x y:O} (hk:W.μ[k]?=some (some y)):RL (W.put k a o x) b↔RL W b:=by
  have hlt:=(List.getElem?_eq_some_iff.mp hk).1
  constructor
  · rintro ⟨j,u,h1,h2⟩
    have h1:(W.μ.set k (some x))[j]?=some (some u):=h1
    by_cases e:j=k
    · subst e;exact ⟨j,y,hk,h2⟩
    · rw [List.getElem?_set_ne (Ne.symm e)] at h1;exact ⟨j,u,h1,h2⟩
  · rintro ⟨j,u,h1,h2⟩
    by_cases e:j=k
    · subst e;exact ⟨j,x,by show (W.μ.set j (some x))[j]?=_;simp [hlt],h2⟩
    · exact ⟨j,u,by show (W.μ.set k (some x))[j]?=_;rw [List.getElem?_set_ne (Ne.symm e)];exact h1,h2⟩
theorem z6z {k:Nat} {a:Addr} {o:HO} {x y:O} (hk:W.μ[k]?=some (some y)) (ha:W.ρ[k]?=some a):Step W (W.put k a o x) where
  ρ _ _ h:=h
  live b z:=.inl ((zpz hk).mp z)
  keep b u e n:=by
    have hne:b≠a:=fun z=>n (by rw [z];exact ⟨k,y,hk,ha⟩)
    show upd W.H a o b=_
    rw [z0z hne];exact e
  hid:=rfl
  still b n:=by
    show upd W.H a o b≠none
    by_cases e:b=a
    · subst e;rw [z15];simp
    · rw [z0z e];exact n
theorem zr6 (ok:Ok K W) {k:Nat} {a:Addr} {o:HO} {x y:O} (hk:W.μ[k]?=some (some y)) (ha:W.ρ[k]?=some a) (r:OR K W a x o):Ok K (W.put k a o x) where
  len:=by show W.ρ.length=(W.μ.set k (some x)).length;simp [ok.len]
  nd:=ok.nd
  rs b m:=(z6z hk ha).still b (ok.rs b m)
  at_ j u e:=by
    have e:(W.μ.set k (some x))[j]?=some (some u):=e
    by_cases z:j=k
    · subst z
      have hlt:=(List.getElem?_eq_some_iff.mp hk).1
      simp [hlt] at e
      subst e
      exact ⟨a,o,ha,z15,r.step ok (z6z hk ha)⟩
    · rw [List.getElem?_set_ne (Ne.symm z)] at e
      refine bq fun bG=>?_
      obtain ⟨b,ho,h1,h2,h3⟩:=ok.at_ j u e
      refine bG (⟨b,ho,h1,?_,h3.step ok (z6z hk ha)⟩)
      have hne:b≠a:=fun q=>z (zl5 ok.nd h1 (by rw [q];exact ha))
      show upd W.H a o b=_
      rw [z0z hne];exact h2
  hd0 b z:=⟨(z6z hk ha).still b (ok.hd b z).1,(ok.hd0 b z).2⟩
noncomputable def Wd.hide (W:Wd) (p:Addr) (o:HO):Wd:={ W with H:=upd W.H p o,hid:=fun a=>a=p∨W.hid a }
end
noncomputable abbrev EV:=G→M→Option (D×M)
noncomputable abbrev BV:=G→M→Option (Bool×M)
noncomputable abbrev LV:=G→M→Option (List D×M)
inductive Out where
  | nx | bk | ct | rt (d:D)
noncomputable abbrev SV:=G→M→Option (Out×G×M)
section
variable (K:PySem.W.Frag)
def tD (ev:EV):TE:=fun σ H Q=>∃ (W:Wd) (Γ:G) (d:D) (μ':M),W.H=H∧Ok K W∧EnvR K W Γ σ∧ev Γ W.μ=some (d,μ')∧∀ v W',W'.μ=μ'→Ok K W'→Step W W'→DR K W' d v→Q v W'.H
def tDB (ev:BV):TT:=fun σ H Q=>∃ (W:Wd) (Γ:G) (b:Bool) (μ':M),W.H=H∧Ok K W∧EnvR K W Γ σ∧ev Γ W.μ=some (b,μ')∧∀ W',W'.μ=μ'→Ok K W'→Step W W'→Q b W'.H
def tDL (ev:LV):TA:=fun σ H Q=>∃ (W:Wd) (Γ:G) (ds:List D) (μ':M),W.H=H∧Ok K W∧EnvR K W Γ σ∧ev Γ W.μ=some (ds,μ')∧∀ vs W',W'.μ=μ'→Ok K W'→Step W W'→DRs K W' ds vs→Q vs W'.H
def fin (D:Ends) (W':Wd) (σ':St):Out→Prop
  | .nx=>D.nx σ' W'.H
  | .bk=>D.bk σ' W'.H
  | .ct=>D.ct σ' W'.H
  | .rt d=>∀ v,DR K W' d v→D.rt v W'.H
def tDS (es:SV):TS:=fun D σ H=>∃ (W:Wd) (Γ:G) (out:Out) (Γ':G) (μ':M),W.H=H∧Ok K W∧EnvR K W Γ σ∧es Γ W.μ=some (out,Γ',μ')∧∀ W' σ',W'.μ=μ'→Ok K W'→Step W W'→EnvR K W' Γ' σ'→fin K D W' σ' out
end
section
variable {X:Cx} {e:Expr}
theorem z0v {t t':TE} (h:PE X e t) (hi:∀ σ H Q,t' σ H Q→t σ H Q):PE X e t':=fun pins s σ H Q I hw=>h pins s σ H Q I (hi _ _ _ hw)
theorem zbl {t t':TT} (h:PT X e t) (hi:∀ σ H Q,t' σ H Q→t σ H Q):PT X e t':=fun pins s σ H Q I hw=>h pins s σ H Q I (hi _ _ _ hw)
theorem zmu {t t':TT} (h:PW X e t) (hi:∀ σ H Q,t' σ H Q→t σ H Q):PW X e t':=fun wh pins s σ H Q I hw=>h wh pins s σ H Q I (hi _ _ _ hw)
theorem zjo {es:List Expr} {t t':TA} (h:PA X es t) (hi:∀ σ H Q,t' σ H Q→t σ H Q):PA X es t':=fun pos pins s σ H Q I hw=>h pos pins s σ H Q I (hi _ _ _ hw)
theorem z51 {st:Stmt} {t t':TS} (h:PS X st t) (hi:∀ D σ H,t' D σ H→t D σ H):PS X st t':=fun pins s σ H D I hw=>h pins s σ H D I (hi _ _ _ hw)
theorem zaj {st:List Stmt} {t t':TS} (h:PSs X st t) (hi:∀ D σ H,t' D σ H→t D σ H):PSs X st t':=fun pins s σ H D I hw=>h pins s σ H D I (hi _ _ _ hw)
end
theorem bnd {α β:Type} {x:Option α} {f:α→Option β} {b:β} (h:x.bind f=some b):∃ a,x=some a∧f a=some b:=Option.bind_eq_some_iff.mp h
theorem el4 {α:Type} {p:Wd→Prop} {q:Wd→G→Prop} {r s:Wd→G→α→M→Prop} {Z:Prop} {H:Hp} (h:∃ (W:Wd) (Γ:G) (d:α) (μ':M),W.H=H∧p W∧q W Γ∧r W Γ d μ'∧s W Γ d μ') (k:∀ W Γ d μ',W.H=H→p W→q W Γ→r W Γ d μ'→s W Γ d μ'→Z):Z:=by
  refine bq fun bG=>?_
  obtain ⟨W,Γ,d,μ',rfl,a,b,c,e⟩:=h
  exact bG (k W Γ d μ' rfl a b c e)
theorem el5 {α β:Type} {p:Wd→Prop} {q:Wd→G→Prop} {r s:Wd→G→α→β→M→Prop} {Z:Prop} {H:Hp} (h:∃ (W:Wd) (Γ:G) (d:α) (b:β) (μ':M),W.H=H∧p W∧q W Γ∧r W Γ d b μ'∧s W Γ d b μ') (k:∀ W Γ d b μ',W.H=H→p W→q W Γ→r W Γ d b μ'→s W Γ d b μ'→Z):Z:=by
  refine bq fun bG=>?_
  obtain ⟨W,Γ,d,x,μ',rfl,a,b,c,e⟩:=h
  exact bG (k W Γ d x μ' rfl a b c e)
theorem z04 {α β:Type} {x:Option α} {f:α→Option β} {b:β} {Z:Prop} (h:x.bind f=some b) (k:∀ a,x=some a→f a=some b→Z):Z:=by
  refine bq fun bG=>?_
  obtain ⟨a,h1,h2⟩:=bnd h
  exact bG (k a h1 h2)
noncomputable def z92 (μ:M):D→Option (List D)
  | .lst ds=>some ds
  | .scr ds=>some ds
  | .ref k=>match μ[k]? with
    | some (some (.lst ds))=>some ds
    | _=>none
  | _=>none
noncomputable def zjp (μ:M):D→Option (List D)
  | .lst ds=>some ds
  | .ref k=>match μ[k]? with
    | some (some (.lst ds))=>some ds
    | _=>none
  | _=>none
noncomputable def zm1:D→Option (List D)
  | .tup ds=>some ds
  | .gt ds=>some ds
  | _=>none
section
variable {K:PySem.W.Frag} {W:Wd} {d:D} {ds:List D} {v:V}
theorem zb9 (ok:Ok K W) {k:Nat} (h:W.μ[k]?=some (some (.lst ds))) (r:DR K W (.ref k) v):∃ a vs,v=.ref a∧W.ρ[k]?=some a∧W.H a=some (.lst vs)∧DRs K W ds vs:=by
  cases r with
  | ref ha =>
    refine bq fun bG=>?_
    obtain ⟨a',ho,h1,h2,vs,rfl,r⟩:=ok.at_ k _ h
    rw [ha] at h1
    cases h1
    exact bG (⟨_,vs,rfl,ha,h2,r⟩)
theorem zbn (ok:Ok K W) (h:zjp W.μ d=some ds) (r:DR K W d v):∃ a vs,v=.ref a∧W.H a=some (.lst vs)∧DRs K W ds vs:=by
  cases d with
  | lst xs =>
    cases h
    cases r with
    | lst r n h=>exact ⟨_,_,rfl,r,h⟩
  | ref k =>
    simp only [zjp] at h
    split at h
    · rename_i xs hk
      cases h
      refine bq fun bG=>?_
      obtain ⟨a,vs,e,_,e2,e3⟩:=zb9 ok hk r
      exact bG (⟨a,vs,e,e2,e3⟩)
    · cases h
  | _=>cases h
theorem z54 (ok:Ok K W) (h:z92 W.μ d=some ds) (r:DR K W d v):∃ a vs,v=.ref a∧SqL K W.H a vs∧DRs K W ds vs:=by
  cases d with
  | lst xs =>
    cases h
    cases r with
    | lst r n h=>exact ⟨_,_,rfl,SqL.of r,h⟩
  | scr xs =>
    cases h
    cases r with
    | scr r h=>exact ⟨_,_,rfl,r.seq,h⟩
  | ref k =>
    simp only [z92] at h
    split at h
    · rename_i xs hk
      cases h
      refine bq fun bG=>?_
      obtain ⟨a,vs,e,_,e2,e3⟩:=zb9 ok hk r
      exact bG (⟨a,vs,e,SqL.of e2,e3⟩)
    · cases h
  | _=>cases h
theorem z6k (h:zm1 d=some ds) (r:DR K W d v):∃ a vs,v=.ref a∧SqT K W.H a vs∧DRs K W ds vs:=by
  cases d with
  | tup xs =>
    cases h
    cases r with
    | tup r h=>exact ⟨_,_,rfl,SqT.of r,h⟩
  | gt xs =>
    cases h
    cases r with
    | gt r h=>exact ⟨_,_,rfl,r,h⟩
  | _=>cases h
theorem zji {vs:List V} {i:Int} (r:DRs K W ds vs) (h:atI ds i=some d):∃ v,atI vs i=some v∧DR K W d v:=by
  unfold atI at h ⊢
  refine z04 h fun j h1 h2=>?_
  rw [r.length] at h1
  obtain ⟨v,e,q⟩:=r.get h2
  exact ⟨v,by rw [h1];exact e,q⟩
end
noncomputable def z05 (i:Nat):EV:=fun Γ μ=>match Γ[i]? with
  | some (some d)=>some (d,μ)
  | _=>none
noncomputable def vC (d:D):EV:=fun _ μ=>some (d,μ)
noncomputable def v2 (f:D→D→M→Option (D×M)) (ea eb:EV):EV:=fun Γ μ=>(ea Γ μ).bind fun p=>(eb Γ p.2).bind fun q=>f p.1 q.1 q.2
noncomputable def v1 (f:D→M→Option (D×M)) (ea:EV):EV:=fun Γ μ=>(ea Γ μ).bind fun p=>f p.1 p.2
def R2A (K:PySem.W.Frag) (r:R2) (f:D→D→M→Option (D×M)):Prop:=∀ (W:Wd) (x y:V) (d e z:D) (μ':M) (Q:VK),Ok K W→DR K W d x→DR K W e y→f d e W.μ=some (z,μ') →
  (∀ v W',W'.μ=μ'→Ok K W'→Step W W'→DR K W' z v→Q v W'.H)→r x y W.H Q
def R1A (K:PySem.W.Frag) (r:V→Hp→VK→Prop) (f:D→M→Option (D×M)):Prop:=∀ (W:Wd) (x:V) (d z:D) (μ':M) (Q:VK),Ok K W→DR K W d x→f d W.μ=some (z,μ') →
  (∀ v W',W'.μ=μ'→Ok K W'→Step W W'→DR K W' z v→Q v W'.H)→r x W.H Q
noncomputable def vT (ev:EV):BV:=fun Γ μ=>(ev Γ μ).bind fun p=>match p.1 with
  | .bl b=>some (b,p.2)
  | _=>none
section
variable {X:Cx} {K:PySem.W.Frag} {a b c:Expr} {ea eb ec:EV} {pos:Pos}
theorem z01 (i:Nat) {x:Str} (hN:X.N[i]?=some x:=by rfl) (hv:Vis X.env.scope x:=by first | exact Or.inl rfl | exact Or.inr (Or.inl rfl) | exact Or.inr (Or.inr rfl)) (hd:(x==("__debug__" : Str))=false:=by decide)
    (hcd:(x==("__classdict__" : Str))=false:=by decide):PE X (.Name x pos) (tD K (z05 i)):=z0v (zma hN hv hd hcd) fun σ H Q h=>by
  refine el4 h fun W Γ d μ' eH ok en e q=>?_;subst eH
  unfold z05 at e
  split at e
  · rename_i d' hd
    cases e
    refine bq fun bG=>?_
    obtain ⟨v,hv,r⟩:=en.at_ i _ hd
    exact bG (⟨v,hv,q v W rfl ok .refl r⟩)
  · cases e
theorem zer {d:D} {v:V} (h:∀ W,DR K W d v):∀ σ H Q,tD K (vC d) σ H Q→tC v σ H Q:=fun σ H Q hh=>by
  refine bq fun bG=>?_
  obtain ⟨W,Γ,d,μ',rfl,ok,en,e,q⟩:=hh
  cases e
  exact bG (q v W rfl ok .refl (h W))
theorem z09 {i j}:PE X (.Constant (.int i) j pos) (tD K (vC (.int i))):=z0v zmd (zer fun _=>.int i)
theorem zaz {b j}:PE X (.Constant (.bool b) j pos) (tD K (vC (.bl b))):=z0v ztp (zer fun _=>.bl b)
theorem zp5 {x j}:PE X (.Constant (.str x) j pos) (tD K (vC (.str x))):=z0v zmb (zer fun _=>.str x)
theorem zp9 {x:Str} {d:D} {v:V} {u:Value} (hm:X.mg x=some u) (r:RelV v u) (h:∀ W,DR K W d v) (hg:Gl X x:=by rfl) (hd:(x==("__debug__" : Str))=false:=by decide):PE X (.Name x pos) (tD K (vC d)):=z0v (zo0 hg hm r hd) (zer h)
theorem z8l {r:R2} {f:D→D→M→Option (D×M)} (ra:R2A K r f):∀ σ H Q,tD K (v2 f ea eb) σ H Q→tOp r (tD K ea) (tD K eb) σ H Q:=fun σ H Q h=>by
  refine el4 h fun W Γ d μ' eH ok en e q=>?_;subst eH
  refine z04 e fun p1 e1 e=>?_
  refine z04 e fun p2 e2 e=>?_
  refine ⟨W,Γ,p1.1,p1.2,rfl,ok,en,e1,fun x W1 hμ ok1 s1 r1=>⟨W1,Γ,p2.1,p2.2,rfl,ok1,en.step ok s1,by rw [hμ];exact e2,fun y W2 hμ2 ok2 s2 r2=>?_⟩⟩
  exact ra W2 x y _ _ _ _ Q ok2 (r1.step ok1 s2) r2 (by rw [hμ2];exact e) fun v W3 hμ3 ok3 s3 r3=>q v W3 hμ3 ok3 ((s1.trans s2).trans s3) r3
theorem z6i {r:V→Hp→VK→Prop} {f:D→M→Option (D×M)} (ra:R1A K r f):∀ σ H Q,tD K (v1 f ea) σ H Q→(fun σ H Q=>tD K ea σ H fun x H1=>r x H1 Q:TE) σ H Q:=fun σ H Q h=>by
  refine el4 h fun W Γ d μ' eH ok en e q=>?_;subst eH
  refine z04 e fun p1 e1 e=>?_
  refine ⟨W,Γ,p1.1,p1.2,rfl,ok,en,e1,fun x W1 hμ ok1 s1 r1=>?_⟩
  exact ra W1 x _ _ _ Q ok1 r1 (by rw [hμ];exact e) fun v W3 hμ3 ok3 s3 r3=>q v W3 hμ3 ok3 (s1.trans s3) r3
theorem zoy {op:Operator} {r:R2} {f:D→D→M→Option (D×M)} (ho:OpR X (binaryOp op) r) (ra:R2A K r f) (ha:PE X a (tD K ea)) (hb:PE X b (tD K eb)):PE X (.BinOp a op b pos) (tD K (v2 f ea eb)):=z0v (ztm ho ha hb) (z8l ra)
theorem zk0 {op:CmpOp} {r:R2} {f:D→D→M→Option (D×M)} (ho:OpR X (compareOp op) r) (ra:R2A K r f) (ha:PE X a (tD K ea)) (hb:PE X b (tD K eb)) (hm:behindInMarks op b=false):PE X (.Compare a [op] [b] pos) (tD K (v2 f ea eb)):=z0v (zdv ho ha hb hm) (z8l ra)
theorem zh7 {t:TE} (h:∀ σ H Q,tD K ea σ H Q→t σ H Q):∀ σ H Q,tDB K (vT ea) σ H Q→zka t σ H Q:=fun σ H Q hh=>by
  refine bq fun bG=>?_
  obtain ⟨W,Γ,k,μ',rfl,ok,en,e,q⟩:=hh
  refine z04 e fun p1 e1 e=>?_
  refine bG (h σ _ _ ⟨W,Γ,p1.1,p1.2,rfl,ok,en,e1,fun x W1 hμ ok1 s1 r1=>?_⟩)
  split at e
  · rename_i k' hk
    cases e
    rw [hk] at r1
    cases r1
    exact ⟨_,rfl,q W1 hμ ok1 s1⟩
  · cases e
theorem zay {op:CmpOp} {r:R2} {f:D→D→M→Option (D×M)} (ho:OpR X (compareOp op) r) (ra:R2A K r f) (ha:PE X a (tD K ea)) (hb:PE X b (tD K eb)) (hm:behindInMarks op b=false):PT X (.Compare a [op] [b] pos) (tDB K (vT (v2 f ea eb))):=zbl (zhv ho ha hb hm) (zh7 (z8l ra))
end
noncomputable def fI0 (g:Int→Int→D):D→D→M→Option (D×M)
  | .int i,.int j,μ=>some (g i j,μ)
  | _,_,_=>none
noncomputable def fI (C:Int→Int→Prop) [∀ i j,Decidable (C i j)] (g:Int→Int→D):D→D→M→Option (D×M)
  | .int i,.int j,μ=>if C i j then some (g i j,μ) else none
  | _,_,_=>none
section
variable {K:PySem.W.Frag}
theorem zaq {g:Int→Int→V} {h:Int→Int→D} (hh:∀ W i j,DR K W (h i j) (g i j)):R2A K (rI0 g) (fI0 h):=by
  intro W x y d e z μ' Q ok r1 r2 hf q
  unfold fI0 at hf
  split at hf
  · cases hf;cases r1;cases r2;exact ⟨_,_,rfl,rfl,q _ W rfl ok .refl (hh W _ _)⟩
  · cases hf
theorem zsn {C:Int→Int→Prop} [∀ i j,Decidable (C i j)] {g:Int→Int→V} {h:Int→Int→D} (hh:∀ W i j,DR K W (h i j) (g i j)):R2A K (rI C g) (fI C h):=by
  intro W x y d e z μ' Q ok r1 r2 hf q
  unfold fI at hf
  split at hf
  · split at hf
    · rename_i hc;cases hf;cases r1;cases r2;exact ⟨_,_,rfl,rfl,hc,q _ W rfl ok .refl (hh W _ _)⟩
    · cases hf
  · cases hf
end
noncomputable instance {i j:Int}:Decidable (CMul i j):=by unfold CMul;infer_instance
noncomputable instance {i j:Int}:Decidable (zsj i j):=by unfold zsj;infer_instance
def zci (_ j:Int):Prop:=0<j∧j<2 ^ 200
def zdh (_ j:Int):Prop:=0<j
noncomputable instance {i j:Int}:Decidable (zci i j):=by unfold zci;infer_instance
noncomputable instance {i j:Int}:Decidable (zdh i j):=by unfold zdh;infer_instance
section
variable {X:Cx} {K:PySem.W.Frag} {a b c:Expr} {ea eb ec:EV} {pos:Pos}
noncomputable abbrev zrw:=fI0 fun i j=>.int (i - j)
noncomputable abbrev zvw:=fI CMul fun i j=>.int (i*j)
noncomputable abbrev zry:=fI zci fun i j=>.int (i / j)
noncomputable abbrev zjt:=fI zdh fun i j=>.int (i % j)
noncomputable abbrev zuz:=fI zsj fun i j=>.int (i ^ j.toNat)
noncomputable abbrev fLt:=fI0 fun i j=>.bl (decide (i<j))
noncomputable abbrev fLe:=fI0 fun i j=>.bl (decide (i≤j))
noncomputable abbrev fGt:=fI0 fun i j=>.bl (decide (j<i))
noncomputable abbrev fGe:=fI0 fun i j=>.bl (decide (j≤i))
theorem zn1 (ha:PE X a (tD K ea)) (hb:PE X b (tD K eb)):PE X (.BinOp a .Sub b pos) (tD K (v2 zrw ea eb)):=zoy zqz (zaq fun _ _ _=>.int _) ha hb
theorem zh3 (ha:PE X a (tD K ea)) (hb:PE X b (tD K eb)):PE X (.BinOp a .FloorDiv b pos) (tD K (v2 zry ea eb)):=zoy zl3 (zsn (C:=zci) fun _ _ _=>.int _) ha hb
theorem zcm (ha:PE X a (tD K ea)) (hb:PE X b (tD K eb)):PE X (.BinOp a .Mod b pos) (tD K (v2 zjt ea eb)):=zoy zr2 (zsn (C:=zdh) fun _ _ _=>.int _) ha hb
theorem zt1 (ha:PE X a (tD K ea)) (hb:PE X b (tD K eb)):PE X (.BinOp a .Pow b pos) (tD K (v2 zuz ea eb)):=zoy zr1 (zsn fun _ _ _=>.int _) ha hb
theorem zug (ha:PE X a (tD K ea)) (hb:PE X b (tD K eb)):PE X (.Compare a [.Gt] [b] pos) (tD K (v2 fGt ea eb)):=zk0 zr4 (zaq fun _ _ _=>.bl _) ha hb (z76 _)
theorem zuh (ha:PE X a (tD K ea)) (hb:PE X b (tD K eb)):PE X (.Compare a [.GtE] [b] pos) (tD K (v2 fGe ea eb)):=zk0 zr5 (zaq fun _ _ _=>.bl _) ha hb (z76 _)
theorem zh2 (ha:PE X a (tD K ea)) (hb:PE X b (tD K eb)):PT X (.Compare a [.Lt] [b] pos) (tDB K (vT (v2 fLt ea eb))):=zay zi3 (zaq fun _ _ _=>.bl _) ha hb (z76 _)
theorem zp8 (ha:PE X a (tD K ea)) (hb:PE X b (tD K eb)):PT X (.Compare a [.Gt] [b] pos) (tDB K (vT (v2 fGt ea eb))):=zay zr4 (zaq fun _ _ _=>.bl _) ha hb (z76 _)
theorem zjz (ha:PE X a (tD K ea)) (hb:PE X b (tD K eb)):PT X (.Compare a [.GtE] [b] pos) (tDB K (vT (v2 fGe ea eb))):=zay zr5 (zaq fun _ _ _=>.bl _) ha hb (z76 _)
noncomputable def zmk:D→M→Option (D×M)
  | .int i,μ=>some (.int (-i),μ)
  | _,_=>none
theorem zjx (ha:PE X a (tD K ea)):PE X (.UnaryOp .USub a pos) (tD K (v1 zmk ea)):=z0v (zqr zlt ha) (z6i (by
  intro W x d z μ' Q ok r1 hf q
  unfold zmk at hf
  split at hf
  · cases hf;cases r1;exact ⟨_,rfl,q _ W rfl ok .refl (.int _)⟩
  · cases hf))
noncomputable def zms (t u:BV):BV:=fun Γ μ=>(t Γ μ).bind fun p=>if p.1=true then u Γ p.2 else some (false,p.2)
noncomputable def bOr (t u:BV):BV:=fun Γ μ=>(t Γ μ).bind fun p=>if p.1=true then some (true,p.2) else u Γ p.2
noncomputable def zjv (t:BV):BV:=fun Γ μ=>(t Γ μ).bind fun p=>some (!p.1,p.2)
variable {ba bb:BV} {z5t:List Expr}
theorem zln:∀ σ H Q,tDB K (zms ba bb) σ H Q→zul (tDB K ba) (tDB K bb) σ H Q:=fun σ H Q h=>by
  refine el4 h fun W Γ k μ' eH ok en e q=>?_;subst eH
  refine z04 e fun p1 e1 e=>?_
  refine ⟨W,Γ,p1.1,p1.2,rfl,ok,en,e1,fun W1 hμ ok1 s1=>?_⟩
  split at e
  · rename_i hp;rw [if_pos hp];exact ⟨W1,Γ,k,μ',rfl,ok1,en.step ok s1,by rw [hμ];exact e,fun W2 hμ2 ok2 s2=>q W2 hμ2 ok2 (s1.trans s2)⟩
  · rename_i hp;cases e;rw [if_neg hp];exact q W1 hμ ok1 s1
theorem zos:∀ σ H Q,tDB K (bOr ba bb) σ H Q→tOr (tDB K ba) (tDB K bb) σ H Q:=fun σ H Q h=>by
  refine el4 h fun W Γ k μ' eH ok en e q=>?_;subst eH
  refine z04 e fun p1 e1 e=>?_
  refine ⟨W,Γ,p1.1,p1.2,rfl,ok,en,e1,fun W1 hμ ok1 s1=>?_⟩
  split at e
  · rename_i hp;cases e;rw [if_pos hp];exact q W1 hμ ok1 s1
  · rename_i hp;rw [if_neg hp];exact ⟨W1,Γ,k,μ',rfl,ok1,en.step ok s1,by rw [hμ];exact e,fun W2 hμ2 ok2 s2=>q W2 hμ2 ok2 (s1.trans s2)⟩
theorem zdl (ha:PT X a (tDB K ba)):PW X (.BoolOp .And [a] pos) (tDB K ba):=znq ha
theorem zgu (ha:PT X a (tDB K ba)):PW X (.BoolOp .Or [a] pos) (tDB K ba):=zqc ha
theorem zgv (ha:PT X a (tDB K ba)) (hb:PW X (.BoolOp .And (b::z5t) pos) (tDB K bb)):PW X (.BoolOp .And (a::b::z5t) pos) (tDB K (zms ba bb)):=zmu (zqd ha hb) zln
theorem zn0 (ha:PT X a (tDB K ba)) (hb:PW X (.BoolOp .Or (b::z5t) pos) (tDB K bb)):PW X (.BoolOp .Or (a::b::z5t) pos) (tDB K (bOr ba bb)):=zmu (ztj ha hb) zos
theorem z8i (ha:PT X a (tDB K ba)):PT X (.UnaryOp .Not a pos) (tDB K (zjv ba)):=zbl (zqg ha) fun σ H Q h=>by
  refine el4 h fun W Γ k μ' eH ok en e q=>?_;subst eH
  refine z04 e fun p1 e1 e=>?_
  cases e
  exact ⟨W,Γ,p1.1,p1.2,rfl,ok,en,e1,fun W1 hμ ok1 s1=>q W1 hμ ok1 s1⟩
noncomputable def zsl (ea eb:EV):EV:=fun Γ μ=>(ea Γ μ).bind fun p=>match p.1 with
  | .bl true=>eb Γ p.2
  | .bl false=>some (.bl false,p.2)
  | _=>none
noncomputable def vOr (ea eb:EV):EV:=fun Γ μ=>(ea Γ μ).bind fun p=>match p.1 with
  | .bl true=>some (.bl true,p.2)
  | .bl false=>eb Γ p.2
  | _=>none
noncomputable def zol:D→M→Option (D×M)
  | .bl b,μ=>some (.bl (!b),μ)
  | _,_=>none
theorem zn2 {op} (h:PE X a (tD K ea)):PE X (.BoolOp op [a] pos) (tD K ea):=zqu h
theorem zpa (ha:PE X a (tD K ea)) (hb:PE X (.BoolOp .And (b::z5t) pos) (tD K eb)):PE X (.BoolOp .And (a::b::z5t) pos) (tD K (zsl ea eb)):=z0v (zqy ha hb) fun σ H Q h=>by
  refine el4 h fun W Γ d μ' eH ok en e q=>?_;subst eH
  refine z04 e fun p1 e1 e=>?_
  refine ⟨W,Γ,p1.1,p1.2,rfl,ok,en,e1,fun x W1 hμ ok1 s1 r1=>?_⟩
  split at e
  · rename_i hp;rw [hp] at r1;cases r1;exact ⟨true,rfl,zu2 ⟨W1,Γ,d,μ',rfl,ok1,en.step ok s1,by rw [hμ];exact e,fun v W2 hμ2 ok2 s2 r2=>q v W2 hμ2 ok2 (s1.trans s2) r2⟩⟩
  · rename_i hp;rw [hp] at r1;cases r1;cases e;exact ⟨false,rfl,zu3 (q _ W1 hμ ok1 s1 (.bl _))⟩
  · cases e
theorem zv4 (ha:PE X a (tD K ea)) (hb:PE X (.BoolOp .Or (b::z5t) pos) (tD K eb)):PE X (.BoolOp .Or (a::b::z5t) pos) (tD K (vOr ea eb)):=z0v (ztl ha hb) fun σ H Q h=>by
  refine el4 h fun W Γ d μ' eH ok en e q=>?_;subst eH
  refine z04 e fun p1 e1 e=>?_
  refine ⟨W,Γ,p1.1,p1.2,rfl,ok,en,e1,fun x W1 hμ ok1 s1 r1=>?_⟩
  split at e
  · rename_i hp;rw [hp] at r1;cases r1;cases e;exact ⟨true,rfl,zu2 (q _ W1 hμ ok1 s1 (.bl _))⟩
  · rename_i hp;rw [hp] at r1;cases r1;exact ⟨false,rfl,zu3 ⟨W1,Γ,d,μ',rfl,ok1,en.step ok s1,by rw [hμ];exact e,fun v W2 hμ2 ok2 s2 r2=>q v W2 hμ2 ok2 (s1.trans s2) r2⟩⟩
  · cases e
theorem zp6 (ha:PE X a (tD K ea)):PE X (.UnaryOp .Not a pos) (tD K (v1 zol ea)):=z0v (zqv ha) (z6i (by
  intro W x d z μ' Q ok r1 hf q
  unfold zol at hf
  split at hf
  · cases hf;cases r1;exact ⟨_,rfl,q _ W rfl ok .refl (.bl _)⟩
  · cases hf))
end
noncomputable def optAll {α β:Type} (f:α→Option β):List α→Option (List β)
  | []=>some []
  | x::r=>(f x).bind fun y=>(optAll f r).bind fun ys=>some (y::ys)
section
variable {X:Cx} {K:PySem.W.Frag} {a b c e:Expr} {ea eb ec:EV} {pos p:Pos} {es:List Expr} {el:LV}
noncomputable def z1f:LV:=fun _ μ=>some ([],μ)
noncomputable def z03 (ea:EV) (el:LV):LV:=fun Γ μ=>(ea Γ μ).bind fun p=>(el Γ p.2).bind fun q=>some (p.1::q.1,q.2)
theorem z08:PA X [] (tDL K z1f):=zjo z4v fun σ H Q h=>by
  refine el4 h fun W Γ ds μ' eH ok en e q=>?_;subst eH
  cases e
  exact q [] W rfl ok .refl .nil
theorem zik:∀ σ H Q,tDL K (z03 ea el) σ H Q→zao (tD K ea) (tDL K el) σ H Q:=fun σ H Q h=>by
  refine el4 h fun W Γ ds μ' eH ok en e q=>?_;subst eH
  refine z04 e fun p1 e1 e=>?_
  refine z04 e fun p2 e2 e=>?_
  cases e
  exact ⟨W,Γ,p1.1,p1.2,rfl,ok,en,e1,fun x W1 hμ ok1 s1 r1=>⟨W1,Γ,p2.1,p2.2,rfl,ok1,en.step ok s1,by rw [hμ];exact e2,fun vs W2 hμ2 ok2 s2 r2=>q _ W2 hμ2 ok2 (s1.trans s2) (.cons (r1.step ok1 s2) r2)⟩⟩
theorem z00 (ha:PE X e (tD K ea)) (hr:PA X es (tDL K el)) (hs:starEach (e::es) X.env=(false,eval e X.env)::starEach es X.env:=by rfl):PA X (e::es) (tDL K (z03 ea el)):=zjo (z2p ha hr hs) zik
def RLA (K:PySem.W.Frag) (r:List V→Hp→VK→Prop) (f:List D→M→Option (D×M)):Prop:=∀ (W:Wd) (xs:List V) (ds:List D) (z:D) (μ':M) (Q:VK),Ok K W→DRs K W ds xs→f ds W.μ=some (z,μ') →
  (∀ v W',W'.μ=μ'→Ok K W'→Step W W'→DR K W' z v→Q v W'.H)→r xs W.H Q
noncomputable def vL (f:List D→M→Option (D×M)) (el:LV):EV:=fun Γ μ=>(el Γ μ).bind fun p=>f p.1 p.2
theorem zeq {r:List V→Hp→VK→Prop} {f:List D→M→Option (D×M)} (ra:RLA K r f):∀ σ H Q,tD K (vL f el) σ H Q→(fun σ H Q=>tDL K el σ H fun vs H1=>r vs H1 Q:TE) σ H Q:=fun σ H Q h=>by
  refine el4 h fun W Γ d μ' eH ok en e q=>?_;subst eH
  refine z04 e fun p1 e1 e=>?_
  exact ⟨W,Γ,p1.1,p1.2,rfl,ok,en,e1,fun vs W1 hμ ok1 s1 r1=>ra W1 vs _ _ _ Q ok1 r1 (by rw [hμ];exact e) fun v W3 hμ3 ok3 s3 r3=>q v W3 hμ3 ok3 (s1.trans s3) r3⟩
noncomputable def zav (ds:List D) (μ:M):Option (D×M):=if ds.length≤1000 then some (.lst ds,μ) else none
noncomputable def ziz (ds:List D) (μ:M):Option (D×M):=if ds.length≤1000 then some (.tup ds,μ) else none
noncomputable def zd4 (ds:List D) (μ:M):Option (D×M):=if ds.length≤1000 then some (.ref μ.length,μ++[some (.lst ds)]) else none
theorem zq6:RLA K (fun xs H1 Q=>xs.length≤sizeLine∧∀ p,H1 p=none→Q (.ref p) (upd H1 p (.lst xs))) zav:=by
  intro W xs ds z μ' Q ok r hf q
  unfold zav at hf
  split at hf
  · rename_i hl
    cases hf
    exact ⟨z6q (by rw [← r.length];omega),fun p hp=>q _ (W.lay p (.lst xs)) rfl (z5v ok hp) (z0w hp) (zac ok hp r)⟩
  · cases hf
theorem zq2:RLA K (fun xs H1 Q=>xs.length≤sizeLine∧∀ p,H1 p=none→Q (.ref p) (upd H1 p (.tup xs))) ziz:=by
  intro W xs ds z μ' Q ok r hf q
  unfold ziz at hf
  split at hf
  · rename_i hl
    cases hf
    exact ⟨z6q (by rw [← r.length];omega),fun p hp=>q _ (W.lay p (.tup xs)) rfl (z5v ok hp) (z0w hp) (zj5 ok hp r)⟩
  · cases hf
theorem zq4:RLA K (fun xs H1 Q=>xs.length≤sizeLine∧∀ p,H1 p=none→Q (.ref p) (upd H1 p (.lst xs))) zd4:=by
  intro W xs ds z μ' Q ok r hf q
  unfold zd4 at hf
  split at hf
  · rename_i hl
    cases hf
    exact ⟨z6q (by rw [← r.length];omega),fun p hp=>q _ (W.new p (.lst xs) (.lst ds)) rfl (zi5 ok hp ⟨xs,rfl,r⟩) (z4y ok hp) (zj6 ok)⟩
  · cases hf
theorem z6v (h:PA X es (tDL K el)):PE X (.List es pos) (tD K (vL zav el)):=z0v (zmc h) (zeq zq6)
theorem zcl (h:PA X es (tDL K el)):PE X (.List es pos) (tD K (vL zd4 el)):=z0v (zmc h) (zeq zq4)
theorem zgx {k} (h:PA X es (tDL K el)):PE X (.Tuple es k pos) (tD K (vL ziz el)):=z0v (zqs h) (zeq zq2)
noncomputable def fIx (x y:D) (μ:M):Option (D×M):=match y with
  | .int i=>match z92 μ x with
    | some ds=>(atI ds i).bind fun d=>some (d,μ)
    | none=>match zm1 x with
      | some ds=>(atI ds i).bind fun d=>some (d,μ)
      | none=>none
  | _=>none
theorem zte:R2A K (rIx K) fIx:=by
  intro W x y d e z μ' Q ok r1 r2 hf q
  unfold fIx at hf
  split at hf
  · cases r2
    split at hf
    · rename_i ds hd
      refine z04 hf fun u hu hf=>?_
      cases hf
      refine bq fun bG=>?_
      obtain ⟨a,vs,rfl,hs,hv⟩:=z54 ok hd r1
      obtain ⟨v,hv1,hv2⟩:=zji hv hu
      exact bG (.inl ⟨a,vs,_,v,rfl,rfl,hs,hv1,q v W rfl ok .refl hv2⟩)
    · split at hf
      · rename_i ds hd
        refine z04 hf fun u hu hf=>?_
        cases hf
        refine bq fun bG=>?_
        obtain ⟨a,vs,rfl,hs,hv⟩:=z6k hd r1
        obtain ⟨v,hv1,hv2⟩:=zji hv hu
        exact bG (.inr (.inl ⟨a,vs,_,v,rfl,rfl,hs,hv1,q v W rfl ok .refl hv2⟩))
      · cases hf
  · cases hf
theorem z6w (ha:PE X a (tD K ea)) (hb:PE X b (tD K eb)) (hs:zjl b:=by exact fun _ _=>rfl) (hK:X.K=K:=by rfl):PE X (.Subscript a b pos) (tD K (v2 fIx ea eb)):=by
  subst hK;exact z0v (ztn zrq ha hb hs) (z8l zte)
noncomputable abbrev OV:=G→M→Option (Option Int×M)
noncomputable def zc1:OV:=fun _ μ=>some (none,μ)
noncomputable def zcz (ea:EV):OV:=fun Γ μ=>(ea Γ μ).bind fun p=>match p.1 with
  | .int i=>some (some i,p.2)
  | _=>none
noncomputable def tDO (K:PySem.W.Frag) (ev:OV):TO:=fun σ H Q=>∃ (W:Wd) (Γ:G) (b:Option Int) (μ':M),W.H=H∧Ok K W∧EnvR K W Γ σ∧ev Γ W.μ=some (b,μ')∧∀ W',W'.μ=μ'→Ok K W'→Step W W'→Q b W'.H
theorem zmv {o:Option Expr} {t t':TO} (h:PO X o t) (hi:∀ σ H Q,t' σ H Q→t σ H Q):PO X o t':=fun pins s σ H Q I hw=>h pins s σ H Q I (hi _ _ _ hw)
theorem z7i:PO X none (tDO K zc1):=zmv znt fun σ H Q h=>by
  refine el4 h fun W Γ b μ' eH ok en e q=>?_;subst eH
  cases e
  exact q W rfl ok .refl
theorem z7h (h:PE X e (tD K ea)):PO X (some e) (tDO K (zcz ea)):=zmv (zns h) fun σ H Q h=>by
  refine el4 h fun W Γ b μ' eH ok en e q=>?_;subst eH
  refine z04 e fun p1 e1 e=>?_
  refine ⟨W,Γ,p1.1,p1.2,rfl,ok,en,e1,fun x W1 hμ ok1 s1 r1=>?_⟩
  split at e
  · rename_i i hi
    cases e
    rw [hi] at r1
    cases r1
    exact ⟨_,rfl,q W1 hμ ok1 s1⟩
  · cases e
noncomputable def zdi (xs:List D) (lo hi:Option Int):List D:=(xs.drop (HT.sIx xs.length 0 lo)).take (HT.sIx xs.length xs.length hi - HT.sIx xs.length 0 lo)
theorem zfg {W:Wd} {ds:List D} {vs:List V} (r:DRs K W ds vs) (lo hi:Option Int):DRs K W (zdi ds lo hi) (zju vs lo hi):=by
  unfold zdi zju;rw [r.length];exact (r.drop _).take _
noncomputable def fSl (x:D) (lo hi:Option Int) (μ:M):Option (D×M):=match z92 μ x with
  | some ds=>some (.lst (zdi ds lo hi),μ)
  | none=>match zm1 x with
    | some ds=>if HT.sIx ds.length 0 lo=0∧HT.sIx ds.length ds.length hi=ds.length then none else some (.tup (zdi ds lo hi),μ)
    | none=>none
noncomputable def vSl (ea:EV) (lo hi:OV):EV:=fun Γ μ=>(ea Γ μ).bind fun p=>(lo Γ p.2).bind fun l=>(hi Γ l.2).bind fun h=>fSl p.1 l.1 h.1 h.2
theorem zox {lo hi:Option Expr} {ol oh:OV} {p2:Pos} (he:PE X e (tD K ea)) (hl:PO X lo (tDO K ol)) (hu:PO X hi (tDO K oh)) (hK:X.K=K:=by rfl):PE X (.Subscript e (.Slice lo hi none p2) pos) (tD K (vSl ea ol oh)):=by
  subst hK
  refine z0v (zl2 (sl_list.or zpt) he hl hu) fun σ H Q h=>?_
  refine el4 h fun W Γ d μ' eH ok en e q=>?_;subst eH
  refine z04 e fun p1 e1 e=>?_
  refine z04 e fun p2 e2 e=>?_
  refine z04 e fun p3 e3 e=>?_
  refine ⟨W,Γ,p1.1,p1.2,rfl,ok,en,e1,fun x W1 hμ ok1 s1 r1=>⟨W1,Γ,p2.1,p2.2,rfl,ok1,en.step ok s1,by rw [hμ];exact e2,fun W2 hμ2 ok2 s2=>⟨W2,Γ,p3.1,p3.2,rfl,ok2,(en.step ok s1).step ok1 s2,by rw [hμ2];exact e3,fun W3 hμ3 ok3 s3=>?_⟩⟩⟩
  have r3:=(r1.step ok1 s2).step ok2 s3
  have st:=(s1.trans s2).trans s3
  unfold fSl at e
  rw [← hμ3] at e
  split at e
  · rename_i ds hd
    cases e
    refine bq fun bG=>?_
    obtain ⟨a,vs,rfl,hs,hv⟩:=z54 ok3 hd r3
    exact bG (.inl ⟨a,vs,rfl,hs,fun p hp=>q _ (W3.lay p (.lst (zju vs p2.1 p3.1))) rfl (z5v ok3 hp) (st.trans (z0w hp)) (zac ok3 hp (zfg hv _ _))⟩)
  · split at e
    · rename_i ds hd
      split at e
      · cases e
      · rename_i hn
        cases e
        refine bq fun bG=>?_
        obtain ⟨a,vs,rfl,hs,hv⟩:=z6k hd r3
        rw [hv.length] at hn
        exact bG (.inr ⟨a,vs,rfl,hs,hn,fun p hp=>q _ (W3.lay p (.tup (zju vs p2.1 p3.1))) rfl (z5v ok3 hp) (st.trans (z0w hp)) (zj5 ok3 hp (zfg hv _ _))⟩)
    · cases e
noncomputable def zrx (x:D) (μ:M):Option (D×M):=match z92 μ x with
  | some ds=>some (.lst ds.reverse,μ)
  | none=>none
theorem zt0 {p2 p3 p4:Pos} {j:Nat} (he:PE X a (tD K ea)) (hK:X.K=K:=by rfl):PE X (.Subscript a (.Slice none none (some (.UnaryOp .USub (.Constant (.int 1) j p4) p3)) p2) pos) (tD K (v1 zrx ea)):=z0v (zvz K he hK) (z6i (by
  intro W x d z μ' Q ok r1 hf q
  unfold zrx at hf
  split at hf
  · rename_i ds hd
    cases hf
    refine bq fun bG=>?_
    obtain ⟨a,vs,rfl,hs,hv⟩:=z54 ok hd r1
    exact bG (⟨a,vs,rfl,hs,fun p hp=>q _ (W.lay p (.lst vs.reverse)) rfl (z5v ok hp) (z0w hp) (zac ok hp hv.reverse)⟩)
  · cases hf))
noncomputable def zu7 (x y:D) (μ:M):Option (D×M):=(zjp μ x).bind fun xs=>(zjp μ y).bind fun ys=>if xs.length+ys.length≤1000000 then some (.lst (xs++ys),μ) else none
noncomputable def zuy (x y:D) (μ:M):Option (D×M):=(zjp μ x).bind fun xs=>match y with
  | .int k=>if -1000000≤k∧k≤1000000∧xs.length*k.toNat≤1000000 then some (.lst (List.replicate k.toNat xs).flatten,μ) else none
  | _=>none
noncomputable def z5m (x:D) (μ:M):Option (D×M):=match z92 μ x with
  | some ds=>some (.int ds.length,μ)
  | none=>match zm1 x with
    | some ds=>some (.int ds.length,μ)
    | none=>none
theorem z5l (ml:X.mg "len" = none) (ha:PE X a (tD K ea)) (hg:Gl X "len" := by rfl) (hs:starEach [a] X.env=[(false,eval a X.env)]:=by rfl) (hK:X.K=K:=by rfl):PE X (.Call (.Name "len" p) [a] [] pos) (tD K (v1 z5m ea)):=z0v (zw2 K ml ha hg hs hK) (z6i (by
  intro W x d z μ' Q ok r1 hf q
  unfold z5m at hf
  split at hf
  · rename_i ds hd
    cases hf
    obtain ⟨a,vs,rfl,hs,hv⟩:=z54 ok hd r1
    exact ⟨a,vs,rfl,.inl hs,by rw [← hv.length];exact q _ W rfl ok .refl (.int _)⟩
  · split at hf
    · rename_i ds hd
      cases hf
      obtain ⟨a,vs,rfl,hs,hv⟩:=z6k hd r1
      exact ⟨a,vs,rfl,.inr hs,by rw [← hv.length];exact q _ W rfl ok .refl (.int _)⟩
    · cases hf))
noncomputable def zkd (μ:M) (x:D):Option (List D):=match z92 μ x with
  | some ds=>some ds
  | none=>zm1 x
theorem zhh {W:Wd} {d:D} {ds:List D} {v:V} (ok:Ok K W) (h:zkd W.μ d=some ds) (r:DR K W d v):∃ a vs,v=.ref a∧(SqL K W.H a vs∨SqT K W.H a vs)∧DRs K W ds vs:=by
  unfold zkd at h
  split at h
  · rename_i ds' hd
    cases h
    refine bq fun bG=>?_
    obtain ⟨a,vs,e,hs,hv⟩:=z54 ok hd r
    exact bG (⟨a,vs,e,.inl hs,hv⟩)
  · obtain ⟨a,vs,e,hs,hv⟩:=z6k h r
    exact ⟨a,vs,e,.inr hs,hv⟩
noncomputable def zfe (x:D) (μ:M):Option (D×M):=(zkd μ x).bind fun ds=>some (.ref μ.length,μ++[some (.lst ds)])
theorem zn3 (ml:X.mg "list" = none) (ha:PE X a (tD K ea)) (hg:Gl X "list" := by rfl) (hs:starEach [a] X.env=[(false,eval a X.env)]:=by rfl) (hK:X.K=K:=by rfl):PE X (.Call (.Name "list" p) [a] [] pos) (tD K (v1 zfe ea)):=z0v (zu9 K ml ha hg hs hK) (z6i (by
  intro W x d z μ' Q ok r1 hf q
  refine z04 hf fun ds hd hf=>?_
  cases hf
  obtain ⟨a,vs,rfl,hs,hv⟩:=zhh ok hd r1
  exact ⟨a,vs,rfl,hs,fun p hp=>q _ (W.new p (.lst vs) (.lst ds)) rfl (zi5 ok hp ⟨vs,rfl,hv⟩) (z4y ok hp) (zj6 ok)⟩))
noncomputable abbrev zvx:=fI0 fun i j=>.int (if j<i then j else i)
noncomputable abbrev zsy:=fI0 fun i j=>.int (if j > i then j else i)
theorem znc {t:TE} {r:R2} {f:D→D→M→Option (D×M)} (ra:R2A K r f) (ht:∀ σ H Q,tOp r (tD K ea) (tD K eb) σ H Q→t σ H Q):∀ σ H Q,tD K (v2 f ea eb) σ H Q→t σ H Q:=fun σ H Q h=>ht σ H Q (z8l ra σ H Q h)
theorem ztw {x y:V} {g:Int→Int→V} {Q:VK} {H:Hp}:(∃ i j,[x,y]=[V.int i,V.int j]∧Q (g i j) H)=(∃ i j,x=V.int i∧y=V.int j∧Q (g i j) H):=propext ⟨fun ⟨i,j,e,q⟩=>by cases e;exact ⟨i,j,rfl,rfl,q⟩,fun ⟨i,j,e1,e2,q⟩=>by cases e1;cases e2;exact ⟨i,j,rfl,q⟩⟩
theorem zp7 (ml:X.mg "max" = none) (ha:PE X a (tD K ea)) (hb:PE X b (tD K eb)) (hc:X.calm=true:=by rfl) (hg:Gl X "max" := by rfl) (hs:starEach [a,b] X.env=[(false,eval a X.env),(false,eval b X.env)]:=by rfl) (hs2:starEach [b] X.env=[(false,eval b X.env)]:=by rfl) :
    PE X (.Call (.Name "max" p) [a,b] [] pos) (tD K (v2 zsy ea eb)):=z0v (zw1 ml ha hb hc hg hs hs2) (znc (zaq fun _ _ _=>.int _) fun σ H Q h=>by simp only [ztw (g:=fun i j=>V.int (if j > i then j else i))];exact h)
noncomputable def zgl:D→M→Option (D×M)
  | .bl k,μ=>some (.int (if k then 1 else 0),μ)
  | _,_=>none
theorem zlp (ml:X.mg "int" = none) (ha:PE X a (tD K ea)) (hg:Gl X "int" := by rfl) (hs:starEach [a] X.env=[(false,eval a X.env)]:=by rfl):PE X (.Call (.Name "int" p) [a] [] pos) (tD K (v1 zgl ea)):=z0v (zw3 ml ha hg hs) (z6i (by
  intro W x d z μ' Q ok r1 hf q
  unfold zgl at hf
  split at hf
  · cases hf;cases r1;exact ⟨_,rfl,q _ W rfl ok .refl (.int _)⟩
  · cases hf))
end
noncomputable def py:Nat→M→D→Option PyData
  | 0,_,_=>none
  | n+1,μ,d=>match d with
    | .non=>some .none
    | .bl b=>some (.bool b)
    | .int i=>some (.int i)
    | .str x=>some (.str x)
    | .lst xs=>(optAll (py n μ) xs).bind fun ys=>some (.list ys)
    | .scr xs=>(optAll (py n μ) xs).bind fun ys=>some (.list ys)
    | .tup xs=>(optAll (py n μ) xs).bind fun ys=>some (.tuple ys)
    | .gt xs=>(optAll (py n μ) xs).bind fun ys=>some (.tuple ys)
    | .ref k=>match μ[k]? with
      | some (some (.lst xs))=>(optAll (py n μ) xs).bind fun ys=>some (.list ys)
      | _=>none
theorem z6s {K:PySem.W.Frag} {W:Wd} {f:D→Option PyData} (h:∀ d v pd,DR K W d v→f d=some pd→Dp K W.H v pd):∀ {xs:List D} {vs:List V} {ys:List PyData},DRs K W xs vs→optAll f xs=some ys→Dps K W.H vs ys
  | _,_,_,.nil,e=>by cases e;exact .nil
  | _,_,_,.cons r t,e=>by
    refine z04 e fun y e1 e=>?_
    refine z04 e fun ys e2 e=>?_
    cases e
    exact .cons (h _ _ _ r e1) (z6s h t e2)
theorem zbv {K:PySem.W.Frag} {W:Wd} (ok:Ok K W):∀ (n:Nat) (d:D) (v:V) (pd:PyData),DR K W d v→py n W.μ d=some pd→Dp K W.H v pd
  | 0,_,_,_,_,e=>by cases e
  | n+1,d,v,pd,r,e=>by
    cases d with
    | non=>cases e;cases r;exact .non
    | bl b=>cases e;cases r;exact .bl b
    | int i=>cases e;cases r;exact .int i
    | str x=>cases e;cases r;exact .str x
    | lst xs =>
      refine z04 e fun ys e1 e=>?_
      cases e
      cases r with
      | lst h _ hs=>exact .lst (SqL.of h) (z6s (zbv ok n) hs e1)
    | scr xs =>
      refine z04 e fun ys e1 e=>?_
      cases e
      cases r with
      | scr h hs=>exact .lst h.seq (z6s (zbv ok n) hs e1)
    | tup xs =>
      refine z04 e fun ys e1 e=>?_
      cases e
      cases r with
      | tup h hs=>exact .tup (SqT.of h) (z6s (zbv ok n) hs e1)
    | gt xs =>
      refine z04 e fun ys e1 e=>?_
      cases e
      cases r with
      | gt h hs=>exact .tup h (z6s (zbv ok n) hs e1)
    | ref k =>
      simp only [py] at e
      split at e
      · rename_i xs hk
        refine z04 e fun ys e1 e=>?_
        cases e
        refine bq fun bG=>?_
        obtain ⟨a,vs,rfl,_,h,hs⟩:=zb9 ok hk r
        exact bG (.lst (SqL.of h) (z6s (zbv ok n) hs e1))
      · cases e
noncomputable def eqD (x y:D) (μ:M):Option Bool:=match x,y with
  | .int i,.int j=>some (decide (i=j))
  | .str a,.str b=>if PyData.strOk a&&PyData.strOk b then some (decide (a=b)) else none
  | x,y=>(py 65 μ x).bind fun d=>(py 65 μ y).bind fun e=>if (d.canLay0&&e.canLay0&&decide (d.depth≤64))=true then some (PyData.eqv d e) else none
theorem zmn {K:PySem.W.Frag} {W:Wd} {x y:D} {v u:V} {b:Bool} (ok:Ok K W) (rx:DR K W x v) (ry:DR K W y u) (h:eqD x y W.μ=some b):∃ d e,Dp K W.H v d∧Dp K W.H u e∧(d.canLay0&&e.canLay0&&decide (d.depth≤64))=true∧PyData.eqv d e=b:=by
  unfold eqD at h
  split at h
  · cases h
    cases rx;cases ry
    exact ⟨_,_,.int _,.int _,by simp [PyData.canLay0,PyData.depth],by simp [PyData.eqv];rw [Bool.eq_iff_iff];simp⟩
  · split at h
    · rename_i hs
      cases h
      cases rx;cases ry
      refine ⟨_,_,.str _,.str _,by simpa [PyData.canLay0,PyData.depth] using hs,by simp [PyData.eqv];rw [Bool.eq_iff_iff];simp⟩
    · cases h
  · refine z04 h fun d e1 h=>?_
    refine z04 h fun e e2 h=>?_
    split at h
    · rename_i hc
      cases h
      exact ⟨d,e,zbv ok _ _ _ _ rx e1,zbv ok _ _ _ _ ry e2,hc,rfl⟩
    · cases h
noncomputable def fEq (x y:D) (μ:M):Option (D×M):=(eqD x y μ).bind fun b=>some (.bl b,μ)
noncomputable def fNe (x y:D) (μ:M):Option (D×M):=(eqD x y μ).bind fun b=>some (.bl (!b),μ)
section
variable {X:Cx} {K:PySem.W.Frag} {a b c e:Expr} {ea eb ec:EV} {ba bb:BV} {pos p:Pos} {es:List Expr} {el:LV} {k:Nat}
theorem zq8:R2A K (fun x y H Q=>∃ d e,Dp K H x d∧Dp K H y e∧(d.canLay0&&e.canLay0&&decide (d.depth≤64))=true∧Q (.bl (PyData.eqv d e)) H) fEq:=by
  intro W x y d e z μ' Q ok r1 r2 hf q
  refine z04 hf fun b hb hf=>?_
  cases hf
  obtain ⟨d',e',h1,h2,h3,h4⟩:=zmn ok r1 r2 hb
  exact ⟨d',e',h1,h2,h3,by rw [h4];exact q _ W rfl ok .refl (.bl _)⟩
theorem zq5:R2A K (fun x y H Q=>∃ d e,Dp K H x d∧Dp K H y e∧(d.canLay0&&e.canLay0&&decide (d.depth≤64))=true∧Q (.bl (!PyData.eqv d e)) H) fNe:=by
  intro W x y d e z μ' Q ok r1 r2 hf q
  refine z04 hf fun b hb hf=>?_
  cases hf
  obtain ⟨d',e',h1,h2,h3,h4⟩:=zmn ok r1 r2 hb
  exact ⟨d',e',h1,h2,h3,by rw [h4];exact q _ W rfl ok .refl (.bl _)⟩
theorem zlq (hr:Room k X.A) (ha:PE X a (tD K ea)) (hb:PE X b (tD K eb)) (hK:X.K=K:=by rfl):PE X (.Compare a [.Eq] [b] pos) (tD K (v2 fEq ea eb)):=by
  subst hK;exact zk0 (zmf hr.units) zq8 ha hb (z76 _)
theorem zuf (hr:Room k X.A) (ha:PE X a (tD K ea)) (hb:PE X b (tD K eb)) (hK:X.K=K:=by rfl):PE X (.Compare a [.NotEq] [b] pos) (tD K (v2 fNe ea eb)):=by
  subst hK;exact zk0 (zme hr.units) zq5 ha hb (z76 _)
theorem zh4 (hr:Room k X.A) (ha:PE X a (tD K ea)) (hb:PE X b (tD K eb)) (hK:X.K=K:=by rfl):PT X (.Compare a [.Eq] [b] pos) (tDB K (vT (v2 fEq ea eb))):=by
  subst hK;exact zay (zmf hr.units) zq8 ha hb (z76 _)
theorem zh0 (hr:Room k X.A) (ha:PE X a (tD K ea)) (hb:PE X b (tD K eb)) (hK:X.K=K:=by rfl):PT X (.Compare a [.NotEq] [b] pos) (tDB K (vT (v2 fNe ea eb))):=by
  subst hK;exact zay (zme hr.units) zq5 ha hb (z76 _)
noncomputable def flV:D→Option V
  | .non=>some .non
  | .bl b=>some (.bl b)
  | .int i=>some (.int i)
  | .str x=>some (.str x)
  | _=>none
theorem zmj {W:Wd} {d:D} {v u:V} (h:flV d=some u) (r:DR K W d v):v=u∧zau u=true:=by
  cases d <;> cases h <;> cases r <;> exact ⟨rfl,rfl⟩
theorem ziv {W:Wd}:∀ {ds:List D} {vs us:List V},optAll flV ds=some us→DRs K W ds vs→vs=us∧us.all zau=true
  | _,_,_,h,.nil=>by cases h;exact ⟨rfl,rfl⟩
  | _,_,_,h,.cons r t=>by
    refine z04 h fun u h1 h=>?_
    refine z04 h fun us h2 h=>?_
    cases h
    refine bq fun bG=>?_
    obtain ⟨e1,f1⟩:=zmj h1 r
    obtain ⟨e2,f2⟩:=ziv h2 t
    exact bG (⟨by rw [e1,e2],by simp [f1,f2]⟩)
noncomputable def fIn (neg:Bool) (x y:D) (μ:M):Option (D×M):=(flV x).bind fun v=>(zkd μ y).bind fun ds=>(optAll flV ds).bind fun us=>some (.bl (if neg then !inV v us else inV v us),μ)
theorem znn {neg:Bool}:R2A K (rIn K neg) (fIn neg):=by
  intro W x y d e z μ' Q ok r1 r2 hf q
  refine z04 hf fun v h1 hf=>?_
  refine z04 hf fun ds h2 hf=>?_
  refine z04 hf fun us h3 hf=>?_
  cases hf
  refine bq fun bG=>?_
  obtain ⟨rfl,f1⟩:=zmj h1 r1
  obtain ⟨a,vs,rfl,hs,hv⟩:=zhh ok h2 r2
  obtain ⟨rfl,f2⟩:=ziv h3 hv
  exact bG (⟨a,_,rfl,hs,f1,f2,q _ W rfl ok .refl (.bl _)⟩)
theorem zv5 (ha:PE X a (tD K ea)) (hb:PE X b (tD K eb)) (hm:behindInMarks .In b=false:=by rfl) (hK:X.K=K:=by rfl):PE X (.Compare a [.In] [b] pos) (tD K (v2 (fIn false) ea eb)):=z0v (eIn K ha hb hm hK) (z8l znn)
theorem zgz (ha:PE X a (tD K ea)) (hb:PE X b (tD K eb)) (hm:behindInMarks .NotIn b=false:=by rfl) (hK:X.K=K:=by rfl):PE X (.Compare a [.NotIn] [b] pos) (tD K (v2 (fIn true) ea eb)):=z0v (zs8 K ha hb hm hK) (z8l znn)
theorem zjw (ha:PE X a (tD K ea)) (hb:PE X b (tD K eb)) (hm:behindInMarks .NotIn b=false:=by rfl) (hK:X.K=K:=by rfl):PT X (.Compare a [.NotIn] [b] pos) (tDB K (vT (v2 (fIn true) ea eb))):=zbl (zpr K ha hb hm hK) (zh7 (z8l znn))
noncomputable def tru (μ:M):D→Option Bool
  | .non=>some false
  | .bl b=>some b
  | .int i=>some (i != 0)
  | .tup ds=>some (!ds.isEmpty)
  | .gt ds=>some (!ds.isEmpty)
  | .lst ds=>some (!ds.isEmpty)
  | .scr ds=>some (!ds.isEmpty)
  | .ref k=>match μ[k]? with
    | some (some (.lst ds))=>some (!ds.isEmpty)
    | some (some (.dK kvs))=>some (!kvs.isEmpty)
    | _=>none
  | .str _=>none
theorem DRs.empty {W:Wd} {ds:List D} {vs:List V} (r:DRs K W ds vs):ds.isEmpty=vs.isEmpty:=by cases r <;> rfl
theorem zpq {W:Wd} {d:D} {v:V} {b:Bool} (ok:Ok K W) (h:tru W.μ d=some b) (r:DR K W d v):zub K v W.H b:=by
  cases d with
  | non=>cases h;cases r;rfl
  | bl k=>cases h;cases r;rfl
  | int i=>cases h;cases r;rfl
  | str x=>cases h
  | tup ds =>
    cases h
    cases r with
    | tup h hs=>exact .inr (.inl ⟨_,SqT.of h,by rw [DRs.empty hs]⟩)
  | gt ds =>
    cases h
    cases r with
    | gt h hs=>exact .inr (.inl ⟨_,h,by rw [DRs.empty hs]⟩)
  | lst ds =>
    cases h
    cases r with
    | lst h _ hs=>exact .inl ⟨_,SqL.of h,by rw [DRs.empty hs]⟩
  | scr ds =>
    cases h
    cases r with
    | scr h hs=>exact .inl ⟨_,h.seq,by rw [DRs.empty hs]⟩
  | ref k =>
    simp only [tru] at h
    split at h
    · rename_i ds hk
      cases h
      refine bq fun bG=>?_
      obtain ⟨a,vs,rfl,_,hh,hs⟩:=zb9 ok hk r
      exact bG (.inl ⟨_,SqL.of hh,by rw [DRs.empty hs]⟩)
    · rename_i kvs hk
      cases h
      cases r with
      | ref ha =>
        obtain ⟨a',ho,h1,h2,vs,rfl,r⟩:=ok.at_ k _ hk
        rw [ha] at h1
        cases h1
        exact .inr (.inr ⟨vs,h2,by cases r <;> rfl⟩)
    · cases h
noncomputable def zgp (ea:EV):BV:=fun Γ μ=>(ea Γ μ).bind fun p=>(tru p.2 p.1).bind fun b=>some (b,p.2)
theorem z4t (ha:PE X a (tD K ea)) (he:∀ whole,isTrue a X.env whole=(do let v ← whole;standAt a.pos;holding [v] (truthy v)):=by intro _;rfl) (hK:X.K=K:=by rfl):PT X a (tDB K (zgp ea)):=by
  subst hK
  refine zbl (zkw ha he) fun σ H Q h=>?_
  refine el4 h fun W Γ b μ' eH ok en e q=>?_;subst eH
  refine z04 e fun p1 e1 e=>?_
  refine z04 e fun b1 e2 e=>?_
  cases e
  exact ⟨W,Γ,p1.1,p1.2,rfl,ok,en,e1,fun x W1 hμ ok1 s1 r1=>⟨b,zpq ok1 (by rw [hμ];exact e2) r1,q W1 hμ ok1 s1⟩⟩
noncomputable def vFrz (ea:EV):EV:=fun Γ μ=>(ea Γ μ).bind fun p=>match p.1 with
  | .ref k=>match p.2[k]? with
    | some (some (.lst ds))=>some (.lst ds,p.2.set k none)
    | _=>none
  | _=>none
noncomputable def spM (K:PySem.W.Frag) (f:List D→M→Option (D×M)):Sp:=fun vs H Q _=>∃ (W:Wd) (ds:List D) (d:D) (μ':M),W.H=H∧Ok K W∧DRs K W ds vs∧f ds W.μ=some (d,μ')∧∀ v W',W'.μ=μ'→Ok K W'→Step W W'→DR K W' d v→Q v W'.H
theorem z53 {x:Str} {ps:List Str} {f:List D→M→Option (D×M)} {e:Expr} (Df':Df X.prog X.w X.K X.mg X.base k x ps (spM K f)) (hr:Room k X.A) (ha:PA X (e::es) (tDL K el)) (hg:Gl X x:=by rfl) (hdb:(x==("__debug__" : Str))=false:=by decide)
    (he:starEach (e::es) X.env=(false,eval e X.env)::starEach es X.env:=by rfl) (hpl:(backTo pos (starEach es X.env)).any (·.1)=false:=by rfl):PE X (.Call (.Name x p) (e::es) [] pos) (tD K (vL f el)):=z0v (zto Df' hr ha hg hdb he hpl) (zeq (by
  intro W xs ds z μ' Q ok r hf q
  exact ⟨W,ds,z,μ',rfl,ok,r,hf,q⟩))
noncomputable def v2l (f:D→D→M→Option (D×M)) (ea eb:EV):EV:=fun Γ μ=>(ea Γ μ).bind fun p=>(z92 p.2 p.1).bind fun _=>(eb Γ p.2).bind fun q=>f p.1 q.1 q.2
noncomputable def v1l (f:D→M→Option (D×M)) (ea:EV):EV:=fun Γ μ=>(ea Γ μ).bind fun p=>(z92 p.2 p.1).bind fun _=>f p.1 p.2
theorem zh9 {W:Wd} {d:D} {ds:List D} {v:V} (ok:Ok K W) (h:z92 W.μ d=some ds) (r:DR K W d v):tyV K "list" v W.H:=by
  refine bq fun bG=>?_
  obtain ⟨a,vs,rfl,hs,_⟩:=z54 ok h r
  exact bG (.inl ⟨rfl,vs,hs⟩)
def RMA (K:PySem.W.Frag) (r:V→List V→Hp→VK→Prop) (f:D→D→M→Option (D×M)):Prop:=∀ (W:Wd) (x y:V) (d e z:D) (μ':M) (Q:VK),Ok K W→DR K W d x→DR K W e y→f d e W.μ=some (z,μ') →
  (∀ v W',W'.μ=μ'→Ok K W'→Step W W'→DR K W' z v→Q v W'.H)→r x [y] W.H Q
def zwb (K:PySem.W.Frag) (r:V→List V→Hp→VK→Prop) (f:D→M→Option (D×M)):Prop:=∀ (W:Wd) (x:V) (d z:D) (μ':M) (Q:VK),Ok K W→DR K W d x→f d W.μ=some (z,μ') →
  (∀ v W',W'.μ=μ'→Ok K W'→Step W W'→DR K W' z v→Q v W'.H)→r x [] W.H Q
theorem zhe {eo:EV} {r:V→List V→Hp→VK→Prop} {f:D→D→M→Option (D×M)} (ra:RMA K r f):∀ σ H Q,tD K (v2l f eo ea) σ H Q→tBM K "list" r (tD K eo) (zao (tD K ea) zkc) σ H Q:=fun σ H Q h=>by
  refine el4 h fun W Γ d μ' eH ok en e q=>?_;subst eH
  refine z04 e fun p1 e1 e=>?_
  refine z04 e fun ds e0 e=>?_
  refine z04 e fun p2 e2 e=>?_
  refine ⟨W,Γ,p1.1,p1.2,rfl,ok,en,e1,fun x W1 hμ ok1 s1 r1=>⟨zh9 ok1 (by rw [hμ];exact e0) r1,W1,Γ,p2.1,p2.2,rfl,ok1,en.step ok s1,by rw [hμ];exact e2,fun y W2 hμ2 ok2 s2 r2=>?_⟩⟩
  exact ra W2 x y _ _ _ _ Q ok2 (r1.step ok1 s2) r2 (by rw [hμ2];exact e) fun v W3 hμ3 ok3 s3 r3=>q v W3 hμ3 ok3 ((s1.trans s2).trans s3) r3
theorem zna {eo:EV} {r:V→List V→Hp→VK→Prop} {f:D→M→Option (D×M)} (ra:zwb K r f):∀ σ H Q,tD K (v1l f eo) σ H Q→ztb K "list" r (tD K eo) σ H Q:=fun σ H Q h=>by
  refine el4 h fun W Γ d μ' eH ok en e q=>?_;subst eH
  refine z04 e fun p1 e1 e=>?_
  refine z04 e fun ds e0 e=>?_
  refine ⟨W,Γ,p1.1,p1.2,rfl,ok,en,e1,fun x W1 hμ ok1 s1 r1=>⟨zh9 ok1 (by rw [hμ];exact e0) r1,?_⟩⟩
  exact ra W1 x _ _ _ Q ok1 r1 (by rw [hμ];exact e) fun v W3 hμ3 ok3 s3 r3=>q v W3 hμ3 ok3 (s1.trans s3) r3
noncomputable def onL (x:D) (μ:M) (g:List D→Option (D×List D)):Option (D×M):=match x with
  | .ref k=>match μ[k]? with
    | some (some (.lst ds))=>(g ds).bind fun r=>some (r.1,μ.set k (some (.lst r.2)))
    | _=>none
  | _=>none
theorem zf2 {W:Wd} {x z:D} {v:V} {μ':M} {g:List D→Option (D×List D)} (ok:Ok K W) (h:onL x W.μ g=some (z,μ')) (r:DR K W x v) :
    ∃ k a ds vs ds',x=.ref k∧v=.ref a∧W.μ[k]?=some (some (.lst ds))∧W.ρ[k]?=some a∧W.H a=some (.lst vs)∧DRs K W ds vs∧g ds=some (z,ds')∧μ'=W.μ.set k (some (.lst ds')):=by
  unfold onL at h
  split at h
  · rename_i k
    split at h
    · rename_i ds hk
      refine z04 h fun p e1 e=>?_
      cases e
      refine bq fun bG=>?_
      obtain ⟨a,vs,rfl,ha,hh,hs⟩:=zb9 ok hk r
      exact bG (⟨k,a,ds,vs,p.2,rfl,rfl,hk,ha,hh,hs,e1,rfl⟩)
    · cases h
  · cases h
theorem zbw {W:Wd} {k:Nat} {a:Addr} {ds ds':List D} {vs vs':List V} (ok:Ok K W) (hk:W.μ[k]?=some (some (.lst ds))) (ha:W.ρ[k]?=some a) (hs:DRs K W ds' vs') :
    Ok K (W.put k a (.lst vs') (.lst ds'))∧Step W (W.put k a (.lst vs') (.lst ds')):=⟨zr6 ok hk ha ⟨vs',rfl,hs⟩,z6z hk ha⟩
noncomputable def zea (x y:D) (μ:M):Option (D×M):=onL x μ fun ds=>if ds.length<1000000 then some (.non,ds++[y]) else none
theorem zh5 {o:Expr} {eo:EV} {apos:Pos} (ho:PE X o (tD K eo)) (ha:PE X a (tD K ea)) (hs:starEach [a] X.env=[(false,eval a X.env)]:=by rfl)
    (hbase:attributeBase o "append" X.env (eval o X.env)=eval o X.env:=by rfl) (hline:(apos.endLine==pos.line)=true:=by rfl) (hK:X.K=K:=by rfl)
    (hfew:((backTo pos (starEach [a] X.env)).all (fun x=>!x.1)&&(backToKw pos (keywordEach [] X.env)).all (fun x=>x.1.isSome)
      && decide ([a].length+([]:List Keyword).length+(if ([]:List Keyword).isEmpty then 0 else 1)<30))=true:=by rfl) :
    PE X (.Call (.Attribute o "append" apos) [a] [] pos) (tD K (v2l zea eo ea)):=z0v (zw4 K ho ha hs hbase hline hK hfew) (zhe (by
  intro W x y d e z μ' Q ok r1 r2 hf q
  obtain ⟨k,a,ds,vs,ds',rfl,rfl,hk,ha,hh,hs,hg,rfl⟩:=zf2 ok hf r1
  split at hg
  · rename_i hl
    cases hg
    obtain ⟨o1,s1⟩:=zbw (vs:=vs) (vs':=vs++[y]) ok hk ha (hs.append (.cons r2 .nil))
    exact ⟨a,vs,y,rfl,rfl,hh,zig (by rw [← hs.length];omega),q _ _ rfl o1 s1 .non⟩
  · cases hg))
noncomputable def zsx (x:D) (μ:M):Option (D×M):=onL x μ fun ds=>(ds[ds.length - 1]?).bind fun d=>some (d,ds.dropLast)
theorem zt2 {o:Expr} {eo:EV} {apos:Pos} (ho:PE X o (tD K eo)) (hbase:attributeBase o "pop" X.env (eval o X.env)=eval o X.env:=by rfl) (hline:(apos.endLine==pos.line)=true:=by rfl) (hK:X.K=K:=by rfl) :
    PE X (.Call (.Attribute o "pop" apos) [] [] pos) (tD K (v1l zsx eo)):=z0v (zw0 K ho hbase hline hK) (zna (by
  intro W x d z μ' Q ok r1 hf q
  obtain ⟨k,a,ds,vs,ds',rfl,rfl,hk,ha,hh,hs,hg,rfl⟩:=zf2 ok hf r1
  refine z04 hg fun d hd hg=>?_
  cases hg
  obtain ⟨v,hv,r⟩:=hs.get hd
  obtain ⟨o1,s1⟩:=zbw (vs:=vs) (vs':=vs.dropLast) ok hk ha hs.dropLast
  exact ⟨a,vs,v,rfl,rfl,hh,by rw [← hs.length];exact hv,q _ _ rfl o1 s1 (r.step ok s1)⟩))
noncomputable def zaa (x y:D) (μ:M):Option (D×M):=match y with
  | .int i=>onL x μ fun ds=>if 0≤i∧i<1000000 then (ds[i.toNat]?).bind fun d=>some (d,ds.eraseIdx i.toNat) else none
  | _=>none
theorem zgy {o:Expr} {eo:EV} {apos:Pos} (ho:PE X o (tD K eo)) (ha:PE X a (tD K ea)) (hs:starEach [a] X.env=[(false,eval a X.env)]:=by rfl)
    (hbase:attributeBase o "pop" X.env (eval o X.env)=eval o X.env:=by rfl) (hline:(apos.endLine==pos.line)=true:=by rfl) (hK:X.K=K:=by rfl)
    (hfew:((backTo pos (starEach [a] X.env)).all (fun x=>!x.1)&&(backToKw pos (keywordEach [] X.env)).all (fun x=>x.1.isSome)
      && decide ([a].length+([]:List Keyword).length+(if ([]:List Keyword).isEmpty then 0 else 1)<30))=true:=by rfl) :
    PE X (.Call (.Attribute o "pop" apos) [a] [] pos) (tD K (v2l zaa eo ea)):=z0v (zs7 K ho ha hs hbase hline hK hfew) (zhe (by
  intro W x y d e z μ' Q ok r1 r2 hf q
  unfold zaa at hf
  split at hf
  · rename_i i
    cases r2
    obtain ⟨k,a,ds,vs,ds',rfl,rfl,hk,ha,hh,hs,hg,rfl⟩:=zf2 ok hf r1
    split at hg
    · rename_i hl
      refine z04 hg fun d hd hg=>?_
      cases hg
      refine bq fun bG=>?_
      obtain ⟨v,hv,r⟩:=hs.get hd
      obtain ⟨o1,s1⟩:=zbw (vs:=vs) (vs':=vs.eraseIdx i.toNat) ok hk ha (hs.erase _)
      have hlt:=(List.getElem?_eq_some_iff.mp hv).1
      exact bG (⟨a,vs,i,i.toNat,v,rfl,rfl,hh,by omega,by omega,zpu hl.1 (by omega),hv,q _ _ rfl o1 s1 (r.step ok s1)⟩)
    · cases hg
  · cases hf))
end
open Classical in
noncomputable def chk {α:Type} (c:Prop) (x:Option α):Option α:=if c then x else none
theorem zfk {α:Type} {c:Prop} {x:Option α} {a:α} (h:chk c x=some a):c∧x=some a:=by
  unfold chk at h
  split at h
  · exact ⟨by assumption,h⟩
  · cases h
theorem zbj {α:Type} {c:Prop} {x:Option α} {a:α} {Z:Prop} (h:chk c x=some a) (k:c→x=some a→Z):Z:=k (zfk h).1 (zfk h).2
theorem z8c {α:Type} {c:Prop} {x:Option α} (h:c):chk c x=x:=by unfold chk;rw [if_pos h]
noncomputable abbrev GV:=D→G→M→Option (G×M)
noncomputable abbrev GsV:=List D→G→M→Option (G×M)
def tDG (K:PySem.W.Frag) (gv:GV):TG:=fun v σ H Q=>∃ (W:Wd) (Γ:G) (d:D) (Γ':G) (μ':M),W.H=H∧Ok K W∧EnvR K W Γ σ∧DR K W d v∧gv d Γ W.μ=some (Γ',μ')∧∀ W' σ',W'.μ=μ'→Ok K W'→Step W W'→EnvR K W' Γ' σ'→Q σ' W'.H
noncomputable def zsm (K:PySem.W.Frag) (gv:GsV):TGs:=fun vs σ H Q=>∃ (W:Wd) (Γ:G) (ds:List D) (Γ':G) (μ':M),W.H=H∧Ok K W∧EnvR K W Γ σ∧DRs K W ds vs∧gv ds Γ W.μ=some (Γ',μ')∧∀ W' σ',W'.μ=μ'→Ok K W'→Step W W'→EnvR K W' Γ' σ'→Q σ' W'.H
section
variable {X:Cx} {K:PySem.W.Frag} {pos:Pos}
theorem zjn {tg:Expr} {t t':TG} (h:PG X tg t) (hi:∀ v σ H Q,t' v σ H Q→t v σ H Q):PG X tg t':=fun pins s σ H v u Q I r hw=>h pins s σ H v u Q I r (hi _ _ _ _ hw)
theorem zjm {tg:List Expr} {t t':TGs} (h:PGs X tg t) (hi:∀ v σ H Q,t' v σ H Q→t v σ H Q):PGs X tg t':=fun pins s σ H v u Q I r hw=>h pins s σ H v u Q I r (hi _ _ _ _ hw)
theorem EnvR.set {W:Wd} {Γ:G} {σ:St} (e:EnvR K W Γ σ) {d:D} {v:V} (r:DR K W d v) (i:Nat):EnvR K W (Γ.set i (some d)) (σ.set i (some v)) where
  len:=by simp [e.len]
  at_ j d' h:=by
    by_cases hj:j=i
    · subst hj
      have hlt:j<Γ.length:=by have:=(List.getElem?_eq_some_iff.mp h).1;simpa using this
      simp [hlt] at h
      subst h
      exact ⟨v,by have:=e.len;simp [show j<σ.length by omega],r⟩
    · rw [List.getElem?_set_ne (Ne.symm hj)] at h
      obtain ⟨u,hu,q⟩:=e.at_ j d' h
      exact ⟨u,by rw [List.getElem?_set_ne (Ne.symm hj)];exact hu,q⟩
noncomputable def z02 (i:Nat):GV:=fun d Γ μ=>some (Γ.set i (some d),μ)
theorem zgg {i:Nat}:∀ v σ H Q,tDG K (z02 i) v σ H Q→zoi i v σ H Q:=fun v σ H Q h=>by
  refine bq fun bG=>?_
  obtain ⟨W,Γ,d,Γ',μ',rfl,ok,en,r,e,q⟩:=h
  cases e
  exact bG (q W _ rfl ok .refl (en.set r i))
theorem z0b {i:Nat} {x:Str} (hN:X.N.Nodup) (hi:X.N[i]?=some x) (hx:Loc X.env.scope x) (hf:X.fn x=true∨X.env.scope.names.lookup x=some .local:=by first | exact .inl rfl | exact .inr rfl | assumption):PG X (.Name x pos) (tDG K (z02 i)):=zjn (zny hN hi hx hf) zgg
noncomputable def zc9:GsV:=fun ds Γ μ=>match ds with
  | []=>some (Γ,μ)
  | _::_=>none
noncomputable def z32 (g:GV) (gs:GsV):GsV:=fun ds Γ μ=>match ds with
  | []=>none
  | d::r=>(g d Γ μ).bind fun p=>gs r p.1 p.2
theorem z7k:PGs X [] (zsm K zc9):=zjm znx fun v σ H Q h=>by
  obtain ⟨W,Γ,d,Γ',μ',rfl,ok,en,r,e,q⟩:=h
  cases r with
  | nil=>cases e;exact ⟨rfl,q W _ rfl ok .refl en⟩
  | cons _ _=>cases e
theorem z19 {e:Expr} {es:List Expr} {g:GV} {gs:GsV} (h1:PG X e (tDG K g)) (h2:PGs X es (zsm K gs))
    (hs:(assignEach (e::es) X.env).map (·.2)=assign e X.env::(assignEach es X.env).map (·.2):=by rfl):PGs X (e::es) (zsm K (z32 g gs)):=zjm (zl0 h1 h2 hs) fun v σ H Q h=>by
  obtain ⟨W,Γ,d,Γ',μ',rfl,ok,en,r,e,q⟩:=h
  cases r with
  | nil=>cases e
  | cons r rs =>
    refine z04 e fun p1 e1 e=>?_
    exact ⟨_,_,rfl,W,Γ,_,p1.1,p1.2,rfl,ok,en,r,e1,fun W1 σ1 hμ ok1 s1 en1=>⟨W1,p1.1,_,Γ',μ',rfl,ok1,en1,rs.step ok s1,by rw [hμ];exact e,fun W2 σ2 hμ2 ok2 s2 en2=>q W2 σ2 hμ2 ok2 (s1.trans s2) en2⟩⟩
noncomputable def z7a (n:Nat) (gs:GsV):GV:=fun d Γ μ=>(zm1 d).bind fun ds=>if ds.length=n then gs ds Γ μ else none
theorem zax {es:List Expr} {k:Nat} {gs:GsV} {n:Nat} (h:PGs X es (zsm K gs)) (hc:X.calm=true:=by rfl) (hn:(assignEach es X.env).length=n:=by rfl) (hst:(assignEach es X.env).findIdx? (·.1)=none:=by rfl) (hK:X.K=K:=by rfl):PG X (.Tuple es k pos) (tDG K (z7a n gs)):=zjn (gT K h hc hn hst hK) fun v σ H Q hh=>by
  obtain ⟨W,Γ,d,Γ',μ',rfl,ok,en,r,e,q⟩:=hh
  refine z04 e fun ds e1 e=>?_
  split at e
  · rename_i hl
    obtain ⟨a,vs,rfl,hs,hv⟩:=z6k e1 r
    exact ⟨a,vs,rfl,hs,by rw [← hv.length];exact hl,W,Γ,ds,Γ',μ',rfl,ok,en,hv,e,q⟩
  · cases e
noncomputable def zir (eo ei:EV):GV:=fun d Γ μ=>(eo Γ μ).bind fun p=>(ei Γ p.2).bind fun q=>match q.1 with
  | .int j=>(onL p.1 q.2 fun ds=>(ixN ds.length j).bind fun jj=>some (.non,ds.set jj d)).bind fun r=>some (Γ,r.2)
  | _=>none
theorem zlo {o i:Expr} {eo ei:EV} (ho:PE X o (tD K eo)) (hi:PE X i (tD K ei)) (ha:∀ v,assign (.Subscript o i pos) X.env v=(do
      let ov ← holding [v] (eval o X.env)
      let iv ← holding [v,ov] (eval i X.env)
      standAt pos
      holding [v,ov,iv] (setItem ov iv v)
      release [v,ov,iv] []):=by intro _;rfl):PG X (.Subscript o i pos) (tDG K (zir eo ei)):=zjn (zqq ho hi zkk ha) fun v σ H Q hh=>by
  obtain ⟨W,Γ,d,Γ',μ',rfl,ok,en,r,e,q⟩:=hh
  refine z04 e fun p1 e1 e=>?_
  refine z04 e fun p2 e2 e=>?_
  refine ⟨W,Γ,p1.1,p1.2,rfl,ok,en,e1,fun x W1 hμ ok1 s1 r1=>⟨W1,Γ,p2.1,p2.2,rfl,ok1,en.step ok s1,by rw [hμ];exact e2,fun y W2 hμ2 ok2 s2 r2=>?_⟩⟩
  split at e
  · rename_i j hj
    rw [hj] at r2
    cases r2
    obtain ⟨⟨z3,μ3⟩,e3,e⟩:=bnd e
    cases e
    rw [← hμ2] at e3
    obtain ⟨k,a,ds,vs,ds',h1,rfl,hk,ha,hh,hs,hg,h2⟩:=zf2 ok2 e3 (r1.step ok1 s2)
    refine z04 hg fun jj hjj hg=>?_
    cases hg
    obtain ⟨o1,st1⟩:=zbw (vs:=vs) (vs':=vs.set jj v) ok2 hk ha (hs.set ((r.step ok s1).step ok1 s2) jj)
    exact ⟨a,vs,j,jj,rfl,rfl,hh,by rw [← hs.length];exact hjj,q _ _ h2.symm o1 ((s1.trans s2).trans st1) (((en.step ok s1).step ok1 s2).step ok2 st1)⟩
  · cases e
end
section
variable {X:Cx} {K:PySem.W.Frag} {pos:Pos} {e:Expr} {ea:EV} {st:Stmt} {z5t:List Stmt} {sa sb:SV}
noncomputable def sNx:SV:=fun Γ μ=>some (.nx,Γ,μ)
noncomputable def z1i (a b:SV):SV:=fun Γ μ=>(a Γ μ).bind fun o=>match o.1 with
  | .nx=>b o.2.1 o.2.2
  | .bk=>some (.bk,o.2)
  | .ct=>some (.ct,o.2)
  | .rt d=>some (.rt d,o.2)
theorem z2t:PSs X [] (tDS K sNx):=zaj znr fun D σ H h=>by
  refine el5 h fun W Γ o Γ' μ' eH ok en e q=>?_;subst eH
  cases e
  exact q W σ rfl ok .refl en
theorem z0c (h1:PS X st (tDS K sa)):PSs X [st] (tDS K sa):=zhw h1
theorem z07 (h1:PS X st (tDS K sa)) (h2:PSs X z5t (tDS K sb)):PSs X (st::z5t) (tDS K (z1i sa sb)):=zaj (zey h1 h2) fun D σ H h=>by
  refine el5 h fun W Γ o Γ' μ' eH ok en e q=>?_;subst eH
  refine bq fun bG=>?_
  obtain ⟨⟨o1,Γ1,μ1⟩,e1,e⟩:=bnd e
  refine bG (⟨W,Γ,o1,Γ1,μ1,rfl,ok,en,e1,fun W1 σ1 hμ ok1 s1 en1=>?_⟩)
  cases o1 with
  | nx=>exact ⟨W1,Γ1,o,Γ',μ',rfl,ok1,en1,by rw [hμ];exact e,fun W2 σ2 hμ2 ok2 s2 en2=>q W2 σ2 hμ2 ok2 (s1.trans s2) en2⟩
  | bk=>cases e;exact q W1 σ1 hμ ok1 s1 en1
  | ct=>cases e;exact q W1 σ1 hμ ok1 s1 en1
  | rt d=>cases e;exact q W1 σ1 hμ ok1 s1 en1
noncomputable def zbs (ea:EV):SV:=fun Γ μ=>(ea Γ μ).bind fun p=>some (.nx,Γ,p.2)
theorem z7g (he:PE X e (tD K ea)) (hs:swapsWith e none pos.line X.env=pure false:=by rfl):PS X (.Expr e pos) (tDS K (zbs ea)):=z51 (zhx he hs) fun D σ H h=>by
  refine el5 h fun W Γ o Γ' μ' eH ok en e q=>?_;subst eH
  refine z04 e fun p1 e1 e=>?_
  cases e
  exact ⟨W,Γ,p1.1,p1.2,rfl,ok,en,e1,fun v W1 hμ ok1 s1 r1=>q W1 σ hμ ok1 s1 (en.step ok s1)⟩
noncomputable def z67 (ea:EV):SV:=fun Γ μ=>(ea Γ μ).bind fun p=>some (.rt p.1,Γ,p.2)
theorem z16 (he:PE X e (tD K ea)):PS X (.Return (some e) pos) (tDS K (z67 ea)):=z51 (zqh he) fun D σ H h=>by
  refine el5 h fun W Γ o Γ' μ' eH ok en e q=>?_;subst eH
  refine z04 e fun p1 e1 e=>?_
  cases e
  exact ⟨W,Γ,p1.1,p1.2,rfl,ok,en,e1,fun v W1 hμ ok1 s1 r1=>q W1 σ hμ ok1 s1 (en.step ok s1) v r1⟩
noncomputable def sIf (t:BV) (a b:SV):SV:=fun Γ μ=>(t Γ μ).bind fun p=>if p.1=true then a Γ p.2 else b Γ p.2
theorem z58 {c:Expr} {a b:List Stmt} {bc:BV} (hc:PT X c (tDB K bc)) (ha:PSs X a (tDS K sa)) (hb:PSs X b (tDS K sb)):PS X (.If c a b pos) (tDS K (sIf bc sa sb)):=z51 (zqj hc ha hb) fun D σ H h=>by
  refine el5 h fun W Γ o Γ' μ' eH ok en e q=>?_;subst eH
  refine z04 e fun p1 e1 e=>?_
  refine ⟨W,Γ,p1.1,p1.2,rfl,ok,en,e1,fun W1 hμ ok1 s1=>?_⟩
  split at e
  · rename_i hp;rw [if_pos hp];exact ⟨W1,Γ,o,Γ',μ',rfl,ok1,en.step ok s1,by rw [hμ];exact e,fun W2 σ2 hμ2 ok2 s2 en2=>q W2 σ2 hμ2 ok2 (s1.trans s2) en2⟩
  · rename_i hp;rw [if_neg hp];exact ⟨W1,Γ,o,Γ',μ',rfl,ok1,en.step ok s1,by rw [hμ];exact e,fun W2 σ2 hμ2 ok2 s2 en2=>q W2 σ2 hμ2 ok2 (s1.trans s2) en2⟩
noncomputable def z36 (ea:EV) (g:GV):SV:=fun Γ μ=>(ea Γ μ).bind fun p=>(g p.1 Γ p.2).bind fun q=>some (.nx,q.1,q.2)
theorem zkn {g:GV}:∀ D σ H,tDS K (z36 ea g) D σ H→ztc (tD K ea) (tDG K g) D σ H:=fun D σ H h=>by
  refine el5 h fun W Γ o Γ' μ' eH ok en e q=>?_;subst eH
  refine z04 e fun p1 e1 e=>?_
  refine z04 e fun p2 e2 e=>?_
  cases e
  exact ⟨W,Γ,p1.1,p1.2,rfl,ok,en,e1,fun v W1 hμ ok1 s1 r1=>⟨W1,Γ,p1.1,p2.1,p2.2,rfl,ok1,en.step ok s1,r1,by rw [hμ];exact e2,fun W2 σ2 hμ2 ok2 s2 en2=>q W2 σ2 hμ2 ok2 (s1.trans s2) en2⟩⟩
theorem zgw {tg:Expr} {g:GV} (he:PE X e (tD K ea)) (hg:PG X tg (tDG K g)) (hs:swapsWithSole [tg] e pos.line X.env=pure false:=by rfl) (hw:swappedStores [tg] e X.env=pure none:=by rfl)
    (h1:(assignEach [tg] X.env).map (·.2)=[assign tg X.env]:=by rfl):PS X (.Assign [tg] e pos) (tDS K (z36 ea g)):=z51 (zqk he hg hs hw h1) zkn
theorem z0h {i:Nat} {x:Str} {pos':Pos} (hN:X.N.Nodup) (hi:X.N[i]?=some x) (hx:Loc X.env.scope x) (he:PE X e (tD K ea)) (hs:swapsWith e (some (.Name x pos')) pos.line X.env=pure false:=by rfl) (hf:X.fn x=true∨X.env.scope.names.lookup x=some .local:=by first | exact .inl rfl | exact .inr rfl | assumption) :
    PS X (.Assign [.Name x pos'] e pos) (tDS K (z36 ea (z02 i))):=z51 (zm7 hN hi hx he hs hf) fun D σ H h=>by
  refine el5 h fun W Γ o Γ' μ' eH ok en e q=>?_;subst eH
  refine z04 e fun p1 e1 e=>?_
  cases e
  exact ⟨W,Γ,p1.1,p1.2,rfl,ok,en,e1,fun v W1 hμ ok1 s1 r1=>q W1 _ hμ ok1 s1 ((en.step ok s1).set r1 i)⟩
noncomputable def zpw (i j:Nat) (el:LV):SV:=fun Γ μ=>(el Γ μ).bind fun p=>match p.1 with
  | [v,w]=>some (.nx,(Γ.set i (some v)).set j (some w),p.2)
  | _=>none
theorem zkl {i j:Nat} {el:LV}:∀ D σ H,tDS K (zpw i j el) D σ H→zuk i j (tDL K el) D σ H:=fun D σ H h=>by
  refine el5 h fun W Γ o Γ' μ' eH ok en e q=>?_;subst eH
  refine z04 e fun p1 e1 e=>?_
  split at e
  · rename_i v w hp
    cases e
    refine ⟨W,Γ,p1.1,p1.2,rfl,ok,en,e1,fun vs W1 hμ ok1 s1 r1=>?_⟩
    rw [hp] at r1
    cases r1 with
    | cons r1 r2 =>
      cases r2 with
      | cons r2 r3 =>
        cases r3
        exact ⟨_,_,rfl,q W1 _ hμ ok1 s1 (((en.step ok s1).set r1 i).set r2 j)⟩
  · cases e
noncomputable def sAug (i:Nat) (f:D→D→M→Option (D×M)) (ea:EV):SV:=fun Γ μ=>match Γ[i]? with
  | some (some x)=>(ea Γ μ).bind fun p=>(f x p.1 p.2).bind fun q=>some (.nx,Γ.set i (some q.1),q.2)
  | _=>none
noncomputable def zls (c:BV) (body:SV):Nat→SV
  | 0,_,_=>none
  | n+1,Γ,μ=>(c Γ μ).bind fun p=>if p.1=true then (body Γ p.2).bind fun o=>match o.1 with
      | .nx=>zls c body n o.2.1 o.2.2
      | .ct=>zls c body n o.2.1 o.2.2
      | .bk=>some (.nx,o.2)
      | .rt d=>some (.rt d,o.2)
    else some (.nx,Γ,p.2)
noncomputable abbrev Ck:=Option (Nat×List D)
def z95:Ck→M→Prop
  | none,_=>True
  | some (k,raw),μ=>μ[k]?=some (some (.lst raw))
noncomputable abbrev IV:=G→M→Option ((List D×Ck)×M)
def JR (K:PySem.W.Frag) (W:Wd) (J:It) (its:List D) (c:Ck):Prop:=z95 c W.μ∧∃ ds vs,DRs K W ds vs∧∀ (W2:Wd) (i:Nat),Ok K W2→z95 c W2.μ→DRs K W2 ds vs →
  (its.length≤i→J.stop i W2.H)∧∀ d,its[i]?=some d→J.go i W2.H∧∀ x H',J.yld i W2.H x H'→∃ W3,W3.H=H'∧W3.μ=W2.μ∧Ok K W3∧Step W2 W3∧DR K W3 d x
def tDI (K:PySem.W.Frag) (iv:IV):TI:=fun σ H R=>∃ (W:Wd) (Γ:G) (its:List D) (c:Ck) (μ':M),W.H=H∧Ok K W∧EnvR K W Γ σ∧iv Γ W.μ=some ((its,c),μ')∧∀ J W',W'.μ=μ'→Ok K W'→Step W W'→JR K W' J its c→R J W'.H
theorem zmx {tg iter:Expr} {t t':TI} (h:PI X tg iter t) (hi:∀ σ H R,t' σ H R→t σ H R):PI X tg iter t':=fun pins s σ H R I hw=>h pins s σ H R I (hi _ _ _ hw)
noncomputable def lsC (μ:M):D→Option (List D×Ck)
  | .lst ds=>some (ds,none)
  | .scr ds=>some (ds,none)
  | .ref k=>match μ[k]? with
    | some (some (.lst ds))=>some (ds,some (k,ds))
    | _=>none
  | _=>none
theorem zrg {W:Wd} {d:D} {ds:List D} {c:Ck} {v:V} (ok:Ok K W) (h:lsC W.μ d=some (ds,c)) (r:DR K W d v) :
    z95 c W.μ∧∃ a,v=.ref a∧∀ W2,Ok K W2→z95 c W2.μ→DR K W2 d v→∃ vs,SqL K W2.H a vs∧DRs K W2 ds vs:=by
  cases d with
  | lst xs =>
    cases h
    cases r with
    | lst h n hs =>
      refine ⟨trivial,_,rfl,fun W2 _ _ r2=>?_⟩
      cases r2 with
      | lst h n hs=>exact ⟨_,SqL.of h,hs⟩
  | scr xs =>
    cases h
    cases r with
    | scr h hs =>
      refine ⟨trivial,_,rfl,fun W2 _ _ r2=>?_⟩
      cases r2 with
      | scr h hs=>exact ⟨_,h.seq,hs⟩
  | ref k =>
    simp only [lsC] at h
    split at h
    · rename_i xs hk
      cases h
      refine ⟨hk,?_⟩
      cases r with
      | ref ha =>
        refine ⟨_,rfl,fun W2 ok2 c2 r2=>?_⟩
        refine bq fun bG=>?_
        obtain ⟨a',vs,e,_,hh,hs⟩:=zb9 ok2 c2 r2
        cases e
        exact bG (⟨vs,SqL.of hh,hs⟩)
    · cases h
  | _=>cases h
noncomputable def ivL (ea:EV):IV:=fun Γ μ=>(ea Γ μ).bind fun p=>(lsC p.2 p.1).bind fun s=>some (s,p.2)
theorem z2z {tg a:Expr} (ha:PE X a (tD K ea)) (hK:X.K=K:=by rfl):PI X tg a (tDI K (ivL ea)):=zmx (iL K ha hK) fun σ H R h=>by
  refine el5 h fun W Γ its c μ' eH ok en e q=>?_;subst eH
  refine z04 e fun p1 e1 e=>?_
  refine z04 e fun s e2 e=>?_
  cases e
  refine ⟨W,Γ,p1.1,p1.2,rfl,ok,en,e1,fun v W1 hμ ok1 s1 r1=>?_⟩
  refine bq fun bG=>?_
  obtain ⟨c0,a,rfl,hh⟩:=zrg ok1 (by rw [hμ];exact e2) r1
  obtain ⟨vs0,h0,_⟩:=hh W1 ok1 c0 r1
  refine bG (⟨a,rfl,⟨_,h0⟩,q (Itl K a) W1 hμ ok1 s1 ⟨c0,[p1.1],[.ref a],.cons r1 .nil,fun W2 i ok2 c2 r2=>?_⟩⟩)
  cases r2 with
  | cons r2 _ =>
    obtain ⟨vs,hs,hv⟩:=hh W2 ok2 c2 r2
    refine ⟨fun hi=>⟨vs,hs,by rw [← hv.length];exact hi⟩,fun d hd=>?_⟩
    refine bq fun bG=>?_
    obtain ⟨v,hv1,hv2⟩:=hv.get hd
    refine bG (⟨⟨vs,v,hs,hv1⟩,fun x H' y=>?_⟩)
    obtain ⟨rfl,y⟩:=y
    have:=y vs hs
    rw [hv1] at this
    cases this
    exact ⟨W2,rfl,rfl,ok2,.refl,hv2⟩
noncomputable def z4l (lo:Int) (n:Nat):List D:=(List.range n).map fun k:Nat=>D.int (lo+k)
theorem zla {W:Wd} {lo:Int} {n:Nat}:JR K W (Itr lo n) (z4l lo n) none:=by
  refine ⟨trivial,[],[],.nil,fun W2 i ok2 _ _=>⟨fun hi=>?_,fun d hd=>?_⟩⟩
  · show n≤i
    simpa [z4l] using hi
  · have hlt:=(List.getElem?_eq_some_iff.mp hd).1
    simp [z4l] at hlt
    simp [z4l,hlt] at hd
    subst hd
    refine ⟨hlt,fun x H' y=>?_⟩
    refine bq fun bG=>?_
    obtain ⟨rfl,rfl⟩:=y
    exact bG (⟨W2,rfl,rfl,ok2,.refl,.int _⟩)
noncomputable def ivR (ea:EV):IV:=fun Γ μ=>(ea Γ μ).bind fun p=>match p.1 with
  | .int j=>if -1000000000≤j∧j≤1000000000 then some ((z4l 0 j.toNat,none),p.2) else none
  | _=>none
theorem z2y (mr:X.mg "range" = none) {tg a:Expr} {p:Pos} (ha:PE X a (tD K ea)) (hg:Gl X "range" := by rfl) (hs:starEach [a] X.env=[(false,eval a X.env)]:=by rfl):PI X tg (.Call (.Name "range" p) [a] [] pos) (tDI K (ivR ea)):=zmx (iR mr ha hg hs) fun σ H R h=>by
  refine el5 h fun W Γ its c μ' eH ok en e q=>?_;subst eH
  refine z04 e fun p1 e1 e=>?_
  split at e
  · rename_i j hj
    split at e
    · rename_i hb
      cases e
      refine ⟨W,Γ,p1.1,p1.2,rfl,ok,en,e1,fun v W1 hμ ok1 s1 r1=>?_⟩
      rw [hj] at r1
      cases r1
      exact ⟨j,rfl,by omega,by omega,q _ W1 hμ ok1 s1 zla⟩
    · cases e
  · cases e
noncomputable def zmi (c:Ck) (g:GV) (body:SV):List D→SV
  | [],Γ,μ=>some (.nx,Γ,μ)
  | d::r,Γ,μ=>(g d Γ μ).bind fun p=>(body p.1 p.2).bind fun o=>match o.1 with
    | .nx=>chk (z95 c o.2.2) (zmi c g body r o.2.1 o.2.2)
    | .ct=>chk (z95 c o.2.2) (zmi c g body r o.2.1 o.2.2)
    | .bk=>some (.nx,o.2)
    | .rt d=>some (.rt d,o.2)
noncomputable def zjq (iv:IV) (g:GV) (body:SV):SV:=fun Γ μ=>(iv Γ μ).bind fun s=>zmi s.1.2 g body s.1.1 Γ s.2
theorem z8h {tg iter:Expr} {body:List Stmt} {iv:IV} {g:GV} (hp:PassesOwn (model X.prog X.w) X.A X.env X.xe) (hc:X.calm=true) (hi:PI X tg iter (tDI K iv)) (hg:PG X tg (tDG K g)) (hb:PSs X body (tDS K sb))
    (hs:∀ x,foldedSetIterable iter X.env x=pure x:=by intro _;rfl):PS X (.For tg iter body [] pos) (tDS K (zjq iv g sb)):=z51 (zm8 hp hc hi hg hb hs) fun D σ H h=>by
  refine el5 h fun W Γ o Γ' μ' eH ok en e q=>?_;subst eH
  refine bq fun bG=>?_
  obtain ⟨⟨⟨its,c⟩,μ1⟩,e1,e⟩:=bnd e
  refine bG (⟨W,Γ,its,c,μ1,rfl,ok,en,e1,fun J W1 hμ1 ok1 s1 jr=>?_⟩)
  obtain ⟨c1,ds,vs,r1,hj⟩:=jr
  obtain ⟨P,hP⟩:∃ P:Nat→St→Hp→Prop,∀ i σ2 H2,P i σ2 H2↔(i≤its.length∧∃ W2 Γ2,W2.H=H2∧Ok K W2∧Step W1 W2∧EnvR K W2 Γ2 σ2∧z95 c W2.μ∧zmi c g sb (its.drop i) Γ2 W2.μ=some (o,Γ',μ')):=⟨_,fun _ _ _=>Iff.rfl⟩
  refine ⟨fun i m σ2 H2=>m=its.length - i∧P i σ2 H2,⟨its.length,by simp,(hP _ _ _).2 ⟨Nat.zero_le _,W1,Γ,rfl,ok1,.refl,en.step ok s1,c1,by rw [hμ1];exact e⟩⟩,?_⟩
  rintro i m σ2 H2 ⟨rfl,hi⟩
  refine bq fun hG=>?_
  obtain ⟨hi,W2,Γ2,rfl,ok2,s2,en2,c2,e2⟩:=(hP _ _ _).1 hi
  obtain ⟨hstop,hgo⟩:=hj W2 i ok2 c2 (r1.step ok1 s2)
  by_cases hlt:i<its.length
  · have hd:its[i]?=some its[i]:=List.getElem?_eq_getElem hlt
    refine bq fun bG=>?_
    obtain ⟨h1,h2⟩:=hgo _ hd
    rw [List.drop_eq_getElem_cons hlt] at e2
    refine z04 e2 fun p e3 e2=>?_
    obtain ⟨⟨o4,Γ4,μ4⟩,e4,e2⟩:=bnd e2
    refine bG (hG (.inr ⟨h1,P (i+1),fun σ' H' hN=>⟨its.length - (i+1),by omega,rfl,hN⟩,fun x H' hy=>?_⟩))
    refine bq fun hF=>?_
    obtain ⟨W3,rfl,hμ3,ok3,s3,r3⟩:=h2 x H' hy
    refine hF ⟨W3,Γ2,its[i],p.1,p.2,rfl,ok3,en2.step ok2 s3,r3,by rw [hμ3];exact e3,fun W4 σ4 hμ4 ok4 s4 en4=>⟨W4,p.1,o4,Γ4,μ4,rfl,ok4,en4,by rw [hμ4];exact e4,fun W5 σ5 hμ5 ok5 s5 en5=>?_⟩⟩
    have st:=s2.trans (s3.trans (s4.trans s5))
    cases o4 with
    | nx=>refine zbj e2 fun hc5 e2=>?_;exact (hP _ _ _).2 ⟨hlt,W5,Γ4,rfl,ok5,st,en5,by rw [hμ5];exact hc5,by rw [hμ5];exact e2⟩
    | ct=>refine zbj e2 fun hc5 e2=>?_;exact (hP _ _ _).2 ⟨hlt,W5,Γ4,rfl,ok5,st,en5,by rw [hμ5];exact hc5,by rw [hμ5];exact e2⟩
    | bk=>cases e2;exact q W5 σ5 hμ5 ok5 (s1.trans st) en5
    | rt d=>cases e2;exact q W5 σ5 hμ5 ok5 (s1.trans st) en5
  · have e':i=its.length:=by omega
    subst e'
    rw [List.drop_eq_nil_of_le (Nat.le_refl _)] at e2
    cases e2
    exact hG (.inl ⟨hstop (Nat.le_refl _),q W2 σ2 rfl ok2 (s1.trans s2) en2⟩)
end
structure StepB (p:Addr) (W W':Wd):Prop where
  ρ:∀ (k:Nat) a,W.ρ[k]?=some a→W'.ρ[k]?=some a
  live:∀ a,RL W' a→RL W a∨W.H a=none
  keep:∀ a o,a≠p→W.H a=some o→¬ RL W a→W'.H a=some o
  hid:W'.hid=W.hid
  still:∀ a,W.H a≠none→W'.H a≠none
section
variable {K:PySem.W.Frag} {W W' W'':Wd} {p:Addr}
theorem Step.b (s:Step W W'):StepB p W W':=⟨s.ρ,s.live,fun a o _ h n=>s.keep a o h n,s.hid,s.still⟩
theorem StepB.nlive (s:StepB p W W') {a:Addr} {o:HO} (h:W.H a=some o) (n:¬ RL W a):¬ RL W' a:=fun z=>by
  rcases s.live a z with z | z
  · exact n z
  · rw [h] at z;cases z
theorem StepB.trans (s:StepB p W W') (t:StepB p W' W''):StepB p W W'' where
  ρ k a h:=t.ρ k a (s.ρ k a h)
  live a h:=by
    rcases t.live a h with z | z
    · exact s.live a z
    · exact .inr (Classical.byContradiction fun n=>s.still a n z)
  keep a o hp h n:=t.keep a o hp (s.keep a o hp h n) (s.nlive h n)
  hid:=t.hid.trans s.hid
  still a h:=t.still a (s.still a h)
mutual
theorem DR.stepB (ok:Ok K W) (hp:W.hid p) (hl:∃ ys,W.H p=some (.lst ys)) (s:StepB p W W'):∀ {d:D} {v:V},DR K W d v→DR K W' d v
  | _,_,.non=>.non
  | _,_,.bl b=>.bl b
  | _,_,.int i=>.int i
  | _,_,.str x=>.str x
  | _,_,.ref h=>.ref (s.ρ _ _ h)
  | _,_,.lst r n h=>.lst (s.keep _ _ (fun z=>n (.inr (by rw [z];exact hp))) r (fun z=>n (.inl z))) (fun z=>z.elim (s.nlive r (fun z=>n (.inl z))) (fun z=>n (.inr (by rw [s.hid] at z;exact z)))) (DRs.stepB ok hp hl s h)
  | _,_,.scr r h=>.scr (by
      rcases r with ⟨o,r⟩ | r
      · obtain ⟨ys,hl⟩:=hl
        exact .inl ⟨o,s.keep _ _ (fun z=>by rw [z,hl] at r;cases r) r (ok.nofrz r)⟩
      · exact .inr r) (DRs.stepB ok hp hl s h)
  | _,_,.tup r h=>.tup (by
      obtain ⟨ys,hl⟩:=hl
      exact s.keep _ _ (fun z=>by rw [z,hl] at r;cases r) r (ok.notup (.inl r))) (DRs.stepB ok hp hl s h)
  | _,_,.gt r h=>.gt (by
      rcases r with r | r
      · have n:=ok.notup r
        obtain ⟨ys,hl⟩:=hl
        rcases r with r | ⟨o,r⟩
        · exact .inl (.inl (s.keep _ _ (fun z=>by rw [z,hl] at r;cases r) r n))
        · exact .inl (.inr ⟨o,s.keep _ _ (fun z=>by rw [z,hl] at r;cases r) r n⟩)
      · exact .inr r) (DRs.stepB ok hp hl s h)
theorem DRs.stepB (ok:Ok K W) (hp:W.hid p) (hl:∃ ys,W.H p=some (.lst ys)) (s:StepB p W W'):∀ {ds:List D} {vs:List V},DRs K W ds vs→DRs K W' ds vs
  | _,_,.nil=>.nil
  | _,_,.cons h t=>.cons (h.stepB ok hp hl s) (DRs.stepB ok hp hl s t)
end
theorem OR.stepB (ok:Ok K W) (hp:W.hid p) (hl:∃ ys,W.H p=some (.lst ys)) (s:StepB p W W') {a:Addr} {o:O} {ho:HO} (h:OR K W a o ho):OR K W' a o ho:=by
  cases o with
  | lst ds=>obtain ⟨vs,e,q⟩:=h;exact ⟨vs,e,q.stepB ok hp hl s⟩
  | dK kvs=>obtain ⟨vs,e,q⟩:=h;exact ⟨vs,e,Paired.mapP q fun _ _ ⟨e,q⟩=>⟨e,q.stepB ok hp hl s⟩⟩
  | dN kvs=>obtain ⟨vs,e,q⟩:=h;exact ⟨vs,e,Paired.mapP q fun _ _ ⟨e,q⟩=>⟨e,q.stepB ok hp hl s⟩⟩
  | ins C fs=>obtain ⟨vs,e,q⟩:=h;exact ⟨vs,e,Paired.mapP q fun _ _ ⟨e,q⟩=>⟨e,q.stepB ok hp hl s⟩⟩
  | exc C=>exact h
theorem EnvR.stepB {Γ:G} {σ:St} (e:EnvR K W Γ σ) (ok:Ok K W) (hp:W.hid p) (hl:∃ ys,W.H p=some (.lst ys)) (s:StepB p W W'):EnvR K W' Γ σ:=⟨e.len,fun i d h=>let ⟨v,a,b⟩:=e.at_ i d h;⟨v,a,b.stepB ok hp hl s⟩⟩
noncomputable def Wd.re (W:Wd) (p:Addr) (o:HO):Wd:={ W with H:=upd W.H p o }
theorem z65 {o:HO}:StepB p W (W.re p o) where
  ρ _ _ h:=h
  live _ h:=.inl h
  keep a u hp e _:=by show upd W.H p o a=_;rw [z0z hp];exact e
  hid:=rfl
  still a n:=by
    show upd W.H p o a≠none
    by_cases e:a=p
    · subst e;rw [z15];simp
    · rw [z0z e];exact n
theorem ztt (ok:Ok K W) (hp:W.hid p) (hl:∃ ys,W.H p=some (.lst ys)) {o:HO}:Ok K (W.re p o) where
  len:=ok.len
  nd:=ok.nd
  rs a m:=(z65 (W:=W) (p:=p) (o:=o)).still a (ok.rs a m)
  at_ k u e:=by
    obtain ⟨a,ho,h1,h2,h3⟩:=ok.at_ k u e
    have hne:a≠p:=fun z=>(ok.hd p hp).2 (z ▸ ⟨k,u,e,h1⟩)
    exact ⟨a,ho,h1,by show upd W.H p o a=_;rw [z0z hne];exact h2,h3.stepB ok hp hl z65⟩
  hd0 a z:=⟨(z65 (W:=W) (p:=p) (o:=o)).still a (ok.hd a z).1,(ok.hd0 a z).2⟩
mutual
theorem DR.hide (hp:W.H p=none) (ok:Ok K W) {o:HO}:∀ {d:D} {v:V},DR K W d v→DR K (W.hide p o) d v
  | _,_,.non=>.non
  | _,_,.bl b=>.bl b
  | _,_,.int i=>.int i
  | _,_,.str x=>.str x
  | _,_,.ref h=>.ref h
  | _,_,.lst r n h=>.lst (by show upd W.H p o _=_;rw [z0z (z0x r hp)];exact r) (fun z=>z.elim (fun z=>n (.inl z)) (fun z=>z.elim (fun z=>by rw [z,hp] at r;cases r) (fun z=>n (.inr z)))) (DRs.hide hp ok h)
  | _,_,.scr r h=>.scr (zhj ok (z0w hp) r) (DRs.hide hp ok h)
  | _,_,.tup r h=>.tup (by show upd W.H p o _=_;rw [z0z (z0x r hp)];exact r) (DRs.hide hp ok h)
  | _,_,.gt r h=>.gt (zhd ok (z0w hp) r) (DRs.hide hp ok h)
theorem DRs.hide (hp:W.H p=none) (ok:Ok K W) {o:HO}:∀ {ds:List D} {vs:List V},DRs K W ds vs→DRs K (W.hide p o) ds vs
  | _,_,.nil=>.nil
  | _,_,.cons h t=>.cons (h.hide hp ok) (DRs.hide hp ok t)
end
theorem OR.hide (hp:W.H p=none) (ok:Ok K W) {o:HO} {a:Addr} {x:O} {ho:HO} (h:OR K W a x ho):OR K (W.hide p o) a x ho:=by
  cases x with
  | lst ds=>obtain ⟨vs,e,q⟩:=h;exact ⟨vs,e,q.hide hp ok⟩
  | dK kvs=>obtain ⟨vs,e,q⟩:=h;exact ⟨vs,e,Paired.mapP q fun _ _ ⟨e,q⟩=>⟨e,q.hide hp ok⟩⟩
  | dN kvs=>obtain ⟨vs,e,q⟩:=h;exact ⟨vs,e,Paired.mapP q fun _ _ ⟨e,q⟩=>⟨e,q.hide hp ok⟩⟩
  | ins C fs=>obtain ⟨vs,e,q⟩:=h;exact ⟨vs,e,Paired.mapP q fun _ _ ⟨e,q⟩=>⟨e,q.hide hp ok⟩⟩
  | exc C=>exact h
theorem EnvR.hide {Γ:G} {σ:St} (e:EnvR K W Γ σ) (hp:W.H p=none) (ok:Ok K W) {o:HO}:EnvR K (W.hide p o) Γ σ:=⟨e.len,fun i d h=>let ⟨v,a,b⟩:=e.at_ i d h;⟨v,a,b.hide hp ok⟩⟩
theorem zi6 (ok:Ok K W) (hp:W.H p=none) {o:HO}:Ok K (W.hide p o) where
  len:=ok.len
  nd:=ok.nd
  rs a m:=(z0w (o:=o) hp).still a (ok.rs a m)
  at_ k u e:=by
    obtain ⟨a,ho,h1,h2,h3⟩:=ok.at_ k u e
    exact ⟨a,ho,h1,by show upd W.H p o a=_;rw [z0z (z0x h2 hp)];exact h2,h3.hide hp ok⟩
  hd0 a z:=by
    rcases z with rfl | z
    · exact ⟨by show upd W.H a o a≠none;rw [z15];simp,fun m=>ok.rs a m hp⟩
    · exact ⟨(z0w (o:=o) hp).still a (ok.hd a z).1,(ok.hd0 a z).2⟩
noncomputable def Wd.show (W:Wd) (h:Addr→Prop):Wd:={ W with hid:=h }
mutual
theorem DR.show {h:Addr→Prop} (hs:∀ a,h a→W.hid a):∀ {d:D} {v:V},DR K W d v→DR K (W.show h) d v
  | _,_,.non=>.non
  | _,_,.bl b=>.bl b
  | _,_,.int i=>.int i
  | _,_,.str x=>.str x
  | _,_,.ref h=>.ref h
  | _,_,.lst r n h=>.lst r (fun z=>n (z.elim .inl (fun z=>.inr (hs _ z)))) (DRs.show hs h)
  | _,_,.scr r h=>.scr r (DRs.show hs h)
  | _,_,.tup r h=>.tup r (DRs.show hs h)
  | _,_,.gt r h=>.gt r (DRs.show hs h)
theorem DRs.show {h:Addr→Prop} (hs:∀ a,h a→W.hid a):∀ {ds:List D} {vs:List V},DRs K W ds vs→DRs K (W.show h) ds vs
  | _,_,.nil=>.nil
  | _,_,.cons h t=>.cons (h.show hs) (DRs.show hs t)
end
theorem zo6 (ok:Ok K W) {h:Addr→Prop} (hs:∀ a,h a→W.hid a):Ok K (W.show h) where
  len:=ok.len
  nd:=ok.nd
  rs:=ok.rs
  at_ k u e:=by
    refine bq fun bG=>?_
    obtain ⟨a,ho,h1,h2,h3⟩:=ok.at_ k u e
    refine bG (⟨a,ho,h1,h2,?_⟩)
    cases u with
    | lst ds=>obtain ⟨vs,e,q⟩:=h3;exact ⟨vs,e,q.show hs⟩
    | dK kvs=>obtain ⟨vs,e,q⟩:=h3;exact ⟨vs,e,Paired.mapP q fun _ _ ⟨e,q⟩=>⟨e,q.show hs⟩⟩
    | dN kvs=>obtain ⟨vs,e,q⟩:=h3;exact ⟨vs,e,Paired.mapP q fun _ _ ⟨e,q⟩=>⟨e,q.show hs⟩⟩
    | ins C fs=>obtain ⟨vs,e,q⟩:=h3;exact ⟨vs,e,Paired.mapP q fun _ _ ⟨e,q⟩=>⟨e,q.show hs⟩⟩
    | exc C=>exact h3
  hd0 a z:=ok.hd0 a (hs a z)
theorem zdo {o:HO} (hp:W.H p=none) (s:StepB p (W.hide p o) W'):Step W (W'.show W.hid) where
  ρ k a h:=s.ρ k a h
  live a z:=by
    rcases s.live a z with z | z
    · exact .inl z
    · have z:upd W.H p o a=none:=z
      by_cases e:a=p
      · subst e;rw [z15] at z;cases z
      · rw [z0z e] at z;exact .inr z
  keep a u e n:=s.keep a u (z0x e hp) (by show upd W.H p o a=_;rw [z0z (z0x e hp)];exact e) n
  hid:=rfl
  still a n:=s.still a (by
    show upd W.H p o a≠none
    by_cases e:a=p
    · subst e;rw [z15];simp
    · rw [z0z e];exact n)
theorem zdy (ok:Ok K W) (hp:W.hid p):¬ RL W p:=(ok.hd p hp).2
end
noncomputable def zfn (own:List Str) (cap:List (Str×Nat)) (Γ:G):G:=own.map (fun _=>none)++cap.map fun p=>(Γ[p.2]?).join
theorem EnvR.cap {K:PySem.W.Frag} {W:Wd} {Γ:G} {σ:St} (e:EnvR K W Γ σ) (own:List Str) (cap:List (Str×Nat)):EnvR K W (zfn own cap Γ) (z8d own cap σ) where
  len:=by simp [zfn,z8d]
  at_ i d h:=by
    unfold zfn at h
    unfold z8d
    by_cases hi:i<own.length
    · rw [List.getElem?_append_left (by simpa using hi)] at h
      simp [hi] at h
    · rw [List.getElem?_append_right (by simpa using hi)] at h ⊢
      simp only [List.length_map,List.getElem?_map] at h ⊢
      cases hc:cap[i - own.length]? with
      | none=>rw [hc] at h;cases h
      | some p =>
        rw [hc] at h
        simp only [Option.map_some] at h ⊢
        cases hg:Γ[p.2]? with
        | none=>rw [hg] at h;cases h
        | some x =>
          rw [hg] at h
          cases x with
          | none=>cases h
          | some d' =>
            cases h
            obtain ⟨v,hv,r⟩:=e.at_ _ _ hg
            exact ⟨v,by rw [hv];rfl,r⟩
noncomputable def z2h (c:Ck) (g:GV) (tc:BV) (te:EV):List D→G→M→Option (List D×M)
  | [],_,μ=>some ([],μ)
  | d::r,Γ,μ=>(g d Γ μ).bind fun p=>(tc p.1 p.2).bind fun t=>if t.1=true then (te p.1 t.2).bind fun v=>chk (z95 c v.2) ((z2h c g tc te r p.1 v.2).bind fun q=>some (v.1::q.1,q.2)) else chk (z95 c t.2) (z2h c g tc te r p.1 t.2)
noncomputable def z96:BV:=fun _ μ=>some (true,μ)
section
variable {X:Cx} {K:PySem.W.Frag} {N' own:List Str} {cap:List (Str×Nat)} {scope:Scope} {tg iter elt:Expr} {ifs:List Expr} {pos:Pos} {iv:IV} {g:GV} {tc:BV} {te:EV}
theorem zou {t t':TT} (h:PIf X ifs t) (hi:∀ σ H Q,t' σ H Q→t σ H Q):PIf X ifs t':=fun pins s σ H Q I hw=>h pins s σ H Q I (hi _ _ _ hw)
theorem z52:PIf X [] (tDB K z96):=zou znv fun σ H Q h=>by
  refine el4 h fun W Γ b μ' eH ok en e q=>?_;subst eH
  cases e
  exact q W rfl ok .refl
theorem z7j {c:Expr} (h:PT X c (tDB K tc)):PIf X [c] (tDB K tc):=znu h
theorem zgo {W1:Wd} {J:It} {its:List D} {c:Ck} {Γ0:G} {σ0:St} {rs:List D} {μ':M} {p:Addr} {Z:Hp→Prop} (ok1:Ok K W1) (hp:W1.H p=none) (jr:JR K W1 J its c) (en:EnvR K W1 Γ0 σ0) (hl:its.length≤1000000)
    (e:z2h c g tc te its Γ0 W1.μ=some (rs,μ')) (hZ:∀ W' ys,W'.μ=μ'→Ok K W'→StepB p (W1.hide p (.lst [])) W'→W'.hid p→W'.H p=some (.lst ys)→DRs K W' rs ys→Z W'.H) :
    z5a J (tDG K g) (tDB K tc) (tD K te) p σ0 W1.H Z:=by
  obtain ⟨c1,ds,vs,r1,hj⟩:=jr
  obtain ⟨P,hP⟩:∃ P:Nat→St→Hp→Prop,∀ i σ2 H2,P i σ2 H2↔(i≤its.length∧∃ W2 Γ2 done z5t ys,W2.H=H2∧Ok K W2∧StepB p (W1.hide p (.lst [])) W2∧W2.hid p∧W2.H p=some (.lst ys)∧DRs K W2 done ys∧ys.length≤i∧EnvR K W2 Γ2 σ2∧z95 c W2.μ∧z2h c g tc te (its.drop i) Γ2 W2.μ=some (z5t,μ')∧done++z5t=rs):=⟨_,fun _ _ _=>Iff.rfl⟩
  refine ⟨fun i m σ2 H2=>m=its.length - i∧P i σ2 H2,?_,?_⟩
  · exact ⟨its.length,by simp,(hP _ _ _).2 ⟨Nat.zero_le _,W1.hide p (.lst []),Γ0,[],rs,[],rfl,zi6 ok1 hp,⟨fun _ _ h=>h,fun _ h=>.inl h,fun _ _ _ h _=>h,rfl,fun _ h=>h⟩,.inl rfl,z15,.nil,Nat.le_refl _,en.hide hp ok1,c1,e,rfl⟩⟩
  rintro i m σ2 H2 ⟨rfl,hi⟩
  refine bq fun hG=>?_
  obtain ⟨hi,W2,Γ2,done,z5t,ys,rfl,ok2,s2,hp2,hy2,rd,hyl,en2,c2,e2,ed⟩:=(hP _ _ _).1 hi
  have rj:DRs K W2 ds vs:=(r1.hide hp ok1).stepB (zi6 ok1 hp) (.inl rfl) ⟨[],z15⟩ s2
  obtain ⟨hstop,hgo⟩:=hj W2 i ok2 c2 rj
  by_cases hlt:i<its.length
  · have hd:its[i]?=some its[i]:=List.getElem?_eq_getElem hlt
    refine bq fun bG=>?_
    obtain ⟨h1,h2⟩:=hgo _ hd
    rw [List.drop_eq_getElem_cons hlt] at e2
    refine z04 e2 fun pg e3 e2=>?_
    refine z04 e2 fun pt e4 e2=>?_
    refine bG (hG (.inr ⟨h1,P (i+1),fun σ' H' hN=>⟨its.length - (i+1),by omega,rfl,hN⟩,fun x H' hy=>?_⟩))
    refine bq fun hF=>?_
    obtain ⟨W3,rfl,hμ3,ok3,s3,r3⟩:=h2 x H' hy
    refine hF ⟨W3,Γ2,its[i],pg.1,pg.2,rfl,ok3,en2.step ok2 s3,r3,by rw [hμ3];exact e3,fun W4 σ4 hμ4 ok4 s4 en4=>⟨W4,pg.1,pt.1,pt.2,rfl,ok4,en4,by rw [hμ4];exact e4,fun W5 hμ5 ok5 s5=>?_⟩⟩
    have s25:=s3.trans (s4.trans s5)
    split at e2
    · rename_i ht
      refine z04 e2 fun pv e5 e2=>?_
      refine zbj e2 fun c5 e2=>?_
      refine z04 e2 fun pq e6 e2=>?_
      cases e2
      refine zuv (fun _=>?_) (fun n=>absurd ht n)
      refine ⟨W5,pg.1,pv.1,pv.2,rfl,ok5,en4.step ok4 s5,by rw [hμ5];exact e5,fun v W6 hμ6 ok6 s6 r6=>?_⟩
      have s26:=s25.trans s6
      have hp6:W6.hid p:=by rw [s26.hid];exact hp2
      have hy6:W6.H p=some (.lst ys):=s26.keep _ _ hy2 (zdy ok2 hp2)
      have rd6:=rd.step ok2 s26
      refine ⟨ys,hy6,zig (by omega),(hP _ _ _).2 ⟨hlt,W6.re p (.lst (ys++[v])),pg.1,done++[pv.1],pq.1,ys++[v],rfl,ztt ok6 hp6 ⟨_,hy6⟩,(s2.trans s26.b).trans z65,hp6,z15,?_,by simp;omega,(((en4.step ok4 s5).step ok5 s6).stepB ok6 hp6 ⟨_,hy6⟩ z65),by show z95 c W6.μ;rw [hμ6];exact c5,by show z2h c g tc te _ _ W6.μ=_;rw [hμ6];exact e6,by simpa using ed⟩⟩
      exact (rd6.append (.cons r6 .nil)).stepB ok6 hp6 ⟨_,hy6⟩ z65
    · rename_i ht
      refine zbj e2 fun c5 e2=>?_
      refine zuv (fun n=>absurd n ht) (fun _=>?_)
      exact (hP _ _ _).2 ⟨hlt,W5,pg.1,done,z5t,ys,rfl,ok5,s2.trans s25.b,by rw [s25.hid];exact hp2,s25.keep _ _ hy2 (zdy ok2 hp2),rd.step ok2 s25,by omega,en4.step ok4 s5,by rw [hμ5];exact c5,by rw [hμ5];exact e2,ed⟩
  · have e':i=its.length:=by omega
    subst e'
    rw [List.drop_eq_nil_of_le (Nat.le_refl _)] at e2
    cases e2
    rw [List.append_nil] at ed
    subst ed
    exact hG (.inl ⟨hstop (Nat.le_refl _),hZ W2 ys rfl ok2 s2 hp2 hy2 rd⟩)
noncomputable def z4u (own:List Str) (cap:List (Str×Nat)) (iv:IV) (g:GV) (tc:BV) (te:EV):EV:=fun Γ μ=>(iv Γ μ).bind fun s=>if s.1.1.length≤1000000 then (z2h s.1.2 g tc te s.1.1 (zfn own cap Γ) s.2).bind fun q=>some (.lst q.1,q.2) else none
theorem zja {W W1 W':Wd} {p:Addr} {rs:List D} {ys:List V} (s1:Step W W1) (hp:W1.H p=none) (ok1:Ok K W1) (ok':Ok K W') (s:StepB p (W1.hide p (.lst [])) W') (hp':W'.hid p) (hy:W'.H p=some (.lst ys)) (r:DRs K W' rs ys) :
    Ok K (W'.show W1.hid)∧Step W (W'.show W1.hid)∧DR K (W'.show W1.hid) (.lst rs) (.ref p):=by
  have hs:∀ a,W1.hid a→W'.hid a:=fun a z=>by rw [s.hid];exact .inr z
  refine ⟨zo6 ok' hs,s1.trans (zdo hp s),.lst hy (fun z=>?_) (r.show hs)⟩
  rcases z with z | z
  · exact zdy ok' hp' z
  · exact zbh ok1 hp z
theorem zej {W:Wd} {Γ:G} {σ:St} {d:D} {μ':M} (ok:Ok K W) (en:EnvR K W Γ σ) (e:z4u own cap iv g tc te Γ W.μ=some (d,μ')) {Z:Addr→Hp→Prop} (q:∀ v W',W'.μ=μ'→Ok K W'→Step W W'→DR K W' d v→∀ p,v=.ref p→Z p W'.H) :
    tDI K iv σ W.H fun J H1=>∀ p,H1 p=none→z5a J (tDG K g) (tDB K tc) (tD K te) p (z8d own cap σ) H1 (Z p):=by
  refine bq fun bG=>?_
  obtain ⟨⟨⟨its,c⟩,μ1⟩,e1,e⟩:=bnd e
  refine bG (⟨W,Γ,its,c,μ1,rfl,ok,en,e1,fun J W1 hμ1 ok1 s1 jr p hp=>?_⟩)
  split at e
  · rename_i hl
    obtain ⟨⟨rs,μ2⟩,e2,e⟩:=bnd e
    cases e
    refine zgo ok1 hp jr ((en.step ok s1).cap own cap) hl (by rw [hμ1];exact e2) fun W' ys hμ' ok' s' hp' hy r=>?_
    refine bq fun bG=>?_
    obtain ⟨a1,a2,a3⟩:=zja s1 hp ok1 ok' s' hp' hy r
    exact bG (q _ (W'.show W1.hid) hμ' a1 a2 a3 p rfl)
  · cases e
theorem z5p (S:CompScope X N' own cap scope) (hi:PI X tg iter (tDI K iv))
    (hg:∀ cl C s₀ H₀ ex,PG (z2v X N' scope cl C s₀ H₀ ex) tg (tDG K g)) (ht:∀ cl C s₀ H₀ ex,PIf (z2v X N' scope cl C s₀ H₀ ex) ifs (tDB K tc)) (he:∀ cl C s₀ H₀ ex,PE (z2v X N' scope cl C s₀ H₀ ex) elt (tD K te))
    (hx:∀ e s,X.xe e s→False:=by exact fun _ _ z=>z) (hc:X.calm=true:=by rfl) (hs:∀ x,foldedSetIterable iter X.env x=pure x:=by intro _;rfl) :
    PE X (.ListComp elt [⟨tg,iter,ifs,0⟩] scope pos) (tD K (z4u own cap iv g tc te)):=z0v (zo1 S hi hg ht he hx hc hs) fun σ H Q h=>by
  refine el4 h fun W Γ d μ' eH ok en e q=>?_;subst eH
  exact zej ok en e fun v W' h1 h2 h3 h4 p hv=>by subst hv;exact q _ W' h1 h2 h3 h4
theorem z57 {i:Nat} {y:Str} {py spos:Pos} (hN:X.N.Nodup) (hi':X.N[i]?=some y) (hy:X.env.scope.names.lookup y=some .local) (S:CompScope X N' own cap scope) (hi:PI X tg iter (tDI K iv))
    (hg:∀ cl C s₀ H₀ ex,PG (z2v X N' scope cl C s₀ H₀ ex) tg (tDG K g)) (ht:∀ cl C s₀ H₀ ex,PIf (z2v X N' scope cl C s₀ H₀ ex) ifs (tDB K tc)) (he:∀ cl C s₀ H₀ ex,PE (z2v X N' scope cl C s₀ H₀ ex) elt (tD K te))
    (hsw:swapsWith (.ListComp elt [⟨tg,iter,ifs,0⟩] scope pos) (some (.Name y py)) spos.line X.env=pure true:=by rfl)
    (hx:∀ e s,X.xe e s→False:=by exact fun _ _ z=>z) (hc:X.calm=true:=by rfl) (hs:∀ x,foldedSetIterable iter X.env x=pure x:=by intro _;rfl) :
    PS X (.Assign [.Name y py] (.ListComp elt [⟨tg,iter,ifs,0⟩] scope pos) spos) (tDS K (z36 (z4u own cap iv g tc te) (z02 i))):=z51 (zg4 hN hi' hy S hi hg ht he hsw hx hc hs) fun D σ H h=>by
  refine el5 h fun W Γ o Γ' μ' eH ok en e q=>?_;subst eH
  refine z04 e fun p1 e1 e=>?_
  cases e
  exact zej (Z:=fun p H2=>D.nx (σ.set i (some (.ref p))) H2) ok en e1 fun v W' h1 h2 h3 h4 p hv=>by subst hv;exact q W' _ h1 h2 h3 ((en.step ok h3).set h4 i)
end
open PyProof.Rows (envOfC)
noncomputable def zb7 (n m:Nat) (es:SV):List D→M→Option (D×M):=fun ds μ=>if ds.length=m then (es (ds.map some++List.replicate (n - ds.length) none) μ).bind fun o=>match o.1 with
    | .rt d=>some (d,o.2.2)
    | .nx=>some (.non,o.2.2)
    | _=>none
  else none
section
variable {P:Program} {w:World} {K:PySem.W.Frag} {mg:Str→Option Value} {base:Heap}
theorem zd5 {W:Wd} {ds:List D} {vs:List V} {n:Nat} (r:DRs K W ds vs):EnvR K W (ds.map some++List.replicate (n - ds.length) none) (vs.map some++List.replicate (n - vs.length) none) where
  len:=by simp [r.length]
  at_ i d h:=by
    by_cases hi:i<ds.length
    · rw [List.getElem?_append_left (by simpa using hi)] at h
      rw [List.getElem?_append_left (by simpa using r.length ▸ hi)]
      simp only [List.getElem?_map] at h ⊢
      cases hd:ds[i]? with
      | none=>rw [hd] at h;cases h
      | some d' =>
        rw [hd] at h
        cases h
        obtain ⟨v,hv,q⟩:=r.get hd
        exact ⟨v,by rw [hv];rfl,q⟩
    · rw [List.getElem?_append_right (by simpa using hi)] at h
      simp [List.getElem?_replicate] at h
theorem zgi {x qual:Str} {st:Stmt} {f:Addr} {fd:FuncData} {N ps:List Str} {k:Nat} {es:SV} (F:Fun K x qual st f fd) (S:FnScope N ps (z06 st))
    (hb:∀ (cdv:Value) (A:Around) (outer:List Env) (s:Shared) (H:Hp) (E:XK),Room k (A.deeper (envOfC qual (z06 st) s.heap.objs.size f cdv))→PSs (z5k CX0 P w K mg base N qual (z06 st) f cdv A outer s H E).nox (z0i st) (tDS K es)) :
    FnOk P w K mg base CX0 (k+1) f fd ps (spM K (zb7 N.length ps.length es)):=by
  refine F.ok S (fun vs H Q E h=>?_) (fun cdv A outer s H vs Q E hr h=>?_)
  · obtain ⟨W,ds,d,μ',_,_,r,e,_⟩:=h
    unfold zb7 at e
    split at e
    · rename_i hl;rw [← r.length];exact hl
    · cases e
  · obtain ⟨W,ds,d,μ',rfl,ok,r,e,q⟩:=h
    refine ⟨_,hb cdv A outer s W.H E hr,?_⟩
    unfold zb7 at e
    split at e
    · obtain ⟨⟨o,Γ',μ2⟩,e1,e⟩:=bnd e
      refine ⟨W,_,o,Γ',μ2,rfl,ok,zd5 r,e1,fun W' σ' hμ ok' s' en'=>?_⟩
      cases o with
      | rt z=>cases e;exact fun v rv=>q v W' hμ ok' s' rv
      | nx=>cases e;exact q _ W' hμ ok' s' .non
      | bk=>cases e
      | ct=>cases e
    · cases e
end
section
variable {K:PySem.W.Frag} {W W':Wd} {n:Nat}
end
section
variable {X:Cx} {K:PySem.W.Frag} {a b c e:Expr} {ea eb ec:EV} {pos p:Pos}
theorem R2A.or {r r':R2} {f g h:D→D→M→Option (D×M)} (ra:R2A K r f) (rb:R2A K r' g) (hh:∀ x y μ z,h x y μ=some z→f x y μ=some z∨g x y μ=some z):R2A K (fun x y H Q=>r x y H Q∨r' x y H Q) h:=by
  intro W x y d e z μ' Q ok r1 r2 hf q
  rcases hh _ _ _ _ hf with hf | hf
  · exact .inl (ra W x y d e z μ' Q ok r1 r2 hf q)
  · exact .inr (rb W x y d e z μ' Q ok r1 r2 hf q)
theorem ra_cat:R2A K zur zu7:=by
  intro W x y d e z μ' Q ok r1 r2 hf q
  refine z04 hf fun xs hx hf=>?_
  refine z04 hf fun ys hy hf=>?_
  split at hf
  · rename_i hl
    cases hf
    obtain ⟨a,vs,rfl,ha,hv⟩:=zbn ok hx r1
    obtain ⟨b,us,rfl,hb,hu⟩:=zbn ok hy r2
    exact ⟨a,b,vs,us,rfl,rfl,ha,hb,z6q (by rw [← hv.length,← hu.length];omega),fun p hp=>q _ (W.lay p (.lst (vs++us))) rfl (z5v ok hp) (z0w hp) (zac ok hp (hv.append hu))⟩
  · cases hf
theorem zq3:R2A K zum zuy:=by
  intro W x y d e z μ' Q ok r1 r2 hf q
  refine z04 hf fun xs hx hf=>?_
  split at hf
  · split at hf
    · rename_i hl
      cases hf
      cases r2
      obtain ⟨a,vs,rfl,ha,hv⟩:=zbn ok hx r1
      exact ⟨a,_,vs,rfl,rfl,ha,by omega,by omega,z6q (by rw [← hv.length];omega),fun p hp=>q _ (W.lay p _) rfl (z5v ok hp) (z0w hp) (zac ok hp (hv.rep _))⟩
    · cases hf
  · cases hf
noncomputable def zlh (x y:D) (μ:M):Option (D×M):=match x with
  | .tup xs=>(zm1 y).bind fun ys=>if xs≠[]∧xs.length+ys.length≤1000000 then some (.tup (xs++ys),μ) else none
  | _=>none
noncomputable instance {α:Type} {xs:List α}:Decidable (xs≠[]):=by cases xs <;> simp <;> infer_instance
theorem zno:R2A K (zq9 K) zlh:=by
  intro W x y d e z μ' Q ok r1 r2 hf q
  unfold zlh at hf
  split at hf
  · rename_i xs
    refine z04 hf fun ys hy hf=>?_
    split at hf
    case isFalse=>cases hf
    rename_i hl
    cases hf
    have rr:=r1
    obtain ⟨a,vs,rfl,ha,hv⟩:=z6k (ds:=xs) rfl r1
    obtain ⟨b,us,rfl,hb,hu⟩:=z6k hy r2
    refine ⟨a,b,vs,us,rfl,rfl,ha,hb,fun z=>?_,z6q (by rw [← hv.length,← hu.length];omega),fun z=>?_,fun _ p hp=>q _ (W.lay p (.tup (vs++us))) rfl (z5v ok hp) (z0w hp) (zj5 ok hp (hv.append hu))⟩
    · have:=hv.length
      rw [z] at this
      exact hl.1 (List.length_eq_zero_iff.mp this)
    · have h0:=hu.length
      rw [z] at h0
      have h1:=List.length_eq_zero_iff.mp h0
      subst h1
      refine q _ W rfl ok .refl ?_
      rw [List.append_nil]
      exact rr
  · cases hf
noncomputable def z3e (x y:D) (μ:M):Option (D×M):=match x with
  | .int i=>match y with
    | .int j=>some (.int (i+j),μ)
    | _=>none
  | .tup _=>zlh x y μ
  | _=>zu7 x y μ
theorem z3m (ha:PE X a (tD K ea)) (hb:PE X b (tD K eb)) (hK:X.K=K:=by rfl):PE X (.BinOp a .Add b pos) (tD K (v2 z3e ea eb)):=by
  subst hK
  refine zoy (op_add.or (op_cat.or zo5)) ((zaq (h:=fun i j=>.int (i+j)) fun _ _ _=>.int _).or (ra_cat.or zno (h:=fun x y μ=>match x with | .tup _=>zlh x y μ | _=>zu7 x y μ) fun x y μ z h=>?_) fun x y μ z h=>?_) ha hb
  · split at h
    · exact .inr h
    · exact .inl h
  · unfold z3e at h
    split at h
    · split at h
      · exact .inl h
      · cases h
    · exact .inr h
    · rename_i h1 h2
      refine .inr ?_
      split
      · exact absurd rfl (h2 _)
      · exact h
noncomputable def z1g (x y:D) (μ:M):Option (D×M):=match x with
  | .int i=>match y with
    | .int j=>if CMul i j then some (.int (i*j),μ) else none
    | _=>none
  | _=>zuy x y μ
theorem z2o (ha:PE X a (tD K ea)) (hb:PE X b (tD K eb)):PE X (.BinOp a .Mult b pos) (tD K (v2 z1g ea eb)):=by
  refine zoy (op_mul.or zr0) ((zsn (C:=CMul) (h:=fun i j=>.int (i*j)) fun _ _ _=>.int _).or zq3 fun x y μ z h=>?_) ha hb
  unfold z1g at h
  split at h
  · split at h
    · exact .inl h
    · cases h
  · exact .inr h
noncomputable def z6x (f g:D→D→M→Option (D×M)) (ea eb ec:EV):EV:=fun Γ μ=>(ea Γ μ).bind fun p=>(eb Γ p.2).bind fun q=>(f p.1 q.1 q.2).bind fun t=>match t.1 with
  | .bl true=>(ec Γ t.2).bind fun r=>g q.1 r.1 r.2
  | .bl false=>some (.bl false,t.2)
  | _=>none
theorem zfr {r r':R2} {f g:D→D→M→Option (D×M)} (ra:R2A K r f) (rb:R2A K r' g):∀ σ H Q,tD K (z6x f g ea eb ec) σ H Q→zm3 r r' (tD K ea) (tD K eb) (tD K ec) σ H Q:=fun σ H Q h=>by
  refine el4 h fun W Γ d μ' eH ok en e q=>?_;subst eH
  refine z04 e fun p1 e1 e=>?_
  refine z04 e fun p2 e2 e=>?_
  refine z04 e fun p3 e3 e=>?_
  refine ⟨W,Γ,p1.1,p1.2,rfl,ok,en,e1,fun x W1 hμ ok1 s1 r1=>⟨W1,Γ,p2.1,p2.2,rfl,ok1,en.step ok s1,by rw [hμ];exact e2,fun y W2 hμ2 ok2 s2 r2=>?_⟩⟩
  refine ra W2 x y _ _ _ _ _ ok2 (r1.step ok1 s2) r2 (by rw [hμ2];exact e3) fun v W3 hμ3 ok3 s3 r3=>?_
  split at e
  · rename_i hp;rw [hp] at r3;cases r3
    refine z04 e fun p4 e4 e=>?_
    refine ⟨true,rfl,zu2 ⟨W3,Γ,p4.1,p4.2,rfl,ok3,((en.step ok s1).step ok1 s2).step ok2 s3,by rw [hμ3];exact e4,fun z W4 hμ4 ok4 s4 r4=>?_⟩⟩
    exact rb W4 y z _ _ _ _ _ ok4 ((r2.step ok2 s3).step ok3 s4) r4 (by rw [hμ4];exact e) fun v5 W5 hμ5 ok5 s5 r5=>q v5 W5 hμ5 ok5 (s1.trans (s2.trans (s3.trans (s4.trans s5)))) r5
  · rename_i hp;rw [hp] at r3;cases r3;cases e
    exact ⟨false,rfl,zu3 (q _ W3 hμ3 ok3 (s1.trans (s2.trans s3)) (.bl _))⟩
  · cases e
theorem zbm {op op':CmpOp} {r r':R2} {f g:D→D→M→Option (D×M)} (ho:OpR X (compareOp op) r) (ra:R2A K r f) (ho':OpR X (compareOp op') r') (rb:R2A K r' g) (ha:PE X a (tD K ea)) (hb:PE X b (tD K eb)) (hc:PE X c (tD K ec))
    (hm:lastMarks [op,op'] [b,c]=false:=by with_unfolding_all rfl):PT X (.Compare a [op,op'] [b,c] pos) (tDB K (vT (z6x f g ea eb ec))):=zbl (zkx ho ho' ha hb hc hm) (zh7 (zfr ra rb))
theorem zku:R2A K (rI0 fun i j=>.bl (decide (i<j))) fLt:=zaq fun _ _ _=>.bl _
theorem zq7:R2A K (rI0 fun i j=>.bl (decide (i≤j))) fLe:=zaq fun _ _ _=>.bl _
end
section
variable {X:Cx} {K:PySem.W.Frag} {ea eb:EV} {pos p:Pos}
end
section
variable {X:Cx} {K:PySem.W.Frag} {N' own:List Str} {cap:List (Str×Nat)} {scope:Scope} {tg iter elt tg2 iter2:Expr} {ifs ifs2:List Expr} {pos:Pos} {iv iv2:IV} {g g2:GV} {tc tc2:BV} {te:EV}
end
section
variable {n:Nat} {μ:M}
theorem zqb {xs:List D}:py (n+1) μ (.lst xs)=(optAll (py n μ) xs).bind fun ys=>some (.list ys):=rfl
theorem bs {α β:Type} {a:α} {f:α→Option β}:(some a).bind f=f a:=rfl
theorem z2u {α β γ:Type} {f:β→Option γ} {g:α→β} {h:α→γ}:∀ {l:List α},(∀ x∈l,f (g x)=some (h x))→optAll f (l.map g)=some (l.map h)
  | [],_=>rfl
  | x::r,e=>by
    have e1:=e x (by simp)
    have e2:=z2u (l:=r) fun y hy=>e y (by simp [hy])
    simp only [List.map_cons,optAll,e1,e2,bs]
end
section
variable {Γ:G} {μ μ1 μ2:M} {ea eb:EV} {x y d:D} {f:D→D→M→Option (D×M)} {f1:D→M→Option (D×M)} {sa sb:SV} {i:Nat}
theorem zu8 (h:Γ[i]?=some (some d)):z05 i Γ μ=some (d,μ):=by unfold z05;rw [h]
end
noncomputable def zp0 (b:SV):Option (Out×G×M)→Option (Out×G×M)
  | some (.nx,Γ,μ)=>b Γ μ
  | x=>x
@[simp] theorem kSeq_nx {b:SV} {Γ:G} {μ:M}:zp0 b (some (.nx,Γ,μ))=b Γ μ:=rfl
@[simp] theorem kSeq_rt {b:SV} {d:D} {Γ:G} {μ:M}:zp0 b (some (.rt d,Γ,μ))=some (.rt d,Γ,μ):=rfl
@[simp] theorem kSeq_bk {b:SV} {Γ:G} {μ:M}:zp0 b (some (.bk,Γ,μ))=some (.bk,Γ,μ):=rfl
@[simp] theorem kSeq_ct {b:SV} {Γ:G} {μ:M}:zp0 b (some (.ct,Γ,μ))=some (.ct,Γ,μ):=rfl
@[simp] theorem sSeq_eq {a b:SV} {Γ:G} {μ:M}:z1i a b Γ μ=zp0 b (a Γ μ):=by
  unfold z1i zp0
  cases h:a Γ μ with
  | none=>rfl
  | some o=>obtain ⟨o1,Γ1,μ1⟩:=o;cases o1 <;> rfl
section
variable {Γ:G} {μ μ1:M} {ea eb ec:EV} {ba bb:BV} {el:LV} {sa sb:SV} {i j:Nat} {d x y:D} {ds:List D} {b:Bool}
@[simp] theorem vVar_eq:z05 i Γ μ=match Γ[i]? with
  | some (some d)=>some (d,μ)
  | _=>none:=rfl
@[simp] theorem vC_eq:vC d Γ μ=some (d,μ):=rfl
noncomputable def kV1 (f:D→M→Option (D×M)):Option (D×M)→Option (D×M)
  | some (x,μ)=>f x μ
  | none=>none
@[simp] theorem kV1_s {f:D→M→Option (D×M)}:kV1 f (some (x,μ))=f x μ:=rfl
@[simp] theorem v1_eq {f:D→M→Option (D×M)}:v1 f ea Γ μ=kV1 f (ea Γ μ):=by
  unfold v1 kV1;cases ea Γ μ <;> rfl
noncomputable def zss (f:D→D→M→Option (D×M)) (x:D):Option (D×M)→Option (D×M)
  | some (y,μ)=>f x y μ
  | none=>none
@[simp] theorem kV2b_s {f:D→D→M→Option (D×M)}:zss f x (some (y,μ))=f x y μ:=rfl
noncomputable def kV2 (f:D→D→M→Option (D×M)) (eb:EV) (Γ:G):Option (D×M)→Option (D×M)
  | some (x,μ)=>zss f x (eb Γ μ)
  | none=>none
@[simp] theorem kV2_s {f:D→D→M→Option (D×M)}:kV2 f eb Γ (some (x,μ))=zss f x (eb Γ μ):=rfl
@[simp] theorem v2_eq {f:D→D→M→Option (D×M)}:v2 f ea eb Γ μ=kV2 f eb Γ (ea Γ μ):=by
  unfold v2 kV2
  cases ea Γ μ with
  | none=>rfl
  | some p=>show (eb Γ p.2).bind _=zss f p.1 (eb Γ p.2);cases eb Γ p.2 <;> rfl
noncomputable def kT:Option (D×M)→Option (Bool×M)
  | some (.bl b,μ)=>some (b,μ)
  | _=>none
@[simp] theorem kT_s:kT (some (.bl b,μ))=some (b,μ):=rfl
@[simp] theorem vT_eq:vT ea Γ μ=kT (ea Γ μ):=by
  unfold vT kT
  cases ea Γ μ with
  | none=>rfl
  | some p=>obtain ⟨p1,p2⟩:=p;cases p1 <;> rfl
noncomputable def zu1 (bb:BV) (Γ:G):Option (Bool×M)→Option (Bool×M)
  | some (c,μ)=>if c=true then bb Γ μ else some (false,μ)
  | none=>none
@[simp] theorem kAnd_s {c:Bool}:zu1 bb Γ (some (c,μ))=if c=true then bb Γ μ else some (false,μ):=rfl
@[simp] theorem bAnd_eq:zms ba bb Γ μ=zu1 bb Γ (ba Γ μ):=by unfold zms zu1;cases ba Γ μ <;> rfl
noncomputable def ztz (sa sb:SV) (Γ:G):Option (Bool×M)→Option (Out×G×M)
  | some (c,μ)=>if c=true then sa Γ μ else sb Γ μ
  | none=>none
@[simp] theorem kSIf_s {c:Bool}:ztz sa sb Γ (some (c,μ))=if c=true then sa Γ μ else sb Γ μ:=rfl
@[simp] theorem sIf_eq:sIf ba sa sb Γ μ=ztz sa sb Γ (ba Γ μ):=by unfold sIf ztz;cases ba Γ μ <;> rfl
@[simp] theorem lNil_eq:z1f Γ μ=some ([],μ):=rfl
noncomputable def zsw (x:D):Option (List D×M)→Option (List D×M)
  | some (r,μ)=>some (x::r,μ)
  | none=>none
@[simp] theorem kLc2_s {r:List D}:zsw x (some (r,μ))=some (x::r,μ):=rfl
noncomputable def kLc (el:LV) (Γ:G):Option (D×M)→Option (List D×M)
  | some (x,μ)=>zsw x (el Γ μ)
  | none=>none
@[simp] theorem kLc_s:kLc el Γ (some (x,μ))=zsw x (el Γ μ):=rfl
@[simp] theorem lCons_eq:z03 ea el Γ μ=kLc el Γ (ea Γ μ):=by
  unfold z03 kLc
  cases ea Γ μ with
  | none=>rfl
  | some p=>show (el Γ p.2).bind _=zsw p.1 (el Γ p.2);cases el Γ p.2 <;> rfl
noncomputable def kL (f:List D→M→Option (D×M)):Option (List D×M)→Option (D×M)
  | some (r,μ)=>f r μ
  | none=>none
@[simp] theorem kL_s {f:List D→M→Option (D×M)} {r:List D}:kL f (some (r,μ))=f r μ:=rfl
@[simp] theorem vL_eq {f:List D→M→Option (D×M)}:vL f el Γ μ=kL f (el Γ μ):=by unfold vL kL;cases el Γ μ <;> rfl
@[simp] theorem sNx_eq:sNx Γ μ=some (.nx,Γ,μ):=rfl
noncomputable def kRt (Γ:G):Option (D×M)→Option (Out×G×M)
  | some (x,μ)=>some (.rt x,Γ,μ)
  | none=>none
@[simp] theorem kRt_s:kRt Γ (some (x,μ))=some (.rt x,Γ,μ):=rfl
@[simp] theorem sRet_eq:z67 ea Γ μ=kRt Γ (ea Γ μ):=by unfold z67 kRt;cases ea Γ μ <;> rfl
noncomputable def kG:Option (G×M)→Option (Out×G×M)
  | some (Γ,μ)=>some (.nx,Γ,μ)
  | none=>none
@[simp] theorem kG_s:kG (some (Γ,μ))=some (.nx,Γ,μ):=rfl
noncomputable def kAs (g:GV) (Γ:G):Option (D×M)→Option (Out×G×M)
  | some (x,μ)=>kG (g x Γ μ)
  | none=>none
@[simp] theorem kAs_s {g:GV}:kAs g Γ (some (x,μ))=kG (g x Γ μ):=rfl
@[simp] theorem sAsg_eq {g:GV}:z36 ea g Γ μ=kAs g Γ (ea Γ μ):=by
  unfold z36 kAs
  cases ea Γ μ with
  | none=>rfl
  | some p=>show (g p.1 Γ p.2).bind _=kG (g p.1 Γ p.2);cases g p.1 Γ p.2 <;> rfl
@[simp] theorem gvName_eq:z02 i d Γ μ=some (Γ.set i (some d),μ):=rfl
@[simp] theorem gvNil_eq:zc9 [] Γ μ=some (Γ,μ):=rfl
@[simp] theorem gvTup_eq {n:Nat} {gs:GsV}:z7a n gs (.tup ds) Γ μ=if ds.length=n then gs ds Γ μ else none:=rfl
noncomputable def kOn (μ:M) (k:Nat):Option (D×List D)→Option (D×M)
  | some (d,l)=>some (d,μ.set k (some (.lst l)))
  | none=>none
@[simp] theorem zu0 {l:List D}:kOn μ i (some (d,l))=some (d,μ.set i (some (.lst l))):=rfl
noncomputable def zro (Γ:G):Option (D×M)→Option (G×M)
  | some (_,μ)=>some (Γ,μ)
  | none=>none
@[simp] theorem kSb3_s:zro Γ (some (x,μ))=some (Γ,μ):=rfl
noncomputable def sbF (d:D) (j:Int) (ds:List D):Option (D×List D):=(ixN ds.length j).bind fun jj=>some (.non,ds.set jj d)
theorem zhl {j:Int} {jj:Nat} (h:ixN ds.length j=some jj):sbF d j ds=some (.non,ds.set jj d):=by unfold sbF;rw [h];rfl
@[simp] theorem sbF_0:sbF d 0 (x::ds)=some (.non,d::ds):=by
  refine zhl (jj:=0) ?_
  unfold ixN;rw [if_pos (by omega),if_pos (by simp only [List.length_cons];omega)];rfl
@[simp] theorem sbF_1:sbF d 1 (x::y::ds)=some (.non,x::d::ds):=by
  refine zhl (jj:=1) ?_
  unfold ixN;rw [if_pos (by omega),if_pos (by simp only [List.length_cons];omega)];rfl
@[simp] theorem sbF_2 {z:D}:sbF d 2 (x::y::z::ds)=some (.non,x::y::d::ds):=by
  refine zhl (jj:=2) ?_
  unfold ixN;rw [if_pos (by omega),if_pos (by simp only [List.length_cons];omega)];rfl
noncomputable def zst (d:D) (Γ:G) (o:D):Option (D×M)→Option (G×M)
  | some (.int j,μ)=>zro Γ (onL o μ (sbF d j))
  | _=>none
@[simp] theorem kSb2_s {j:Int}:zst d Γ x (some (.int j,μ))=zro Γ (onL x μ (sbF d j)):=rfl
noncomputable def kSb (d:D) (ei:EV) (Γ:G):Option (D×M)→Option (G×M)
  | some (o,μ)=>zst d Γ o (ei Γ μ)
  | none=>none
@[simp] theorem kSb_s {ei:EV}:kSb d ei Γ (some (x,μ))=zst d Γ x (ei Γ μ):=rfl
@[simp] theorem gvSub_eq {eo ei:EV}:zir eo ei d Γ μ=kSb d ei Γ (eo Γ μ):=by
  unfold zir kSb
  cases eo Γ μ with
  | none=>rfl
  | some p =>
    show (ei Γ p.2).bind _=zst d Γ p.1 (ei Γ p.2)
    cases ei Γ p.2 with
    | none=>rfl
    | some q =>
      obtain ⟨q1,q2⟩:=q
      cases q1 with
      | int j =>
        show (onL p.1 q2 _).bind _=zro Γ (onL p.1 q2 (sbF d j))
        have e:(fun ds=>(ixN ds.length j).bind fun jj=>some (D.non,ds.set jj d))=sbF d j:=rfl
        rw [e]
        unfold zro;cases onL p.1 q2 (sbF d j) <;> rfl
      | _=>rfl
@[simp] theorem oNone_eq:zc1 Γ μ=some (none,μ):=rfl
noncomputable def kTr (μ:M):Option Bool→Option (Bool×M)
  | some b=>some (b,μ)
  | none=>none
@[simp] theorem kTr_s:kTr μ (some b)=some (b,μ):=rfl
@[simp] theorem bYes_eq:z96 Γ μ=some (true,μ):=rfl
noncomputable def kNB (μ:M):Option Bool→Option (D×M)
  | some b=>some (.bl (!b),μ)
  | none=>none
@[simp] theorem kNB_s:kNB μ (some b)=some (.bl (!b),μ):=rfl
noncomputable def kD (μ:M):Option D→Option (D×M)
  | some d=>some (d,μ)
  | none=>none
@[simp] theorem kD_s:kD μ (some d)=some (d,μ):=rfl
@[simp] theorem fI0_eq {g:Int→Int→D} {i j:Int}:fI0 g (.int i) (.int j) μ=some (g i j,μ):=rfl
@[simp] theorem fI_eq {C:Int→Int→Prop} [∀ i j,Decidable (C i j)] {g:Int→Int→D} {i j:Int}:fI C g (.int i) (.int j) μ=if C i j then some (g i j,μ) else none:=rfl
@[simp] theorem fNeg_eq {i:Int}:zmk (.int i) μ=some (.int (-i),μ):=rfl
@[simp] theorem fNot_eq {b:Bool}:zol (.bl b) μ=some (.bl (!b),μ):=rfl
@[simp] theorem fPlus_int {i j:Int}:z3e (.int i) (.int j) μ=some (.int (i+j),μ):=rfl
@[simp] theorem z4s {i j:Int}:z1g (.int i) (.int j) μ=if CMul i j then some (.int (i*j),μ) else none:=rfl
@[simp] theorem zlf {b:Bool}:zgl (.bl b) μ=some (.int (if b then 1 else 0),μ):=rfl
@[simp] theorem fNe_eq:fNe x y μ=kNB μ (eqD x y μ):=by unfold fNe kNB;cases eqD x y μ <;> rfl
@[simp] theorem zj4 {i j:Int}:eqD (.int i) (.int j) μ=some (decide (i=j)):=rfl
@[simp] theorem eqD_str {a b:Str}:eqD (.str a) (.str b) μ=if PyData.strOk a&&PyData.strOk b then some (decide (a=b)) else none:=rfl
@[simp] theorem lsOf_lst:z92 μ (.lst ds)=some ds:=rfl
@[simp] theorem lsOf_scr:z92 μ (.scr ds)=some ds:=rfl
@[simp] theorem lsOf_tup:z92 μ (.tup ds)=none:=rfl
@[simp] theorem tpOf_tup:zm1 (.tup ds)=some ds:=rfl
@[simp] theorem wlOf_lst:zjp μ (.lst ds)=some ds:=rfl
@[simp] theorem lsC_lst:lsC μ (.lst ds)=some (ds,none):=rfl
@[simp] theorem lsC_scr:lsC μ (.scr ds)=some (ds,none):=rfl
@[simp] theorem fLst_eq:zav ds μ=if ds.length≤1000 then some (.lst ds,μ) else none:=rfl
@[simp] theorem fTup_eq:ziz ds μ=if ds.length≤1000 then some (.tup ds,μ) else none:=rfl
@[simp] theorem fNew_eq:zd4 ds μ=if ds.length≤1000 then some (.ref μ.length,μ++[some (.lst ds)]) else none:=rfl
@[simp] theorem fIx_lst {i:Int}:fIx (.lst ds) (.int i) μ=kD μ (atI ds i):=by
  show (atI ds i).bind _=_
  unfold kD;cases atI ds i <;> rfl
@[simp] theorem fIx_scr {i:Int}:fIx (.scr ds) (.int i) μ=kD μ (atI ds i):=by
  show (atI ds i).bind _=_
  unfold kD;cases atI ds i <;> rfl
@[simp] theorem fIx_tup {i:Int}:fIx (.tup ds) (.int i) μ=kD μ (atI ds i):=by
  show (atI ds i).bind _=_
  unfold kD;cases atI ds i <;> rfl
@[simp] theorem z5d:z5m (.lst ds) μ=some (.int ds.length,μ):=rfl
@[simp] theorem fLen_tup:z5m (.tup ds) μ=some (.int ds.length,μ):=rfl
@[simp] theorem z6b {es:List D}:z3e (.lst ds) (.lst es) μ=if ds.length+es.length≤1000000 then some (.lst (ds++es),μ) else none:=rfl
@[simp] theorem fSl_lst {lo hi:Option Int}:fSl (.lst ds) lo hi μ=some (.lst (zdi ds lo hi),μ):=rfl
@[simp] theorem fSl_tup {lo hi:Option Int}:fSl (.tup ds) lo hi μ=if HT.sIx ds.length 0 lo=0∧HT.sIx ds.length ds.length hi=ds.length then none else some (.tup (zdi ds lo hi),μ):=rfl
@[simp] theorem tru_bl {b:Bool}:tru μ (.bl b)=some b:=rfl
@[simp] theorem tru_lst:tru μ (.lst ds)=some (!ds.isEmpty):=rfl
@[simp] theorem fRev_lst:zrx (.lst ds) μ=some (.lst ds.reverse,μ):=rfl
theorem zjh {α:Type} {xs:List α} {j:Nat} {v:α} (h:xs[j]?=some v):atI xs (j:Int)=some v:=by
  have hlt:=(List.getElem?_eq_some_iff.mp h).1
  unfold atI ixN
  rw [if_pos (by omega),if_pos (by omega)]
  simpa using h
@[simp] theorem atI_0 {α:Type} {a:α} {l:List α}:atI (a::l) 0=some a:=zjh (j:=0) rfl
@[simp] theorem atI_1 {α:Type} {a b:α} {l:List α}:atI (a::b::l) 1=some b:=zjh (j:=1) rfl
@[simp] theorem atI_2 {α:Type} {a b c:α} {l:List α}:atI (a::b::c::l) 2=some c:=zjh (j:=2) rfl
@[simp] theorem atI_3 {α:Type} {a b c d:α} {l:List α}:atI (a::b::c::d::l) 3=some d:=zjh (j:=3) rfl
end
noncomputable def inI:D→Option Int
  | .int i=>some i
  | _=>none
noncomputable def inB:D→Option Bool
  | .bl b=>some b
  | _=>none
section
variable {K:PySem.W.Frag} {W:Wd}
theorem ze7:∀ {ds:List D} {vs:List V} {ns:List Int},optAll inI ds=some ns→DRs K W ds vs→vs=ns.map V.int
  | _,_,_,h,.nil=>by cases h;rfl
  | d::_,_,_,h,.cons r t=>by
    refine z04 h fun u h1 h=>?_
    refine z04 h fun us h2 h=>?_
    cases h
    cases d <;> cases h1
    cases r
    rw [ze7 h2 t];rfl
theorem zfo:∀ {ds:List D} {vs:List V} {ns:List Bool},optAll inB ds=some ns→DRs K W ds vs→vs=ns.map V.bl
  | _,_,_,h,.nil=>by cases h;rfl
  | d::_,_,_,h,.cons r t=>by
    refine z04 h fun u h1 h=>?_
    refine z04 h fun us h2 h=>?_
    cases h
    cases d <;> cases h1
    cases r
    rw [zfo h2 t];rfl
end
section
variable {X:Cx} {K:PySem.W.Frag} {a b:Expr} {ea eb:EV} {pos p kp:Pos}
noncomputable def zrz (x:D) (μ:M):Option (D×M):=(z92 μ x).bind fun ds=>(optAll inB ds).bind fun bs=>some (.bl (bs.all id),μ)
theorem zpb (mm:X.mg "all" = none) (ha:PE X a (tD K ea)) (hc:X.calm=true:=by rfl) (hg:Gl X "all" := by rfl) (hs:starEach [a] X.env=[(false,eval a X.env)]:=by rfl) (hK:X.K=K:=by rfl):PE X (.Call (.Name "all" p) [a] [] pos) (tD K (v1 zrz ea)):=z0v (zw5 K mm ha hc hg hs hK) (z6i (by
  intro W x d z μ' Q ok r1 hf q
  refine z04 hf fun ds h1 hf=>?_
  refine z04 hf fun ns h2 hf=>?_
  cases hf
  obtain ⟨a,vs,rfl,hs,hv⟩:=z54 ok h1 r1
  have:=zfo h2 hv
  subst this
  exact ⟨a,ns,rfl,hs,q _ W rfl ok .refl (.bl _)⟩))
end
section
variable {μ:M} {k:Nat} {ds:List D}
noncomputable def zsu:Option (Out×G×M)→Option (D×M)
  | some (.rt d,_,μ)=>some (d,μ)
  | some (.nx,_,μ)=>some (.non,μ)
  | _=>none
@[simp] theorem kRun_rt {d:D} {Γ:G}:zsu (some (.rt d,Γ,μ))=some (d,μ):=rfl
@[simp] theorem kRun_nx {Γ:G}:zsu (some (.nx,Γ,μ))=some (.non,μ):=rfl
@[simp] theorem runF_eq {n m:Nat} {es:SV}:zb7 n m es ds μ=if ds.length=m then zsu (es (ds.map some++List.replicate (n - ds.length) none) μ) else none:=by
  unfold zb7
  split
  · unfold zsu
    cases es (ds.map some++List.replicate (n - ds.length) none) μ with
    | none=>rfl
    | some o=>obtain ⟨o1,o2,o3⟩:=o;cases o1 <;> rfl
  · rfl
theorem z9r {x y:Option O} (h:μ[k]?=some x):(μ.set k y)[k]?=some y:=by
  have hlt:=(List.getElem?_eq_some_iff.mp h).1
  simp [hlt]
theorem z66 {j:Nat} {y:Option O} (h:j≠k):(μ.set k y)[j]?=μ[j]?:=List.getElem?_set_ne (Ne.symm h)
theorem z50 (h:μ[k]?=some (some (.lst ds))):z92 μ (.ref k)=some ds:=by simp only [z92,h]
theorem z89 {i:Int} (h:μ[k]?=some (some (.lst ds))):fIx (.ref k) (.int i) μ=kD μ (atI ds i):=by
  simp only [fIx,z50 h]
  unfold kD;cases atI ds i <;> rfl
theorem z83 {g:List D→Option (D×List D)} (h:μ[k]?=some (some (.lst ds))):onL (.ref k) μ g=kOn μ k (g ds):=by
  simp only [onL,h]
  unfold kOn;cases g ds <;> rfl
theorem zod (h:μ[k]?=some (some (.lst ds))):lsC μ (.ref k)=some (ds,some (k,ds)):=by simp only [lsC,h]
@[simp] theorem ixN_0 {n:Nat}:ixN (n+1) 0=some 0:=by unfold ixN;rw [if_pos (by omega),if_pos (by omega)];rfl
@[simp] theorem ixN_1 {n:Nat}:ixN (n+2) 1=some 1:=by unfold ixN;rw [if_pos (by omega),if_pos (by omega)];rfl
@[simp] theorem ixN_2 {n:Nat}:ixN (n+3) 2=some 2:=by unfold ixN;rw [if_pos (by omega),if_pos (by omega)];rfl
end
section
variable {P:Program} {w:World} {K:PySem.W.Frag} {mg:Str→Option Value} {base:Heap} {f:Addr} {fd:FuncData} {k:Nat}
noncomputable def zke (K:PySem.W.Frag):Sp:=fun vs H Q _=>∃ (a:Addr) (ns:List Int),vs=[.ref a]∧zsz H∧SqL K H a (ns.map V.int)∧ns.length≤63∧∀ H',Q (.bl true) H'
noncomputable def W0 (H:Hp):Wd:=⟨[],[],H,fun _=>False⟩
theorem ztu {H:Hp}:Ok K (W0 H) where
  len:=rfl
  nd:=by simp [W0]
  rs a h:=by simp [W0] at h
  at_ k o h:=by simp [W0] at h
  hd0 a h:=h.elim
theorem z9j {W:Wd}:∀ ns:List Int,DRs K W (ns.map D.int) (ns.map V.int)
  | []=>.nil
  | n::r=>.cons (.int n) (z9j r)
theorem zri {g:List D→M→Option (D×M)} (F:FnOk P w K mg base CX0 k f fd ["script"] (spM K g)) (h:∀ ns:List Int,ns.length≤63→∃ μ',g [.scr (ns.map D.int)] []=some (.bl true,μ')):FnOk P w K mg base CX0 k f fd ["script"] (zke K):=F.imp fun vs H Q E hh=>by
  obtain ⟨a,ns,rfl,hO,hS,hl,q⟩:=hh
  obtain ⟨μ',e⟩:=h ns hl
  have hF:SqF K H a (ns.map V.int):=by
    rcases hS with (hS | hS) | hS
    · rcases hO a with z | ⟨o,xs,z⟩
      · rw [z] at hS;cases hS
      · rw [z] at hS;cases hS
    · exact .inl hS
    · exact .inr hS
  exact ⟨W0 H,[.scr (ns.map D.int)],.bl true,μ',rfl,ztu,.cons (.scr hF (z9j ns)) .nil,e,fun v W' _ _ _ r=>by cases r;exact q _⟩
end
noncomputable def zsv:Option (List D×M)→Option (D×M)
  | some (rs,μ)=>some (.lst rs,μ)
  | none=>none
@[simp] theorem kLst_s {rs:List D} {μ:M}:zsv (some (rs,μ))=some (.lst rs,μ):=rfl
noncomputable def zoh (own:List Str) (cap:List (Str×Nat)) (g:GV) (tc:BV) (te:EV) (Γ:G):Option ((List D×Ck)×M)→Option (D×M)
  | some ((its,c),μ)=>if its.length≤1000000 then zsv (z2h c g tc te its (zfn own cap Γ) μ) else none
  | none=>none
@[simp] theorem zog {own:List Str} {cap:List (Str×Nat)} {g:GV} {tc:BV} {te:EV} {Γ:G} {its:List D} {c:Ck} {μ:M}:zoh own cap g tc te Γ (some ((its,c),μ))=if its.length≤1000000 then zsv (z2h c g tc te its (zfn own cap Γ) μ) else none:=rfl
@[simp] theorem zk2 {own:List Str} {cap:List (Str×Nat)} {iv:IV} {g:GV} {tc:BV} {te:EV} {Γ:G} {μ:M}:z4u own cap iv g tc te Γ μ=zoh own cap g tc te Γ (iv Γ μ):=by
  unfold z4u zoh
  cases iv Γ μ with
  | none=>rfl
  | some s =>
    obtain ⟨⟨its,c⟩,μ1⟩:=s
    show (if its.length≤1000000 then (z2h c g tc te its (zfn own cap Γ) μ1).bind _ else none)=if its.length≤1000000 then zsv (z2h c g tc te its (zfn own cap Γ) μ1) else none
    split
    · cases z2h c g tc te its (zfn own cap Γ) μ1 <;> rfl
    · rfl
section
variable {X:Cx} {K:PySem.W.Frag} {pos:Pos} {el:LV} {ea:EV}
theorem zp4 {i j:Nat} {x y:Str} {a b:Expr} {px py pt:Pos} {kt k2 pt2} (hN:X.N.Nodup) (hi:X.N[i]?=some x) (hj:X.N[j]?=some y) (hij:i≠j) (ha:PA X [a,b] (tDL K el)) (hc:X.calm=true:=by rfl)
    (hx:X.env.scope.names.lookup x=some .local:=by rfl) (hy:X.env.scope.names.lookup y=some .local:=by rfl)
    (hw:swappedStores [.Tuple [.Name x px,.Name y py] kt pt] (.Tuple [a,b] k2 pt2) X.env=pure (some [x,y]):=by rfl)
    (hs:swapsWithSole [.Tuple [.Name x px,.Name y py] kt pt] (.Tuple [a,b] k2 pt2) pos.line X.env=pure false:=by rfl) :
    PS X (.Assign [.Tuple [.Name x px,.Name y py] kt pt] (.Tuple [a,b] k2 pt2) pos) (tDS K (zpw i j el)):=z51 (zqi hc hN hi hj hij hx hy ha hw hs) zkl
end
theorem atI_last {α:Type} {l:List α} {x:α}:atI (l++[x]) (-1)=some x:=by
  unfold atI ixN
  rw [if_neg (by decide),if_pos (by simp;omega)]
  have:((-1:Int)+((l++[x]).length:Nat)).toNat=l.length:=by simp;omega
  rw [this];simp
section
variable {X:Cx} {K:PySem.W.Frag} {a b:Expr} {ea eb:EV} {p p2 pos kp kp2:Pos}
end
section
variable {K:PySem.W.Frag} {W:Wd}
end
section
variable {X:Cx} {K:PySem.W.Frag} {a b c e o i value:Expr} {ea eb eo ei:EV} {pos p apos pos' pos1:Pos} {k:Nat}
end
section
variable {X:Cx} {K:PySem.W.Frag} {N' own:List Str} {cap:List (Str×Nat)} {scope:Scope} {tg iter kx vx:Expr} {ifs:List Expr} {pos:Pos} {iv:IV} {g:GV} {tc:BV} {tk tv:EV}
end
section
variable {X:Cx} {K:PySem.W.Frag} {a b c e o i value:Expr} {ea eb eo ei:EV} {pos p apos pos' pos1:Pos} {k:Nat}
end
end L3
namespace L2
open PySem PySem.W PySem.Spec PyProof.Rows
structure FlewH (P:Program) (w:World) (outer:List Env) (L:Addr) (H H':Hp) (s:Shared) (e:Addr) (C:Value) (B:Heap) (s':Shared):Prop where
  os:s'.os=s.os
  bare:AllBare s'.gens
  un:Un (frs outer) [] H H' s.heap s'.heap
  hok:HOk P w H' s'.heap
  trk:∀ b o,s'.heap.get? b=some o→H' b≠none→B.get? b=some o
  old:∀ b o,s.heap.get? b=some o→H b=none→b∉frs outer→B.get? b=some o
  thr:∀ b o,s.heap.get? b=some o→b∉frs outer→∃ o',B.get? b=some o'
  frf:∀ b∈frs outer,H b=none
  unt:H' e=none
  new:s.heap.get? e=none
  fly:∃ a0,Heap.HeldW B outer e C a0 L s'.heap
section
variable {P:Program} {w:World} {outer:List Env} {L:Addr} {H H':Hp} {s s':Shared} {e:Addr} {C:Value} {B:Heap}
theorem Flew.noted {h2:Heap} (F:Flew P w outer H H' s e C B s') (hs:s'.heap.UpToSlots h2) (fl:∃ a0,Heap.HeldW B outer e C a0 L h2):FlewH P w outer L H H' s e C B { s' with heap:=h2 }:=by
  refine bq fun bG=>?_
  obtain ⟨a0,fl⟩:=fl
  obtain ⟨u,k,t⟩:=F.to fl.1 hs
  exact bG (⟨F.os,F.bare,u,k,t,F.old,F.thr,F.frf,F.unt,F.new,a0,fl⟩)
theorem FlewH.to {h2:Heap} (F:FlewH P w outer L H H' s e C B s') (hB:B.StaysIn h2) (hs:s'.heap.UpToSlots h2):Un (frs outer) [] H H' s.heap h2∧HOk P w H' h2∧∀ b o,h2.get? b=some o→H' b≠none→B.get? b=some o:=by
  obtain ⟨a0,fl⟩:=F.fly
  have kp:∀ b o,s.heap.get? b=some o→H b=none→b∉frs outer→h2.get? b=some o:=fun b o x n hb=>hB b o (F.old b o x n hb)
  have sl:∀ b o,s.heap.get? b=some o→H b=none→b∈frs outer→∃ sl,h2.get? b=some { o with slots:=sl }:=fun b o x n hb=>by
    refine bq fun bG=>?_
    obtain ⟨sl,e1⟩:=F.un.slot b o x n hb (by simp)
    obtain ⟨_,o',e2,d⟩:=fl.2.2.1.mem hb
    rw [e1] at e2
    cases e2
    obtain ⟨sl',e3⟩:=hs b { o with slots:=sl } e1 d
    exact bG (⟨sl',e3⟩)
  refine ⟨⟨fun b o x n hb _=>kp b o x n hb,fun b o x n hb _=>sl b o x n hb,F.un.free,fun b o x _=>?_,F.un.tups,F.un.frzs,F.un.tbls⟩,fun a u eu=>?_,fun b o x n=>?_⟩
  · by_cases hb:b∈frs outer
    · obtain ⟨l,e1⟩:=sl b o x (F.frf b hb) hb
      exact ⟨_,e1⟩
    · obtain ⟨o',e1⟩:=F.thr b o x hb
      exact ⟨o',hB b o' e1⟩
  · refine (F.hok a u eu).stay (fun b v hb q=>hB b v (F.trk b v q ?_)) (fun _ q=>q) fun _ _ q=>q
    rcases hb with z | z
    · rw [z,eu];simp
    · rw [z];simp
  · cases eu:H' b with
    | none=>exact absurd eu n
    | some u =>
      refine bq fun bG=>?_
      obtain ⟨o1,e1⟩:=(F.hok b u eu).there
      have e2:=F.trk b o1 e1 n
      have e3:=hB b o1 e2
      rw [x] at e3
      cases e3
      exact bG (e2)
theorem FlewH.next {h2:Heap} (F:FlewH P w outer L H H' s e C B s') (hs:s'.heap.UpToSlots h2) (fl:∃ a0,Heap.HeldW B outer e C a0 L h2):FlewH P w outer L H H' s e C B { s' with heap:=h2 }:=by
  refine bq fun bG=>?_
  obtain ⟨a0,fl⟩:=fl
  obtain ⟨u,k,t⟩:=F.to fl.1 hs
  exact bG (⟨F.os,F.bare,u,k,t,F.old,F.thr,F.frf,F.unt,F.new,a0,fl⟩)
theorem FlewH.lands {h2:Heap} (F:FlewH P w outer L H H' s e C B s') (hs:s'.heap.UpToSlots h2) (fl:∃ a0,Heap.FlyingW B outer e C a0 h2):Flew P w outer H H' s e C B { s' with heap:=h2 }:=by
  refine bq fun bG=>?_
  obtain ⟨a0,fl⟩:=fl
  obtain ⟨u,k,t⟩:=F.to fl.1 hs
  exact bG (⟨F.os,F.bare,u,k,t,F.old,F.thr,F.frf,F.unt,F.new,a0,fl⟩)
end
theorem z5r {M:Model} {A:Around} {E:Value→Shared→Prop} {s:Shared} {base:Heap} {l:List Env} {e L:Addr} {cls a0:Value} {Q:Unit→Shared→Prop} (R:Heap.HeldW base l e cls a0 L s.heap)
    (h:∀ h',Heap.HeldW base l e cls a0 L h'→s.heap.UpToSlots h'→Q () { s with heap:=h' }):wpAny M A (setFlight (.ref e) (some L)) Q E s:=by
  obtain ⟨hkb,hen,hl,oe,vs,T,oT,ts,he,hcls,hd,h1,hnT,hTe,hT,hdT,h3⟩:=R
  have hsz3:3<ts.size:=(Array.getElem?_eq_some_iff.mp h3).1
  have other:∀ b,b≠T→(s.heap.update T (Obj.mapFields (·.setIfInBounds 3 ((some L).elim Value.none fun f=>rawInt f)))).get? b=s.heap.get? b :=
    fun b hb=>Heap.get?_update_other _ _ (Ne.symm hb)
  have noRecord:∀ b o,s.heap.get? b=some o→(∀ vs,o.data≠.fields vs)→b≠T:=fun b o hb hnf q=>by
    rw [q,hT] at hb;injection hb with hb;subst hb;exact hnf ts hdT
  unfold setFlight
  refine wpAny_bind (wpAny_field he hd h1 ?_)
  rw [if_pos (show (Value.ref T != Value.none)=true from by simp)]
  refine wpAny_setField hT hdT hsz3 (h _ ⟨fun b o hbo=>(other b fun q=>by rw [q,hnT] at hbo;cases hbo).trans (hkb b o hbo),hen,
    hl.of_keeps fun b o hb hnf=>⟨o,(other b (noRecord b o hb hnf)).trans hb,rfl⟩,?_⟩ fun b o hb hnf=>⟨o.slots,(other b (noRecord b o hb hnf)).trans hb⟩)
  exact ⟨oe,vs,T,_,_,(other e (Ne.symm hTe)).trans he,hcls,hd,h1,hnT,hTe,Heap.get?_update_self _ hT (Obj.isFreed_of_fields (Obj.data_mapFields hdT _)),Obj.data_mapFields hdT _,by simp [hsz3]⟩
theorem zdz {M:Model} {A:Around} {E:Value→Shared→Prop} {s:Shared} {base h:Heap} {env:Env} {outer:List Env} {L e:Addr} {cls:Value} {args:List Value} {Q:Unit→Shared→Prop}
    (hfr:A.frames=some (env::outer)) (hf:env.frame=some L) (hkb:base.StaysIn h) (hl:h.FunFrames base (env::outer)) (hx:Heap.MadeExcOf h s.heap e cls args)
    (hQ:∀ h' a0,Heap.HeldW base (env::outer) e cls a0 L h'→s.heap.UpToSlots h'→Q () { s with heap:=h' }):wpAny M A (noteFrame (.ref e) env) Q E s:=by
  obtain ⟨t,he,htn,ht⟩:=hx.there
  have fresh:∀ b,h.get? b=none→base.get? b=none:=fun b hb=>by
    cases hq:base.get? b with
    | none=>rfl
    | some o'=>have:=hkb b o' hq;rw [hb] at this;cases this
  unfold noteFrame
  simp only [hf]
  refine wpAny_bind (wpAny_field he rfl (show (#[Value.ref t,.none,.none,.none,.bool false,.none]:Array Value)[1]?=some Value.none from rfl) ?_)
  rw [if_neg (show ¬ ((Value.none != Value.none)=true) from by decide)]
  refine wpAny_entryW (a0:=.ref t) hfr (hl.of_keeps fun b o hb _=>⟨o,hx.keeps b o hb,rfl⟩) hf he (fun b o hb=>hx.keeps b o (hkb b o hb)) (fresh e hx.new) rfl (by simp) rfl fun h' hN=>?_
  refine bq fun bG=>?_
  obtain ⟨k1,k2,k3,k4⟩:=hN
  exact bG (hQ h' _ ⟨k1,fresh e hx.new,k2,k3⟩ k4)
def Lv (X:Cx):Prop:=X.stack=X.env::X.outer∧X.env.frame=some X.env.locals
def FlX (X:Cx) (E:St→XK) (e:Value) (s':Shared):Prop:=∃ (a:Addr) (C:Value) (pins:List (Addr×Obj)) (σ:St) (H H':Hp) (s:Shared),e=.ref a∧Inv X pins σ H s∧E σ C none H' ∧
  ((H'=H∧∃ (D:Addr) (vs:List Value) (h':Heap),C=.ref D∧s'={ s with heap:=h' }∧Heap.MadeExcOf s.heap h' a C vs)∨(∃ B,Flew X.prog X.w X.stack H H' s a C B s')∨(∃ B,FlewH X.prog X.w X.stack X.env.locals H H' s a C B s'))
section
variable {X:Cx} {E:St→XK} {pins:List (Addr×Obj)} {σ:St} {H H':Hp} {s s':Shared} {a:Addr} {C:Value} {B:Heap}
theorem zgc {M:Model} {A:Around} {E':Value→Shared→Prop} {D:Addr} {vs:List Value} {h':Heap} {Q:Unit→Shared→Prop} (lv:Lv X) (hA:A.frames=X.A.frames) (I:Inv X pins σ H s) (hx:Heap.MadeExcOf s.heap h' a (.ref D) vs)
    (hQ:∀ B h2,FlewH X.prog X.w X.stack X.env.locals H H s a (.ref D) B { s with heap:=h2 }→Q () { s with heap:=h2 }):wpAny M A (noteFrame (.ref a) X.env) Q E' { s with heap:=h' }:=by
  obtain ⟨lv1,lv2⟩:=lv
  have fs:∀ b,b∈frs X.stack→H b=none:=I.stkFree
  have inn:∀ b o,s.heap.get? b=some o→b∉frs X.stack→(hideAll s.heap (frs X.stack)).get? b=some o:=fun b o e hb=>hideAll_get _ e hb
  have hin:∀ env∈X.stack,∀ a,env.frame=some a→a∈frs X.stack:=fun env he a ha=>List.mem_filterMap.mpr ⟨env,he,ha⟩
  have nfr:∀ b,H b≠none→b∉frs X.stack:=fun b n z=>n (fs b z)
  refine zdz (base:=hideAll s.heap (frs X.stack)) (env:=X.env) (outer:=X.outer) (by rw [hA,I.ok.frames,lv1]) lv2 (fun b o q=>of_hideAll _ q) (by rw [← lv1];exact funFrames_hide I.stack hin) hx fun h2 a0 fl ups=>hQ (hideAll s.heap (frs X.stack)) h2 ?_
  have hB:=fl.1
  have hkeep:∀ b o,s.heap.get? b=some o→b∉frs X.stack→h2.get? b=some o:=fun b o e hb=>hB b o (inn b o e hb)
  have hslot:∀ b o,s.heap.get? b=some o→b∈frs X.stack→∃ sl,h2.get? b=some { o with slots:=sl }:=fun b o e hb=>by
    refine bq fun bG=>?_
    obtain ⟨_,o',e2,d⟩:=I.stack.mem hb
    rw [e] at e2
    cases e2
    obtain ⟨sl',e3⟩:=ups b o (hx.keeps b o e) d
    exact bG (⟨sl',e3⟩)
  refine ⟨rfl,I.bare,⟨fun b o x n hb _=>hkeep b o x hb,fun b o x n hb _=>hslot b o x hb,fun b o x n _=>n,fun b o x _=>?_,fun _ _ z=>z,fun _ _ _ z=>z,fun _ ps z=>⟨#[],by simpa using z⟩⟩,fun b u eu=>?_,fun b o x n=>?_,fun b o x n hb=>inn b o x hb,fun b o x hb=>⟨o,inn b o x hb⟩,fs,?_,hx.new,a0,?_⟩
  · by_cases hb:b∈frs X.stack
    · obtain ⟨l,e1⟩:=hslot b o x hb;exact ⟨_,e1⟩
    · exact ⟨o,hkeep b o x hb⟩
  · refine (I.hok b u eu).stay (fun c v hb q=>hkeep c v q (nfr c ?_)) (fun _ q=>q) fun _ _ q=>q
    rcases hb with z | z
    · rw [z,eu];simp
    · rw [z];simp
  · cases eu:H b with
    | none=>exact absurd eu n
    | some u =>
      refine bq fun bG=>?_
      obtain ⟨o1,e1⟩:=(I.hok b u eu).there
      have e2:=inn b o1 e1 (nfr b n)
      have e3:=hB b o1 e2
      rw [x] at e3
      cases e3
      exact bG (e2)
  · cases eu:H a with
    | none=>rfl
    | some u =>
      obtain ⟨o1,e1⟩:=(I.hok a u eu).there
      rw [hx.new] at e1
      cases e1
  · rw [← lv1] at fl;exact fl
theorem zit {M:Model} {A:Around} {E':Value→Shared→Prop} {e:Value} {Q:Unit→Shared→Prop} (lv:Lv X) (hA:A.frames=X.A.frames) (h:FlX X E e s')
    (hQ:∀ a C pins σ H H' s B s2,e=.ref a→Inv X pins σ H s→E σ C none H'→FlewH X.prog X.w X.stack X.env.locals H H' s a C B s2→Q () s2):wpAny M A (noteFrame e X.env) Q E' s':=by
  obtain ⟨a,C,pins,σ,H,H',s,rfl,I,hE,h⟩:=h
  rcases h with ⟨rfl,D,vs,h',rfl,rfl,hx⟩ | ⟨B,F⟩ | ⟨B,F⟩
  · exact zgc lv hA I hx fun B h2 F=>hQ _ _ _ _ _ _ _ _ _ rfl I hE F
  · obtain ⟨a0,fl⟩:=F.fly
    have fl':Heap.FlyingW B (X.env::X.outer) a C a0 s'.heap:=by rw [← lv.1];exact fl
    refine wpAny_looks_onW (by rw [hA,I.ok.frames,lv.1]) lv.2 fl' fun h2 hh hs=>hQ _ _ _ _ _ _ _ _ _ rfl I hE (F.noted hs ⟨a0,by rw [lv.1];exact hh⟩)
  · obtain ⟨a0,fl⟩:=F.fly
    exact wpAny_noteFrame_againW lv.2 fl.2.2.2 (hQ _ _ _ _ _ _ _ _ _ rfl I hE F)
theorem zok (lv:Lv X):PassesOwn (model X.prog X.w) X.A X.env (FlX X E):=fun e s' h=>by
  refine zit lv rfl h fun a C pins σ H H' s B s2 he I hE F=>?_
  subst he
  obtain ⟨a0,fl⟩:=F.fly
  obtain ⟨oe,vs,T,oT,ts,g1,_,g2,g3,_⟩:=id fl.2.2.2
  show wpAny _ _ (do
    if (← field (.ref a) 1)==.none then unsupported "frame.own-activation:exception-without-traceback"
    setFlight (.ref a) X.env.frame) _ _ _
  refine wpAny_bind (wpAny_field g1 g2 g3 ?_)
  rw [if_neg (show ¬ ((Value.ref T==Value.none)=true) from by simp),lv.2]
  first
    | exact wpAny_bind (wpAny_pure (z5r fl fun h2 hh hs=>⟨a,C,pins,σ,H,H',s,rfl,I,hE,.inr (.inr ⟨B,F.next hs ⟨a0,hh⟩⟩)⟩))
    | exact z5r fl fun h2 hh hs=>⟨a,C,pins,σ,H,H',s,rfl,I,hE,.inr (.inr ⟨B,F.next hs ⟨a0,hh⟩⟩)⟩
end
section
variable {P:Program} {w:World} {K:PySem.W.Frag} {mg:Str→Option Value} {base:Heap} {N:List Str} {qual:Str} {scope:Scope} {f:Addr} {cd:Value} {A:Around} {outer:List Env} {s:Shared} {H:Hp} {E:XK}
theorem ziu {e:Value} {s':Shared} (h:FlX (z5k (CXr P w) P w K mg base N qual scope f cd A outer s H E) (fun _=>E) e s'):(z5k (CXr P w) P w K mg base N qual scope f cd A outer s H E).xe e s':=by
  obtain ⟨a,C,pins,σ,H1,H',s1,rfl,I,hE,h⟩:=h
  rcases h with ⟨rfl,D,vs,h',rfl,rfl,hx⟩ | ⟨B,F⟩ | ⟨B,F⟩
  · exact zq1 I hx hE
  · exact zo4 (E':=E) (fun _ _ _ z=>z) pins σ H1 s1 _ s' I ⟨a,C,H',B,rfl,F,hE⟩
  · obtain ⟨a0,fl⟩:=F.fly
    show wpAny (model P w) (A.deeper (envOfC qual scope s.heap.objs.size f cd)) (leaving (envOfC qual scope s.heap.objs.size f cd) (.ref a)) _ _ _
    unfold leaving
    refine wpAny_bind (wpAny_noteFrame_againW rfl fl.2.2.2 (wpAny_landsW fl fun h2 fl2 ups=>?_))
    have F2:=F.lands ups ⟨a0,fl2⟩
    have I2:=Flew.inv (X:=z5k (CXr P w) P w K mg base N qual scope f cd A outer s H E) F2 I
    have out:∀ b o,s.heap.get? b=some o→b∉frs outer→b∉frs (envOfC qual scope s.heap.objs.size f cd::outer):=fun b o e hb z=>by
      have z:b∈s.heap.objs.size::frs outer:=z
      rcases List.mem_cons.mp z with q | q
      · rw [q] at e;exact Nat.lt_irrefl _ (Heap.lt_size e)
      · exact hb q
    obtain ⟨f1,f2,⟨_,_,f3⟩,f4⟩:=id fl2
    refine ⟨a,C,H',B,rfl,⟨I2.os,F2.bare,⟨fun b o x n hb _=>I2.base.keep b o x n hb (by simp [z5k]),fun b o x n hb _=>I2.base.slot b o x n hb (by simp [z5k]),fun b o x n _=>I2.base.free b o x n (by simp [z5k]),fun b o x _=>I2.base.there b o x (by simp [z5k]),I2.base.tups,I2.base.frzs,I2.base.tbls⟩,F2.hok,F2.trk,
      fun b o x n hb=>F2.old b o (I.base.keep b o x n hb (by simp [z5k])) (I.base.free b o x n (by simp [z5k])) (out b o x hb),fun b o x hb=>?_,I.ok.frf,F2.unt,?_,a0,f1,f2,f3,f4⟩,hE⟩
    · obtain ⟨o1,e1⟩:=I.base.there b o x (by simp [z5k])
      exact F2.thr b o1 e1 (out b o x hb)
    · cases eo:s.heap.get? a with
      | none=>rfl
      | some o =>
        obtain ⟨o1,e1⟩:=I.base.there a o eo (by simp [z5k])
        rw [F2.new] at e1
        cases e1
end
noncomputable abbrev Cx.fl (X:Cx) (E:St→XK):Cx:=X.wish (FlX X E)
noncomputable abbrev zpd:List Value:=[.type "ValueError",.type "Exception",.type "BaseException",.type "object"]
def z4n (K:Frag) (C:Addr):Prop:=∃ bm N nm q bs hdct sn sub ab col dd k0 k1 k2 k3 k5,
    K.lookup C=some (excClassObj nm q C N bs bm hdct sn sub ab col dd k0 k1 k2 k3 k5 "ValueError.__new__")∧tailIn K zpd bm=true∧nsOkIn K N=true∧nsIn K N "__init__" = some none
theorem zeb {K:Frag} {h:Heap} {C:Addr} {G:Prop} (X:K.In h) (q:z4n K C)
    (k:∀ bm N nm q bs hdct sn sub ab col dd k0 k1 k2 k3 k5 mN,h.get? C=some (excClassObj nm q C N bs bm hdct sn sub ab col dd k0 k1 k2 k3 k5 "ValueError.__new__")→h.Ns N mN→mN "__init__" = none→OwnTail h zpd bm→G):G:=by
  refine bq fun bG=>?_
  obtain ⟨bm,N,nm,q,bs,hdct,sn,sub,ab,col,dd,k0,k1,k2,k3,k5,ho,ht,hok,hni⟩:=q
  exact bG (k bm N nm q bs hdct sn sub ab col dd k0 k1 k2 k3 k5 _ (X _ _ ho) (.of_isNs (isNs_of_in X hok)) (nsMap_none_of_in X hok hni) (tail_of_in X ht))
theorem zov {h h':Heap} {N:Addr} {m:Str→Option Value} (hN:h.Ns N m) (b:∀ b o,h.get? b=some o→h'.get? b=some o):h'.Ns N m:=by
  refine bq fun bG=>?_
  obtain ⟨o,es,ep,ho,hd,hs,hf⟩:=hN
  exact bG (⟨o,es,ep,b _ _ ho,hd,hs,hf⟩)
section
variable {X:Cx} {E:St→XK} {e:Expr} {te:TE} {np cpos pos:Pos} {x:Str} {C:Addr}
theorem zez (he:PE (X.fl E) e te) (hg:Gl (X.fl E) x) (hm:X.mg x=some (.ref C)) (hC:z4n X.K C) (hc:X.calm=true) (hd:(x==("__debug__" : Str))=false:=by decide)
    (hs:starEach [e] X.env=[(false,eval e X.env)]:=by rfl):PS (X.fl E) (.Raise (some (.Call (.Name x np) [e] [] cpos)) none pos) (fun _ σ H=>te σ H fun _ H1=>E σ (.ref C) none H1):=by
  intro pins s σ H D I h
  have kb:X.K.In X.base:=I.ok.mod.kin
  refine zeb kb hC fun tl N nm q bs hdct sn sub ab col dd k0 k1 k2 k3 k5 mN hCo hN hni T=>?_
  have hpl:(backTo cpos (starEach [e] X.env)).any (·.1)=false:=by rw [hs];rfl
  refine wpAny_Raise_call_subT (C:=C) (nm:=nm) (q:=q) (N:=N) (bs:=bs) (bm:=tl) (hdct:=hdct) (sn:=sn) (sub:=sub) (ab:=ab) (col:=col) (dd:=dd) (k0:=k0) (k1:=k1) (k2:=k2) (k3:=k3) (k5:=k5)
    PySem.F.excBase_ValueError (mN:=mN) (T.hasType PySem.F.excBase_ValueError.hasBase) (I.ok.hd hc) hpl hni (zc7 I hg hm ⟨rfl,?_⟩ hd)
  show wpAny _ _ (evalArgs (.ref C) true (backTo cpos (starEach [e] X.env)) []) _ _ _
  have hpa:PA (X.fl E) [e] (zao te zkc):=z2p he z4v (by show starEach [e] X.env=(false,eval e X.env)::starEach [] X.env;rw [hs];rfl)
  have hq:wpAny (model X.prog X.w) X.A (spliced (backTo cpos (starEach [e] X.env))) (AP (X.fl E) pins σ (fun vs H1=>vs.length=1∧E σ (.ref C) none H1)) (FlX X E) s:=hpa cpos pins s σ H (fun vs H1=>vs.length=1∧E σ (.ref C) none H1) I (by
    unfold zao zkc
    have z:te σ H (fun v H1=>E σ (.ref C) none H1):=h
    simpa using z)
  rw [hs] at hq ⊢
  refine Calls.evalArgs_plain (thn hq fun us s2 hm=>?_)
  obtain ⟨vs,H2,I2,r,hl,hE⟩:=hm
  have base:∀ b o,X.base.get? b=some o→s2.heap.get? b=some o:=I2.bk
  exact ⟨rfl,by rw [← r.length,hl];decide,base _ _ hCo,zov hN base,T.keeps base,fun h' a hx=>⟨a,.ref C,pins,σ,H2,H2,s2,rfl,I2.unwish,hE,.inl ⟨rfl,C,us,h',rfl,rfl,hx⟩⟩⟩
end
noncomputable def DfX (P:Program) (w:World) (K:PySem.W.Frag) (mg:Str→Option Value) (base:Heap) (k:Nat) (x:Str) (ps:List Str) (sp:Sp):Prop :=
  ∃ f fd,FnOk P w K mg base (CXr P w) k f fd ps sp∧Binds K fd ps []∧PySem.W.keepIn K (.ref f)=true∧mg x=some (.ref f)
section
variable {X:Cx} {E:St→XK} {k:Nat} {x m:Str} {ps:List Str} {sp:Sp} {e o:Expr} {es:List Expr} {t:TA} {ta:TE} {p pos apos:Pos} {f C:Addr} {fd:FuncData}
theorem zni {pins:List (Addr×Obj)} {σ:St} {H:Hp} {s:Shared} {Q:VK} {us:List Value} {vs:List V} (F:FnOk X.prog X.w X.K X.mg X.base (CXr X.prog X.w) k f fd ps sp) (hr:Room k X.A) (hb:Binds X.K fd ps [])
    (I:Inv (X.fl E) pins σ H s) (r:Vals vs us) (h:sp vs H Q (E σ)):wpAny (model X.prog X.w) X.A (call (.ref f) us) (EP (X.fl E) pins σ Q) (FlX X E) s:=by
  have hl:us.length=ps.length:=by rw [← r.length];exact F.len _ _ _ _ h
  have hb':=hb s us I.kIn (by simpa using hl)
  simp only [List.append_nil] at hb'
  refine wpAny_call (codeAny_mono (F.run X.A X.stack s H ⟨us,[]⟩ us vs Q (E σ) hr I.env0 hb' r h) fun r s' hq=>?_)
  cases r with
  | error e =>
    obtain ⟨a,C,H',B,rfl,F,hE⟩:=hq
    exact ⟨a,C,pins,σ,H,H',s,rfl,I.unwish,hE,.inr (.inl ⟨B,F⟩)⟩
  | ok fl =>
    cases fl with
    | ret u=>exact I.after hq
    | next=>exact False.elim hq
    | brk=>exact False.elim hq
    | cont=>exact False.elim hq
theorem zqw (D:DfX X.prog X.w X.K X.mg X.base k x ps sp) (hr:Room k X.A) (ha:PA (X.fl E) (e::es) t) (hg:Gl X x:=by rfl) (hdb:(x==("__debug__" : Str))=false:=by decide)
    (he:starEach (e::es) X.env=(false,eval e X.env)::starEach es X.env:=by rfl) (hpl:(backTo pos (starEach es X.env)).any (·.1)=false:=by rfl) :
    PE (X.fl E) (.Call (.Name x p) (e::es) [] pos) (fun σ H Q=>t σ H fun vs H1=>sp vs H1 Q (E σ)):=by
  obtain ⟨f,fd,F,hb,hk,hm⟩:=D
  intro pins s σ H Q I h
  refine wpAny_Call_Name_kw (zc7 I hg hm ?_ hdb)
  refine PySem.W.callWith_K (h₀:=X.base) I.ok.mod.kin hk (thn (ha pos pins s σ H _ I h) fun us s1 ⟨vs,H1,I1,r,q⟩=>⟨I1.kIn,?_⟩) he hpl
  exact zni F hr hb I1 r q
end
theorem Fun.okX {P:Program} {w:World} {K:PySem.W.Frag} {mg:Str→Option Value} {base:Heap} {x qual:Str} {st:Stmt} {f:Addr} {fd:FuncData} {N ps:List Str} {k:Nat} {sp:Sp} (F:Fun K x qual st f fd) (S:FnScope N ps (z06 st)) (len:∀ vs H Q E,sp vs H Q E→vs.length=ps.length)
    (hbody:∀ (cdv:Value) (A:Around) (outer:List Env) (s:Shared) (H:Hp) (vs:List V) (Q:VK) (E:XK),Room k (A.deeper (envOfC qual (z06 st) s.heap.objs.size f cdv))→sp vs H Q E →
      ∃ t,PSs ((z5k (CXr P w) P w K mg base N qual (z06 st) f cdv A outer s H E).fl fun _=>E) (z0i st) t∧t { nx:=fun _ H'=>Q .non H',rt:=Q } (zbp N vs) H):FnOk P w K mg base (CXr P w) (k+1) f fd ps sp:=by
  refine bq fun bG=>?_
  obtain ⟨oc,od,kV,doc,pm,an,cdv,ct,osl,rfl,lk,hcd⟩:=F.ex
  refine bG (zrv lk hcd S len fun A outer s H vs Q E hr hsp=>?_)
  refine bq fun bG=>?_
  obtain ⟨t,h,q⟩:=hbody cdv A outer s H vs Q E hr hsp
  refine bG (⟨t,fun pins s σ H D I hw=>?_,q⟩)
  exact wpAny_mono (h pins s σ H D (I.wish _) hw) (fun _ _ z=>z.unwish) fun e s' z=>ziu z
section
variable {P:Program} {w:World} {outer:List Env} {H H':Hp} {s s':Shared} {e D:Addr} {B:Heap}
end
section
variable {X:Cx} {body suite:List Stmt} {b₀:Stmt} {p hp pos:Pos} {n y:Str} {i:Nat} {C0:Addr} {tb:(St→XK)→TS} {ts:TS}
end
end L2
namespace L3
open PySem PySem.Spec L2
open PyProof.Rows (envOfC)
inductive Rs (α:Type) where
  | ok (a:α) | ex (C:Addr)
noncomputable abbrev EX:=G→M→Option (Rs D×M)
noncomputable abbrev BX:=G→M→Option (Rs Bool×M)
noncomputable abbrev LX:=G→M→Option (Rs (List D)×M)
noncomputable abbrev FX:=List D→M→Option (Rs D×M)
inductive OutX where
  | nx | bk | ct | rt (d:D) | ex (C:Addr)
noncomputable abbrev SX:=G→M→Option (OutX×G×M)
section
variable (K:PySem.W.Frag) (E:St→XK)
def zux (E:XK) (Q:VK) (W':Wd):Rs D→Prop
  | .ok d=>∀ v,DR K W' d v→Q v W'.H
  | .ex C=>E (.ref C) none W'.H
def zu6 (E:XK) (Q:Bool→Hp→Prop) (W':Wd):Rs Bool→Prop
  | .ok b=>Q b W'.H
  | .ex C=>E (.ref C) none W'.H
def zvv (E:XK) (Q:List V→Hp→Prop) (W':Wd):Rs (List D)→Prop
  | .ok ds=>∀ vs,DRs K W' ds vs→Q vs W'.H
  | .ex C=>E (.ref C) none W'.H
def zvu (D:Ends) (W':Wd) (σ':St):OutX→Prop
  | .nx=>D.nx σ' W'.H
  | .bk=>D.bk σ' W'.H
  | .ct=>D.ct σ' W'.H
  | .rt d=>∀ v,DR K W' d v→D.rt v W'.H
  | .ex C=>E σ' (.ref C) none W'.H
def tX (ev:EX):TE:=fun σ H Q=>∃ (W:Wd) (Γ:G) (r:Rs D) (μ':M),W.H=H∧Ok K W∧EnvR K W Γ σ∧ev Γ W.μ=some (r,μ')∧∀ W',W'.μ=μ'→Ok K W'→Step W W'→zux K (E σ) Q W' r
def tXB (ev:BX):TT:=fun σ H Q=>∃ (W:Wd) (Γ:G) (r:Rs Bool) (μ':M),W.H=H∧Ok K W∧EnvR K W Γ σ∧ev Γ W.μ=some (r,μ')∧∀ W',W'.μ=μ'→Ok K W'→Step W W'→zu6 (E σ) Q W' r
def tXL (ev:LX):TA:=fun σ H Q=>∃ (W:Wd) (Γ:G) (r:Rs (List D)) (μ':M),W.H=H∧Ok K W∧EnvR K W Γ σ∧ev Γ W.μ=some (r,μ')∧∀ W',W'.μ=μ'→Ok K W'→Step W W'→zvv K (E σ) Q W' r
def tXS (es:SX):TS:=fun D σ H=>∃ (W:Wd) (Γ:G) (out:OutX) (Γ':G) (μ':M),W.H=H∧Ok K W∧EnvR K W Γ σ∧es Γ W.μ=some (out,Γ',μ')∧∀ W' σ',W'.μ=μ'→Ok K W'→Step W W'→EnvR K W' Γ' σ'→zvu K E D W' σ' out
end
noncomputable def up (ev:EV):EX:=fun Γ μ=>(ev Γ μ).bind fun p=>some (.ok p.1,p.2)
noncomputable def upB (ev:BV):BX:=fun Γ μ=>(ev Γ μ).bind fun p=>some (.ok p.1,p.2)
noncomputable def upL (ev:LV):LX:=fun Γ μ=>(ev Γ μ).bind fun p=>some (.ok p.1,p.2)
noncomputable def upO:Out→OutX
  | .nx=>.nx
  | .bk=>.bk
  | .ct=>.ct
  | .rt d=>.rt d
noncomputable def upS (es:SV):SX:=fun Γ μ=>(es Γ μ).bind fun o=>some (upO o.1,o.2)
theorem zsh {X:Cx} {es:List Expr} {t:TA} (h:PA X.nox es t):PA X es t:=fun pos pins s σ H Q I hw =>
  wpAny_mono (h pos pins s σ H Q (I.wish _) hw) (fun _ _ ⟨v,H',I',r,q⟩=>⟨v,H',I'.unwish,r,q⟩) fun _ _ z=>False.elim z
theorem zsg {X:Cx} {tg:Expr} {t:TG} (h:PG X.nox tg t):PG X tg t:=fun pins s σ H v u Q I r hw =>
  wpAny_mono (h pins s σ H v u Q (I.wish _) r hw) (fun _ _ ⟨σ',H',I',q⟩=>⟨σ',H',I'.unwish,q⟩) fun _ _ z=>False.elim z
section
variable {X:Cx} {E:St→XK} {K:PySem.W.Frag} {e:Expr} {es:List Expr} {st:Stmt} {pos p:Pos} {ev:EV} {bv:BV} {lv:LV} {sv:SV}
theorem zn7:∀ σ H Q,tXB K E (upB bv) σ H Q→tDB K bv σ H Q:=fun σ H Q h=>by
  refine el4 h fun W Γ r μ' eH ok en e q=>?_;subst eH
  refine z04 e fun p e1 e=>?_
  cases e
  exact ⟨W,Γ,p.1,p.2,rfl,ok,en,e1,fun W' h1 h2 h3=>q W' h1 h2 h3⟩
theorem zn6:∀ σ H Q,tXL K E (upL lv) σ H Q→tDL K lv σ H Q:=fun σ H Q h=>by
  refine el4 h fun W Γ r μ' eH ok en e q=>?_;subst eH
  refine z04 e fun p e1 e=>?_
  cases e
  exact ⟨W,Γ,p.1,p.2,rfl,ok,en,e1,fun v W' h1 h2 h3 h4=>q W' h1 h2 h3 v h4⟩
theorem zh8:∀ D σ H,tXS K E (upS sv) D σ H→tDS K sv D σ H:=fun D σ H h=>by
  refine el5 h fun W Γ o Γ' μ' eH ok en e q=>?_;subst eH
  refine bq fun bG=>?_
  obtain ⟨⟨o1,Γ1,μ1⟩,e1,e⟩:=bnd e
  cases e
  refine bG (⟨W,Γ,o1,_,_,rfl,ok,en,e1,fun W' σ' h1 h2 h3 h4=>?_⟩)
  have:=q W' σ' h1 h2 h3 h4
  cases o1 <;> exact this
theorem zdj (h:PT X.nox e (tDB K bv)):PT X e (tXB K E (upB bv)):=zbl h.nox zn7
theorem zmy (h:PA X.nox es (tDL K lv)):PA X es (tXL K E (upL lv)):=zjo (zsh h) zn6
noncomputable def spX (K:PySem.W.Frag) (f:FX):Sp:=fun vs H Q E=>∃ (W:Wd) (ds:List D) (r:Rs D) (μ':M),W.H=H∧Ok K W∧DRs K W ds vs∧f ds W.μ=some (r,μ')∧∀ W',W'.μ=μ'→Ok K W'→Step W W'→zux K E Q W' r
noncomputable def vLX (f:FX) (el:LX):EX:=fun Γ μ=>(el Γ μ).bind fun p=>match p.1 with
  | .ok ds=>f ds p.2
  | .ex C=>some (.ex C,p.2)
theorem znb {f:FX} {el:LX} {r:List V→Hp→VK→XK→Prop} (ra:∀ vs H Q E,spX K f vs H Q E→r vs H Q E):∀ σ H Q,tX K E (vLX f el) σ H Q→tXL K E el σ H fun vs H1=>r vs H1 Q (E σ):=fun σ H Q h=>by
  refine el4 h fun W Γ r μ' eH ok en e q=>?_;subst eH
  refine bq fun bG=>?_
  obtain ⟨⟨p1,p2⟩,e1,e⟩:=bnd e
  refine bG (⟨W,Γ,p1,p2,rfl,ok,en,e1,fun W1 hμ ok1 s1=>?_⟩)
  cases p1 with
  | ex C=>cases e;exact q W1 hμ ok1 s1
  | ok ds=>exact fun vs rv=>ra _ _ _ _ ⟨W1,ds,r,μ',rfl,ok1,rv,by rw [hμ];exact e,fun W2 hμ2 ok2 s2=>q W2 hμ2 ok2 (s1.trans s2)⟩
theorem zmz {x:Str} {ps:List Str} {f:FX} {k:Nat} {el:LX} (D:DfX X.prog X.w X.K X.mg X.base k x ps (spX K f)) (hr:Room k X.A) (ha:PA (X.fl E) (e::es) (tXL K E el)) (hg:Gl X x:=by rfl) (hdb:(x==("__debug__" : Str))=false:=by decide)
    (he:starEach (e::es) X.env=(false,eval e X.env)::starEach es X.env:=by rfl) (hpl:(backTo pos (starEach es X.env)).any (·.1)=false:=by rfl):PE (X.fl E) (.Call (.Name x p) (e::es) [] pos) (tX K E (vLX f el)) :=
  z0v (zqw D hr ha hg hdb he hpl) (znb fun _ _ _ _ z=>z)
end
open PyProof.Rows (envOfC)
section
variable {X:Cx} {E:St→XK} {K:PySem.W.Frag} {e:Expr} {es:List Expr} {st:Stmt} {z5t:List Stmt} {pos p:Pos} {sa sb:SX} {ex:EX}
noncomputable def z6l (a b:SX):SX:=fun Γ μ=>(a Γ μ).bind fun o=>match o.1 with
  | .nx=>b o.2.1 o.2.2
  | x=>some (x,o.2)
theorem z9m:PSs X [] (tXS K E (upS sNx)):=zaj z2t zh8
theorem z6g (h1:PS X st (tXS K E sa)):PSs X [st] (tXS K E sa):=zhw h1
theorem z5o (h1:PS X st (tXS K E sa)) (h2:PSs X z5t (tXS K E sb)):PSs X (st::z5t) (tXS K E (z6l sa sb)):=zaj (zey h1 h2) fun D σ H h=>by
  refine el5 h fun W Γ o Γ' μ' eH ok en e q=>?_;subst eH
  refine bq fun bG=>?_
  obtain ⟨⟨o1,Γ1,μ1⟩,e1,e⟩:=bnd e
  refine bG (⟨W,Γ,o1,Γ1,μ1,rfl,ok,en,e1,fun W1 σ1 hμ ok1 s1 en1=>?_⟩)
  cases o1 with
  | nx=>exact ⟨W1,Γ1,o,Γ',μ',rfl,ok1,en1,by rw [hμ];exact e,fun W2 σ2 hμ2 ok2 s2 en2=>q W2 σ2 hμ2 ok2 (s1.trans s2) en2⟩
  | bk=>cases e;exact q W1 σ1 hμ ok1 s1 en1
  | ct=>cases e;exact q W1 σ1 hμ ok1 s1 en1
  | rt d=>cases e;exact q W1 σ1 hμ ok1 s1 en1
  | ex C=>cases e;exact q W1 σ1 hμ ok1 s1 en1
noncomputable def zeu (ea:EX):SX:=fun Γ μ=>(ea Γ μ).bind fun p=>match p.1 with
  | .ok _=>some (.nx,Γ,p.2)
  | .ex C=>some (.ex C,Γ,p.2)
theorem zgt (he:PE X e (tX K E ex)) (hs:swapsWith e none pos.line X.env=pure false:=by rfl):PS X (.Expr e pos) (tXS K E (zeu ex)):=z51 (zhx he hs) fun D σ H h=>by
  refine el5 h fun W Γ o Γ' μ' eH ok en e q=>?_;subst eH
  refine bq fun bG=>?_
  obtain ⟨⟨p1,p2⟩,e1,e⟩:=bnd e
  refine bG (⟨W,Γ,p1,p2,rfl,ok,en,e1,fun W1 hμ ok1 s1=>?_⟩)
  cases p1 with
  | ex C=>cases e;exact q W1 σ hμ ok1 s1 (en.step ok s1)
  | ok d=>cases e;exact fun v rv=>q W1 σ hμ ok1 s1 (en.step ok s1)
noncomputable def zkm (t:BX) (a b:SX):SX:=fun Γ μ=>(t Γ μ).bind fun p=>match p.1 with
  | .ok c=>if c=true then a Γ p.2 else b Γ p.2
  | .ex C=>some (.ex C,Γ,p.2)
theorem zdk {c:Expr} {a b:List Stmt} {bc:BX} (hc:PT X c (tXB K E bc)) (ha:PSs X a (tXS K E sa)) (hb:PSs X b (tXS K E sb)):PS X (.If c a b pos) (tXS K E (zkm bc sa sb)):=z51 (zqj hc ha hb) fun D σ H h=>by
  refine el5 h fun W Γ o Γ' μ' eH ok en e q=>?_;subst eH
  refine bq fun bG=>?_
  obtain ⟨⟨p1,p2⟩,e1,e⟩:=bnd e
  refine bG (⟨W,Γ,p1,p2,rfl,ok,en,e1,fun W1 hμ ok1 s1=>?_⟩)
  cases p1 with
  | ex C=>cases e;exact q W1 σ hμ ok1 s1 (en.step ok s1)
  | ok k =>
    cases k with
    | true =>
      simp only [zu6,if_true]
      exact ⟨W1,Γ,o,Γ',μ',rfl,ok1,en.step ok s1,by rw [hμ];exact e,fun W2 σ2 hμ2 ok2 s2 en2=>q W2 σ2 hμ2 ok2 (s1.trans s2) en2⟩
    | false =>
      simp only [zu6,Bool.false_eq_true,if_false]
      exact ⟨W1,Γ,o,Γ',μ',rfl,ok1,en.step ok s1,by rw [hμ];exact e,fun W2 σ2 hμ2 ok2 s2 en2=>q W2 σ2 hμ2 ok2 (s1.trans s2) en2⟩
noncomputable def znf (ea:EX) (g:GV):SX:=fun Γ μ=>(ea Γ μ).bind fun p=>match p.1 with
  | .ok d=>(g d Γ p.2).bind fun q=>some (.nx,q.1,q.2)
  | .ex C=>some (.ex C,Γ,p.2)
theorem zp2 {i:Nat} {x:Str} {pos':Pos} (hN:X.N.Nodup) (hi:X.N[i]?=some x) (hx:Loc X.env.scope x) (he:PE X e (tX K E ex)) (hs:swapsWith e (some (.Name x pos')) pos.line X.env=pure false:=by rfl) (hf:X.fn x=true∨X.env.scope.names.lookup x=some .local:=by first | exact .inl rfl | exact .inr rfl | assumption) :
    PS X (.Assign [.Name x pos'] e pos) (tXS K E (znf ex (z02 i))):=z51 (zm7 hN hi hx he hs hf) fun D σ H h=>by
  refine el5 h fun W Γ o Γ' μ' eH ok en e q=>?_;subst eH
  refine bq fun bG=>?_
  obtain ⟨⟨p1,p2⟩,e1,e⟩:=bnd e
  refine bG (⟨W,Γ,p1,p2,rfl,ok,en,e1,fun W1 hμ ok1 s1=>?_⟩)
  cases p1 with
  | ex C=>cases e;exact q W1 σ hμ ok1 s1 (en.step ok s1)
  | ok d=>cases e;exact fun v rv=>q W1 _ hμ ok1 s1 ((en.step ok s1).set rv i)
noncomputable def zlr (c:BX) (body:SX):Nat→SX
  | 0,_,_=>none
  | n+1,Γ,μ=>(c Γ μ).bind fun p=>match p.1 with
    | .ok k=>if k=true then (body Γ p.2).bind fun o=>match o.1 with
        | .nx=>zlr c body n o.2.1 o.2.2
        | .ct=>zlr c body n o.2.1 o.2.2
        | .bk=>some (.nx,o.2)
        | .rt d=>some (.rt d,o.2)
        | .ex C=>some (.ex C,o.2)
      else some (.nx,Γ,p.2)
    | .ex C=>some (.ex C,Γ,p.2)
noncomputable def zoj (c:Ck) (g:GV) (body:SX):List D→SX
  | [],Γ,μ=>some (.nx,Γ,μ)
  | d::r,Γ,μ=>(g d Γ μ).bind fun p=>(body p.1 p.2).bind fun o=>match o.1 with
    | .nx=>chk (z95 c o.2.2) (zoj c g body r o.2.1 o.2.2)
    | .ct=>chk (z95 c o.2.2) (zoj c g body r o.2.1 o.2.2)
    | .bk=>some (.nx,o.2)
    | .rt d=>some (.rt d,o.2)
    | .ex C=>some (.ex C,o.2)
noncomputable def zne (iv:IV) (g:GV) (body:SX):SX:=fun Γ μ=>(iv Γ μ).bind fun s=>zoj s.1.2 g body s.1.1 Γ s.2
theorem zp3 {tg iter:Expr} {body:List Stmt} {iv:IV} {g:GV} (hp:PassesOwn (model X.prog X.w) X.A X.env X.xe) (hc:X.calm=true) (hi:PI X tg iter (tDI K iv)) (hg:PG X tg (tDG K g)) (hb:PSs X body (tXS K E sb))
    (hs:∀ x,foldedSetIterable iter X.env x=pure x:=by intro _;rfl):PS X (.For tg iter body [] pos) (tXS K E (zne iv g sb)):=z51 (zm8 hp hc hi hg hb hs) fun D σ H h=>by
  refine el5 h fun W Γ o Γ' μ' eH ok en e q=>?_;subst eH
  refine bq fun bG=>?_
  obtain ⟨⟨⟨its,c⟩,μ1⟩,e1,e⟩:=bnd e
  refine bG (⟨W,Γ,its,c,μ1,rfl,ok,en,e1,fun J W1 hμ1 ok1 s1 jr=>?_⟩)
  obtain ⟨c1,ds,vs,r1,hj⟩:=jr
  obtain ⟨P,hP⟩:∃ P:Nat→St→Hp→Prop,∀ i σ2 H2,P i σ2 H2↔(i≤its.length∧∃ W2 Γ2,W2.H=H2∧Ok K W2∧Step W1 W2∧EnvR K W2 Γ2 σ2∧z95 c W2.μ∧zoj c g sb (its.drop i) Γ2 W2.μ=some (o,Γ',μ')):=⟨_,fun _ _ _=>Iff.rfl⟩
  refine ⟨fun i m σ2 H2=>m=its.length - i∧P i σ2 H2,⟨its.length,by simp,(hP _ _ _).2 ⟨Nat.zero_le _,W1,Γ,rfl,ok1,.refl,en.step ok s1,c1,by rw [hμ1];exact e⟩⟩,?_⟩
  rintro i m σ2 H2 ⟨rfl,hi⟩
  refine bq fun hG=>?_
  obtain ⟨hi,W2,Γ2,rfl,ok2,s2,en2,c2,e2⟩:=(hP _ _ _).1 hi
  obtain ⟨hstop,hgo⟩:=hj W2 i ok2 c2 (r1.step ok1 s2)
  by_cases hlt:i<its.length
  · have hd:its[i]?=some its[i]:=List.getElem?_eq_getElem hlt
    refine bq fun bG=>?_
    obtain ⟨h1,h2⟩:=hgo _ hd
    rw [List.drop_eq_getElem_cons hlt] at e2
    refine z04 e2 fun p e3 e2=>?_
    obtain ⟨⟨o4,Γ4,μ4⟩,e4,e2⟩:=bnd e2
    refine bG (hG (.inr ⟨h1,P (i+1),fun σ' H' hN=>⟨its.length - (i+1),by omega,rfl,hN⟩,fun x H' hy=>?_⟩))
    refine bq fun hF=>?_
    obtain ⟨W3,rfl,hμ3,ok3,s3,r3⟩:=h2 x H' hy
    refine hF ⟨W3,Γ2,its[i],p.1,p.2,rfl,ok3,en2.step ok2 s3,r3,by rw [hμ3];exact e3,fun W4 σ4 hμ4 ok4 s4 en4=>⟨W4,p.1,o4,Γ4,μ4,rfl,ok4,en4,by rw [hμ4];exact e4,fun W5 σ5 hμ5 ok5 s5 en5=>?_⟩⟩
    have st:=s2.trans (s3.trans (s4.trans s5))
    cases o4 with
    | nx=>refine zbj e2 fun hc5 e2=>?_;exact (hP _ _ _).2 ⟨hlt,W5,Γ4,rfl,ok5,st,en5,by rw [hμ5];exact hc5,by rw [hμ5];exact e2⟩
    | ct=>refine zbj e2 fun hc5 e2=>?_;exact (hP _ _ _).2 ⟨hlt,W5,Γ4,rfl,ok5,st,en5,by rw [hμ5];exact hc5,by rw [hμ5];exact e2⟩
    | bk=>cases e2;exact q W5 σ5 hμ5 ok5 (s1.trans st) en5
    | rt d=>cases e2;exact q W5 σ5 hμ5 ok5 (s1.trans st) en5
    | ex C=>cases e2;exact q W5 σ5 hμ5 ok5 (s1.trans st) en5
  · have e':i=its.length:=by omega
    subst e'
    rw [List.drop_eq_nil_of_le (Nat.le_refl _)] at e2
    cases e2
    exact hG (.inl ⟨hstop (Nat.le_refl _),q W2 σ2 rfl ok2 (s1.trans s2) en2⟩)
noncomputable def zet (C:Addr) (ea:EV):SX:=fun Γ μ=>(ea Γ μ).bind fun p=>some (.ex C,Γ,p.2)
theorem zei {ea:EV} {x:Str} {C:Addr} {np cpos:Pos} (he:PE (X.fl E).nox e (tD K ea)) (hm:X.mg x=some (.ref C)) (hC:z4n X.K C) (hg:Gl X x:=by rfl) (hc:X.calm=true:=by rfl) (hd:(x==("__debug__" : Str))=false:=by decide)
    (hs:starEach [e] X.env=[(false,eval e X.env)]:=by rfl):PS (X.fl E) (.Raise (some (.Call (.Name x np) [e] [] cpos)) none pos) (tXS K E (zet C ea)):=z51 (zez (te:=tD K ea) (PE.nox he) hg hm hC hc hd hs) fun D σ H h=>by
  refine el5 h fun W Γ o Γ' μ' eH ok en e q=>?_;subst eH
  refine z04 e fun p1 e1 e=>?_
  cases e
  exact ⟨W,Γ,p1.1,p1.2,rfl,ok,en,e1,fun v W1 hμ ok1 s1 r1=>q W1 σ hμ ok1 s1 (en.step ok s1)⟩
end
noncomputable def zjr (n m:Nat) (es:SX):FX:=fun ds μ=>if ds.length=m then (es (ds.map some++List.replicate (n - ds.length) none) μ).bind fun o=>match o.1 with
    | .rt d=>some (.ok d,o.2.2)
    | .nx=>some (.ok .non,o.2.2)
    | .ex C=>some (.ex C,o.2.2)
    | _=>none
  else none
theorem zru {P:Program} {w:World} {K:PySem.W.Frag} {mg:Str→Option Value} {base:Heap} {x qual:Str} {st:Stmt} {f:Addr} {fd:FuncData} {N ps:List Str} {k:Nat} {es:SX} (F:Fun K x qual st f fd) (S:FnScope N ps (z06 st))
    (hb:∀ (cdv:Value) (A:Around) (outer:List Env) (s:Shared) (H:Hp) (E:XK),Room k (A.deeper (envOfC qual (z06 st) s.heap.objs.size f cdv))→PSs ((z5k (CXr P w) P w K mg base N qual (z06 st) f cdv A outer s H E).fl fun _=>E) (z0i st) (tXS K (fun _=>E) es)) :
    FnOk P w K mg base (CXr P w) (k+1) f fd ps (spX K (zjr N.length ps.length es)):=by
  refine F.okX S (fun vs H Q E h=>?_) (fun cdv A outer s H vs Q E hr h=>?_)
  · obtain ⟨W,ds,r,μ',_,_,rr,e,_⟩:=h
    unfold zjr at e
    split at e
    · rename_i hl;rw [← rr.length];exact hl
    · cases e
  · obtain ⟨W,ds,r,μ',rfl,ok,rr,e,q⟩:=h
    refine ⟨_,hb cdv A outer s W.H E hr,?_⟩
    unfold zjr at e
    split at e
    · obtain ⟨⟨o,Γ',μ2⟩,e1,e⟩:=bnd e
      refine ⟨W,_,o,Γ',μ2,rfl,ok,zd5 rr,e1,fun W' σ' hμ ok' s' en'=>?_⟩
      cases o with
      | rt z=>cases e;exact q W' hμ ok' s'
      | nx=>cases e;exact q W' hμ ok' s' _ .non
      | ex C=>cases e;exact q W' hμ ok' s'
      | bk=>cases e
      | ct=>cases e
    · cases e
end L3
namespace L2
open PySem PySem.W PySem.Spec PyProof.Rows
section
variable {X:Cx} {a b e:Expr} {es:List Expr} {ta:TE} {p pos:Pos} {c:V} {cs:List V}
end
end L2
namespace L3
open PySem PySem.Spec L2
section
variable {X:Cx} {K:PySem.W.Frag} {a b e:Expr} {es:List Expr} {ea:EV} {p pos:Pos}
end
theorem zsf {X:Cx} {tg iter:Expr} {t:TI} (h:PI X.nox tg iter t):PI X tg iter t:=fun pins s σ H R I hw =>
  wpAny_mono (h pins s σ H R (I.wish _) hw) (fun v s1 z=>wpAny_mono z (fun itv s2 ⟨it,fp,tn,J,H2,e,I2,T,st2,f2,q⟩=>⟨it,fp,tn,J,H2,e,I2.unwish,T,st2,f2,q⟩) fun _ _ z=>False.elim z) fun _ _ z=>False.elim z
section
variable {X:Cx} {E:St→XK} {K:PySem.W.Frag} {e e2:Expr} {es:List Expr} {st:List Stmt} {pos p:Pos} {sv:SV}
theorem zgs (h:PSs X.nox st (tDS K sv)):PSs X st (tXS K E (upS sv)):=zaj h.nox zh8
noncomputable def znj:List EV→G→M→Option M
  | [],_,μ=>some μ
  | ea::r,Γ,μ=>(ea Γ μ).bind fun p=>match p.1 with
    | .int i=>if i.natAbs.log2<1920 then znj r Γ p.2 else none
    | _=>none
def tJ (K:PySem.W.Frag) (l:List EV):St→Hp→(Hp→Prop)→Prop:=fun σ H Q=>∃ (W:Wd) (Γ:G) (μ':M),W.H=H∧Ok K W∧EnvR K W Γ σ∧znj l Γ W.μ=some μ'∧∀ W',W'.μ=μ'→Ok K W'→Step W W'→Q W'.H
theorem zmw {t t':St→Hp→(Hp→Prop)→Prop} (h:PJ X es t) (hi:∀ σ H Q,t' σ H Q→t σ H Q):PJ X es t':=fun pins s σ H Q acc n a b I hw=>h pins s σ H Q acc n a b I (hi _ _ _ hw)
theorem pj0:PJ X [] (tJ K []):=zmw zqn fun σ H Q h=>by
  refine bq fun bG=>?_
  obtain ⟨W,Γ,μ',rfl,ok,en,e,q⟩:=h
  cases e
  exact bG (q W rfl ok .refl)
theorem zgr {x:Str} {j:Nat} {l:List EV} (hx:x.length≤2000) (hr:PJ X es (tJ K l)):PJ X (.Constant (.str x) j p::es) (tJ K l):=zqm hx hr
theorem zky {ea:EV} {l:List EV} (he:PE X e (tD K ea)) (hr:PJ X es (tJ K l)):PJ X (.FormattedValue e (-1) none p::es) (tJ K (ea::l)):=zmw (zqo he hr) fun σ H Q h=>by
  refine bq fun bG=>?_
  obtain ⟨W,Γ,μ',rfl,ok,en,e,q⟩:=h
  refine z04 e fun p1 e1 e=>?_
  refine bG (⟨W,Γ,p1.1,p1.2,rfl,ok,en,e1,fun v W1 hμ ok1 s1 r1=>?_⟩)
  split at e
  · rename_i i hi
    split at e
    · rename_i hl
      rw [hi] at r1
      cases r1
      exact ⟨i,rfl,hl,W1,Γ,μ',rfl,ok1,en.step ok s1,by rw [hμ];exact e,fun W2 hμ2 ok2 s2=>q W2 hμ2 ok2 (s1.trans s2)⟩
    · cases e
  · cases e
def zt8 (K:PySem.W.Frag) (l:List EV):TE:=fun σ H Q=>∃ (W:Wd) (Γ:G) (μ':M),W.H=H∧Ok K W∧EnvR K W Γ σ∧znj l Γ W.μ=some μ'∧∀ v W',W'.μ=μ'→Ok K W'→Step W W'→Q v W'.H
theorem zh1 {l:List EV} (h:PJ X (e::e2::es) (tJ K l)) (hl:(e::e2::es).length≤400:=by decide):PE X (.JoinedStr (e::e2::es) pos) (zt8 K l):=z0v (znz h hl) fun σ H Q h=>by
  refine bq fun bG=>?_
  obtain ⟨W,Γ,μ',rfl,ok,en,e,q⟩:=h
  exact bG (⟨W,Γ,μ',rfl,ok,en,e,fun W' h1 h2 h3 z=>q _ W' h1 h2 h3⟩)
noncomputable def z5s (C:Addr) (l:List EV):SX:=fun Γ μ=>(znj l Γ μ).bind fun μ'=>some (.ex C,Γ,μ')
theorem z5n {l:List EV} {x:Str} {C:Addr} {np cpos:Pos} (he:PE (X.fl E).nox e (zt8 K l)) (hm:X.mg x=some (.ref C)) (hC:z4n X.K C) (hg:Gl X x:=by rfl) (hc:X.calm=true:=by rfl) (hd:(x==("__debug__" : Str))=false:=by decide)
    (hs:starEach [e] X.env=[(false,eval e X.env)]:=by rfl):PS (X.fl E) (.Raise (some (.Call (.Name x np) [e] [] cpos)) none pos) (tXS K E (z5s C l)):=z51 (zez (te:=zt8 K l) (PE.nox he) hg hm hC hc hd hs) fun D σ H h=>by
  refine el5 h fun W Γ o Γ' μ' eH ok en e q=>?_;subst eH
  refine z04 e fun μ1 e1 e=>?_
  cases e
  exact ⟨W,Γ,_,rfl,ok,en,e1,fun v W1 hμ ok1 s1=>q W1 σ hμ ok1 s1 (en.step ok s1)⟩
end
end L3
namespace L2
open PySem PySem.W PySem.Spec PySem.Calls PyProof.Rows PySem.SeqAt
noncomputable def zp1:V→V→Option Bool
  | .int a,.int b=>some (a==b)
  | .bl a,.bl b=>some (a==b)
  | _,_=>none
noncomputable def zs1:Value→Value→Bool
  | .int a _,.int b _=>a==b
  | .bool a,.bool b=>a==b
  | _,_=>false
theorem zs0 {y x:V} {u k:Value} {b:Bool} (h:zp1 y x=some b) (r:RelV y u) (rk:RelV x k):zs1 u k=b∧∀ A s,EqAt A s u k b:=by
  unfold zp1 at h
  split at h
  · cases h
    refine bq fun bG=>?_
    obtain ⟨t,rfl⟩:=r
    obtain ⟨t',rfl⟩:=rk
    exact bG (⟨rfl,fun A s=>(MeetsSeq.EqGives.int _ _ _ _).at _ _⟩)
  · cases h
    cases r
    cases rk
    exact ⟨rfl,fun A s=>EqAt.bool_bool _ _⟩
  · cases h
theorem zj3 {x:V} {k:Value} (rk:RelV x k):∀ {xs:List V} {us:List Value} {bs:List Bool},Vals xs us→L3.optAll (fun y=>zp1 y x) xs=some bs→us.map (fun u=>zs1 u k)=bs∧∀ u∈us,∀ A s,EqAt A s u k (zs1 u k)
  | _,_,_,.nil,e=>by cases e;exact ⟨rfl,fun _ z=>nomatch z⟩
  | _,_,_,.cons r t,e=>by
    refine bq fun bG=>?_
    obtain ⟨b,e1,e⟩:=Option.bind_eq_some_iff.mp e
    obtain ⟨bs,e2,e⟩:=Option.bind_eq_some_iff.mp e
    cases e
    obtain ⟨h1,h2⟩:=zs0 e1 r rk
    obtain ⟨h3,h4⟩:=zj3 rk t e2
    refine bG (⟨by rw [List.map_cons,h1,h3],fun u hu A s=>?_⟩)
    rcases List.mem_cons.mp hu with z | z
    · subst z;rw [h1];exact h2 A s
    · exact h4 u z A s
section
variable {X:Cx} {a o:Expr} {ta to:TE} {p pos:Pos}
def zhs:V→List V→Hp→VK→Prop:=fun x vs H Q=>∃ (l:Addr) (xs:List V) (k:V) (bs:List Bool),x=.ref l∧vs=[k]∧H l=some (.lst xs)∧L3.optAll (fun y=>zp1 y k) xs=some bs∧Q (.int (bs.countP id:Nat)) H
theorem zib:MtM X "list.count" zhs:=by
  intro pins s σ H x vs v us Q I rx rv h
  refine bq fun bG=>?_
  obtain ⟨l,xs,k,bs,rfl,rfl,hH,hb,q⟩:=h
  cases rx
  obtain ⟨u,rfl,ru⟩:=rv.one
  obtain ⟨z,its,n,r,hl,e⟩:=I.lstM hH
  obtain ⟨h1,h2⟩:=zj3 ru r hb
  refine bG (call_meets F.slot_list_count ⟨_,e,rfl⟩ F.entry_list_count (F.args_list_count_2 _ _) (list_countAt l its.toArray n none #[] u (fun y=>zs1 y u)) ⟨e,fun y hy=>h2 y (by simpa using hy) _ _,?_⟩)
  refine ⟨.int _,H,I.tok _,⟨_,rfl⟩,?_⟩
  have ec:its.toArray.toList.countP (fun y=>zs1 y u)=bs.countP id:=by rw [← h1,List.countP_map];rfl
  rw [ec]
  exact q
theorem zll (K:PySem.W.Frag) {apos:Pos} (ho:PE X o to) (ha:PE X a ta) (hs:starEach [a] X.env=[(false,eval a X.env)]:=by rfl)
    (hbase:attributeBase o "count" X.env (eval o X.env)=eval o X.env:=by rfl) (hline:(apos.endLine==pos.line)=true:=by rfl) (hK:X.K=K:=by rfl)
    (hfew:((backTo pos (starEach [a] X.env)).all (fun x=>!x.1)&&(backToKw pos (keywordEach [] X.env)).all (fun x=>x.1.isSome)
      && decide ([a].length+([]:List Keyword).length+(if ([]:List Keyword).isEmpty then 0 else 1)<30))=true:=by rfl) :
    PE X (.Call (.Attribute o "count" apos) [a] [] pos) (tBM K "list" zhs to (zao ta zkc)):=by
  subst hK
  exact zo3 PySem.F.plainAttrs_list PySem.F.slot_list_count PySem.F.type_list_count zib ho (z2p ha z4v hs) hbase hfew hline hs
end
end L2
namespace L3
open PySem PySem.Spec L2
section
variable {X:Cx} {K:PySem.W.Frag} {a:Expr} {ea:EV} {p pos:Pos}
noncomputable def zoo:D→D→Option Bool
  | .int a,.int b=>some (a==b)
  | .bl a,.bl b=>some (a==b)
  | _,_=>none
theorem zon {W:Wd} {d e:D} {v u:V} {b:Bool} (h:zoo d e=some b) (r:DR K W d v) (r2:DR K W e u):zp1 v u=some b:=by
  unfold zoo at h
  split at h
  · cases r;cases r2;exact h
  · cases r;cases r2;exact h
  · cases h
theorem zff {W:Wd} {e:D} {u:V} (r2:DR K W e u):∀ {ds:List D} {vs:List V} {bs:List Bool},DRs K W ds vs→optAll (fun y=>zoo y e) ds=some bs→optAll (fun y=>zp1 y u) vs=some bs
  | _,_,_,.nil,h=>h
  | _,_,_,.cons r t,h=>by
    refine z04 h fun b e1 h=>?_
    refine z04 h fun bs e2 h=>?_
    cases h
    simp only [optAll,zon e1 r r2,zff r2 t e2,Option.bind_some]
noncomputable def z61 (x y:D) (μ:M):Option (D×M):=(zjp μ x).bind fun ds=>(optAll (fun d=>zoo d y) ds).bind fun bs=>some (.int (bs.countP id:Nat),μ)
theorem z9o {o:Expr} {eo:EV} {apos:Pos} (ho:PE X o (tD K eo)) (ha:PE X a (tD K ea)) (hs:starEach [a] X.env=[(false,eval a X.env)]:=by rfl)
    (hbase:attributeBase o "count" X.env (eval o X.env)=eval o X.env:=by rfl) (hline:(apos.endLine==pos.line)=true:=by rfl) (hK:X.K=K:=by rfl)
    (hfew:((backTo pos (starEach [a] X.env)).all (fun x=>!x.1)&&(backToKw pos (keywordEach [] X.env)).all (fun x=>x.1.isSome)
      && decide ([a].length+([]:List Keyword).length+(if ([]:List Keyword).isEmpty then 0 else 1)<30))=true:=by rfl) :
    PE X (.Call (.Attribute o "count" apos) [a] [] pos) (tD K (v2l z61 eo ea)):=z0v (zll K ho ha hs hbase hline hK hfew) (zhe (by
  intro W x y d e z μ' Q ok r1 r2 hf q
  refine z04 hf fun ds h1 hf=>?_
  refine z04 hf fun bs h2 hf=>?_
  cases hf
  obtain ⟨a,vs,rfl,hh,hs⟩:=zbn ok h1 r1
  exact ⟨a,vs,y,bs,rfl,rfl,hh,zff r2 hs h2,q _ W rfl ok .refl (.int _)⟩))
end
class Enc (α:Type) where
  d:α→D
  p:α→PyData
  k:Nat
  py_eq:∀ (a:α) (μ:M) (n:Nat),k<n→py n μ (d a)=some (p a)
  lay:∀ a,(p a).canLay0=true
  dep:∀ a,(p a).depth≤k
  eqv:∀ a b,PyData.eqv (p a) (p b)=true↔a=b
noncomputable instance encInt:Enc Int where
  d i:=.int i
  p i:=.int i
  k:=0
  py_eq a μ n h:=by cases n with | zero=>omega | succ n=>rfl
  lay a:=rfl
  dep a:=by simp [PyData.depth]
  eqv a b:=by simp [PyData.eqv]
noncomputable instance encBool:Enc Bool where
  d i:=.bl i
  p i:=.bool i
  k:=0
  py_eq a μ n h:=by cases n with | zero=>omega | succ n=>rfl
  lay a:=rfl
  dep a:=by simp [PyData.depth]
  eqv a b:=by cases a <;> cases b <;> simp [PyData.eqv]
section
variable {α β γ:Type} [Enc α] [Enc β] [Enc γ]
theorem zcd {μ:M} {n:Nat} (h:Enc.k α<n):∀ l:List α,optAll (py n μ) (l.map Enc.d)=some (l.map Enc.p)
  | []=>rfl
  | a::r=>by simp only [List.map_cons,optAll,Enc.py_eq a μ n h,zcd h r,Option.bind_some]
theorem ze6:∀ l:List α,PyData.canLayAll0 (l.map Enc.p)=true
  | []=>rfl
  | a::r=>by simp only [List.map_cons,PyData.canLayAll0,Enc.lay a,ze6 r,Bool.and_self]
theorem zj7:∀ l:List α,PyData.depthAll (l.map Enc.p)≤Enc.k α
  | []=>by simp [PyData.depthAll]
  | a::r=>by
    have h1:=Enc.dep a
    have h2:=zj7 r
    simp only [List.map_cons,PyData.depthAll]
    omega
theorem zj2:∀ l m:List α,PyData.eqvAll (l.map Enc.p) (m.map Enc.p)=true↔l=m
  | [],[]=>by simp [PyData.eqvAll]
  | [],_::_=>by simp [PyData.eqvAll]
  | _::_,[]=>by simp [PyData.eqvAll]
  | a::r,b::s=>by
    have h1:=Enc.eqv a b
    have h2:=zj2 r s
    simp only [List.map_cons,PyData.eqvAll,Bool.and_eq_true,h1,h2,List.cons.injEq]
noncomputable instance encList:Enc (List α) where
  d l:=.lst (l.map Enc.d)
  p l:=.list (l.map Enc.p)
  k:=Enc.k α+1
  py_eq l μ n h:=by
    cases n with
    | zero=>omega
    | succ n=>rw [zqb,zcd (by omega)];rfl
  lay l:=by simp only [PyData.canLay0];exact ze6 l
  dep l:=by
    have:=zj7 l
    simp only [PyData.depth];omega
  eqv l m:=by simp only [PyData.eqv];exact zj2 l m
end
section
variable {μ:M} {x y:D} {a b:PyData}
noncomputable def isInt:D→Bool
  | .int _=>true
  | _=>false
noncomputable def zin:D→Bool
  | .str _=>true
  | _=>false
theorem zs2 (h:(isInt x&&isInt y)=false) (h2:(zin x&&zin y)=false):eqD x y μ=(py 65 μ x).bind fun d=>(py 65 μ y).bind fun e=>if (d.canLay0&&e.canLay0&&decide (d.depth≤64))=true then some (PyData.eqv d e) else none:=by
  cases x <;> cases y <;> first | rfl | (simp [isInt] at h;done) | (simp [zin] at h2;done)
def Rds (μ:M) (x:D) (α:Type) [Enc α] (a:α):Prop:=py 65 μ x=some (Enc.p a)
variable {α:Type} [Enc α] [DecidableEq α] {s t:α}
theorem zec (hk:Enc.k α≤64) (h1:Rds μ x α s) (h2:Rds μ y α t) (h:(isInt x&&isInt y)=false) (h':(zin x&&zin y)=false):eqD x y μ=some (decide (s=t)):=by
  rw [zs2 h h',h1,h2]
  have l1:=Enc.lay s
  have l2:=Enc.lay t
  have l3:=Enc.dep s
  simp only [Option.bind_some,l1,l2,Bool.and_self,Bool.true_and]
  rw [if_pos (by simp;omega)]
  congr 1
  have:=Enc.eqv s t
  by_cases e:s=t
  · rw [this.mpr e,decide_eq_true e]
  · rw [decide_eq_false e]
    cases hq:PyData.eqv (Enc.p s) (Enc.p t) with
    | false=>rfl
    | true=>exact absurd (this.mp hq) e
end
theorem zks {α:Type} [Enc α] {μ:M} (hk:Enc.k α≤64) (a:α):Rds μ (Enc.d a) α a:=Enc.py_eq a μ 65 (by omega)
theorem zqa {n:Nat} {μ:M} {k:Nat} {ds:List D} (h:μ[k]?=some (some (.lst ds))):py (n+1) μ (.ref k)=(optAll (py n μ) ds).bind fun ys=>some (.list ys):=by
  simp only [py,h]
theorem zhq {α:Type} [Enc α] {μ:M} {k:Nat} {l:List α} (hk:Enc.k α≤63) (h:μ[k]?=some (some (.lst (l.map Enc.d)))):Rds μ (.ref k) (List α) l:=by
  unfold Rds
  rw [zqa h,zcd (by omega)];rfl
theorem zlk {α:Type} [Enc α] [DecidableEq α] {μ:M} {k:Nat} {l m:List α} (hk:Enc.k α≤63) (h:μ[k]?=some (some (.lst (l.map Enc.d)))):eqD (.ref k) (.lst (m.map Enc.d)) μ=some (decide (l=m)) :=
  zec (α:=List α) (by show Enc.k α+1≤64;omega) (zhq hk h) (zks (α:=List α) (by show Enc.k α+1≤64;omega) m) rfl rfl
theorem zab {α:Type} [Enc α] [DecidableEq α] {μ:M} {l m:List α} (hk:Enc.k α≤63):eqD (.lst (l.map Enc.d)) (.lst (m.map Enc.d)) μ=some (decide (l=m)) :=
  zec (α:=List α) (by show Enc.k α+1≤64;omega) (zks (α:=List α) (by show Enc.k α+1≤64;omega) l) (zks (α:=List α) (by show Enc.k α+1≤64;omega) m) rfl rfl
section
variable {Γ:G} {μ:M}
@[simp] theorem up_s {ev:EV} {d:D} {μ1:M} (h:ev Γ μ=some (d,μ1)):up ev Γ μ=some (.ok d,μ1):=by unfold up;rw [h];rfl
end
structure Gr (μ μ':M):Prop where
  len:μ.length≤μ'.length
  at_:∀ j,j<μ.length→μ'[j]?=μ[j]?
theorem Gr.trans {μ μ1 μ2:M} (h:Gr μ μ1) (g:Gr μ1 μ2):Gr μ μ2:=⟨Nat.le_trans h.len g.len,fun j hj=>(g.at_ j (Nat.lt_of_lt_of_le hj h.len)).trans (h.at_ j hj)⟩
theorem Gr.get {j:Nat} {μ μ':M} {o:Option O} (h:Gr μ μ') (e:μ[j]?=some o):μ'[j]?=some o:=(h.at_ j (List.getElem?_eq_some_iff.mp e).1).trans e
theorem gr_app {μ ex:M}:Gr μ (μ++ex):=⟨by simp,fun j hj=>List.getElem?_append_left hj⟩
theorem zlj {α:Type} {f:α→D} {x:D} {e:α→Bool} (h:∀ a,zoo (f a) x=some (e a)) (l:List α):optAll (fun d=>zoo d x) (l.map f)=some (l.map e):=z2u fun a _=>h a
theorem zlg {μ:M} {x y:D} {ds:List D} {bs:List Bool} (h:zjp μ x=some ds) (h2:optAll (fun d=>zoo d y) ds=some bs):z61 x y μ=some (.int (bs.countP id:Nat),μ):=by
  unfold z61;rw [h];simp only [Option.bind_some,h2]
end L3
namespace L2
open PySem PySem.Spec PyProof.Rows
end L2
namespace L3
open PySem PySem.Spec L2
noncomputable def zqf (f:Str) (d:D):List (Str×D)→List (Str×D)
  | []=>[(f,d)]
  | (g,e)::r=>if g=f then (g,d)::r else (g,e)::zqf f d r
section
variable {K:PySem.W.Frag} {W:Wd}
end
section
variable {X:Cx} {K:PySem.W.Frag} {o e value:Expr} {es:List Expr} {f m:Str} {pos pos' tpos apos p:Pos} {eo ev:EV} {el:LV} {C:Addr}
end
noncomputable def dn (f:FX):List D→M→Option (D×M):=fun ds μ=>(f ds μ).bind fun p=>match p.1 with
  | .ok d=>some (d,p.2)
  | .ex _=>none
section
variable {P:Program} {w:World} {K:PySem.W.Frag} {mg:Str→Option Value} {base:Heap} {k:Nat} {f:Addr} {fd:FuncData} {ps:List Str} {g:FX}
theorem zm4:∀ vs H Q E E',spM K (dn g) vs H Q E→spX K g vs H Q E':=fun vs H Q E E' h=>by
  obtain ⟨W,ds,d,μ',h1,h2,h3,e,q⟩:=h
  obtain ⟨⟨r,μ1⟩,e1,e⟩:=bnd e
  cases r with
  | ok d' =>
    have e:some (d',μ1)=some (d,μ'):=e
    obtain ⟨rfl,rfl⟩:d'=d∧μ1=μ':=by cases e;exact ⟨rfl,rfl⟩
    exact ⟨W,ds,.ok d',μ1,h1,h2,h3,e1,fun W' a b c v rv=>q v W' a b c rv⟩
  | ex C=>cases e
theorem zu5 (F:FnOk P w K mg base (CXr P w) k f fd ps (spX K g)):FnOk P w K mg base CX0 k f fd ps (spM K (dn g)):=by
  refine ⟨fun vs H Q E h=>F.len vs H Q E (zm4 vs H Q E E h),fun A outer s H args us vs Q E hr he hb hv hs=>?_⟩
  refine codeAny_mono (F.run A outer s H args us vs Q (fun _ _ _=>False) hr he hb hv (zm4 vs H Q E _ hs)) fun r s' h=>?_
  cases r with
  | ok fl=>cases fl <;> exact h
  | error e =>
    refine bq fun bG=>?_
    obtain ⟨a,C,H',B,_,_,z⟩:=h
    exact bG (z.elim)
theorem Df.dn {x:Str} (D:DfX P w K mg base k x ps (spX K g)):Df P w K mg base k x ps (spM K (L3.dn g)):=let ⟨f,fd,F,r⟩:=D;⟨f,fd,zu5 F,r⟩
end
section
variable {X:Cx} {E:St→XK} {K:PySem.W.Frag} {o e:Expr} {es:List Expr} {m:Str} {pos apos:Pos} {eo:EX} {el:LX} {C:Addr} {g:FX} {k:Nat} {ps:List Str}
end
end L3
namespace L2
open PySem PySem.W PySem.Spec PyProof.Rows
section
variable {X:Cx} {a o:Expr} {ta to:TE} {p pos:Pos}
theorem zkf {ms ns:List Int} (h1:ms.Perm ns) (h2:ms.Pairwise (·≤·)):ms=ns.mergeSort (fun a b=>decide (a≤b)):=by
  have h3:(ns.mergeSort (fun a b=>decide (a≤b))).Pairwise (fun a b=>decide (a≤b)=true):=List.pairwise_mergeSort (fun a b c=>by simp;omega) (fun a b=>by simp;omega) ns
  have h3:(ns.mergeSort (fun a b=>decide (a≤b))).Pairwise (fun a b:Int=>a≤b):=h3.imp fun h=>by simpa using h
  exact List.Perm.eq_of_pairwise (le:=fun a b:Int=>a≤b) (fun a b _ _ h h'=>Int.le_antisymm h h') h2 h3 (h1.trans (List.mergeSort_perm ns _).symm)
end
end L2
namespace L3
open PySem PySem.Spec L2
section
variable {X:Cx} {K:PySem.W.Frag} {a b o:Expr} {ea eb eo:EV} {p pos apos:Pos}
noncomputable def zdq (ns:List Int):List Int:=ns.mergeSort (fun a b=>decide (a≤b))
end
end L3
namespace L2
open PySem PySem.W PySem.Spec PyProof.Rows
section
variable {prog:Program} {w:World} {A:Around} {R:Result→Shared→Prop} {I:Addr} {fp wr:List Addr} {n:Nat} {P:Nat→Value→Prop} {St:Nat→Heap→Prop}
end
section
variable {prog:Program} {w:World} {A:Around} {E:Value→Shared→Prop} {s:Shared}
end
section
variable {X:Cx} {a b:Expr} {ta tb:TE} {p pos:Pos}
end
end L2
namespace L3
open PySem PySem.Spec L2
section
variable {X:Cx} {K:PySem.W.Frag} {a b:Expr} {ea eb:EV} {p pos:Pos}
end
section
variable {K:PySem.W.Frag} {W W1 W':Wd} {p:Addr} {x:O} {h:Addr→Prop}
end
section
variable {X:Cx} {K:PySem.W.Frag} {N' own:List Str} {cap:List (Str×Nat)} {scope:Scope} {tg iter elt:Expr} {ifs:List Expr} {pos:Pos} {iv:IV} {g:GV} {tc:BV} {te:EV}
end
end L3
namespace L2
open PySem PySem.W PySem.Spec PyProof.Rows
section
variable {X:Cx} {k:Nat} {x:Str} {ps:List Str} {sp:Sp} {e:Expr} {es:List Expr} {t:TA} {p pos:Pos} {f:Addr} {fd:FuncData}
end
end L2
namespace L3
open PySem PySem.Spec L2
open PyProof.Rows (envOfC)
section
variable {P:Program} {w:World} {K:PySem.W.Frag} {mg:Str→Option Value} {base:Heap}
end
section
variable {X:Cx} {K:PySem.W.Frag} {e:Expr} {es:List Expr} {p pos:Pos}
end
end L3
namespace L2
open PySem PyProof.Rows
section
open PySem.SeqAt
open PySem.AutoSeq1 (wpAny_loadPart')
open PySem.MeetsSeq PySem.MeetsSeq2 PySem.MeetsSeq3
end
end L2
namespace L3
open PySem PySem.Spec L2
section
variable {X:Cx} {K:PySem.W.Frag} {a b:Expr} {ea eb:EV} {pos p p2 pos2:Pos} {k:Nat} {P:Program} {w:World} {mg:Str→Option Value} {base:Heap}
end
end L3
namespace L2
open PySem PySem.Spec PyProof.Rows
section
variable {prog:Program} {w:World} {A:Around} {E:Value→Shared→Prop} {s:Shared}
end
section
variable {X:Cx} {tg:Expr}
end
end L2
namespace L3
open PySem PySem.Spec L2
section
variable {X:Cx} {K:PySem.W.Frag} {ea:EV} {pos:Pos}
end
section
variable {K:PySem.W.Frag} {W:Wd} {k:Nat} {d:Addr} {x:O} {u:HO}
end
section
variable {X:Cx} {K:PySem.W.Frag} {N' own:List Str} {cap:List (Str×Nat)} {scope:Scope} {kx vx o:Expr} {ifs elts:List Expr} {pos apos cpos tpos:Pos} {eo:EV} {g:GV} {tc:BV} {tk tv:EV} {n:Nat}
end
end L3
namespace L2
open PySem PySem.Spec PyProof.Rows
section
open PySem.SeqAt
open PySem.AutoSeq1 (wpAny_loadPart')
open PySem.MeetsSeq PySem.MeetsSeq2 PySem.MeetsSeq3 PySem.SeqRoads2
theorem zae (l:Addr) (items:Array Value) (n:Nat) (dd:Option Addr) (sl:Array (Option Value)) (x:Value) (e:Nat→Bool) (k:Nat) :
    ∀ i:Nat,items.size - i=k→Meets (Builtin.«list.__contains__.loop» ⟨[.ref l,x,rawInt i],[]⟩)
      (fun A R s=>s.heap.get? l=some { cls:=.type "list",dict:=dd,data:=.seq items n,slots:=sl }∧(∀ j (h:j<items.size),EqAt A.in1 s items[j] x (e j))∧R (.ok (.ret (.bool (((List.range items.size).drop i).any e)))) s):=by
  induction k with
  | zero =>
    intro i hk prog w A R s h
    obtain ⟨hp,g,d,tk,os⟩:=s;obtain ⟨hl,he,h⟩:=h
    wp_walk using wpAny_loadPart' hl
    have hi:items[((i:Nat):Int).toNat]?=none:=by simp;omega
    have hd:(List.range items.size).drop i=[]:=by simp;omega
    rw [hd] at h
    rw [hi]
    wp_walk
    exact h
  | succ k ih =>
    intro i hk prog w A R s h
    obtain ⟨hp,g,d,tk,os⟩:=s;obtain ⟨hl,he,h⟩:=h
    wp_walk using wpAny_loadPart' hl
    have hlt:i<items.size:=by omega
    have hi:items[((i:Nat):Int).toNat]?=some items[i]:=by simp [hlt]
    have hd:(List.range items.size).drop i=i::(List.range items.size).drop (i+1):=by simp [List.drop_eq_getElem_cons,hlt]
    rw [hd,List.any_cons] at h
    rw [hi]
    refine wpAny_bind (he i hlt prog w _ _ ?_)
    cases hb:e i with
    | true =>
      rw [hb] at h
      wp_walk
      exact h
    | false =>
      rw [hb] at h
      have hc:((i:Int)+1)=((i+1:Nat):Int):=by push_cast;rfl
      wp_walk
      rw [hc]
      exact ⟨plainId_quiet plain_contains_loop _,codeAny_builtin entry_contains_loop (by
        rw [Around.under_plainId plain_contains_loop _]
        exact ih (i+1) (by omega) prog w A R _ ⟨hl,he,by simpa using h⟩)⟩
theorem za4 (l:Addr) (items:Array Value) (n:Nat) (dd:Option Addr) (sl:Array (Option Value)) (x:Value) (e:Nat→Bool) :
    Meets (Builtin.«list.__contains__» ⟨[.ref l,x],[]⟩)
      (fun A R s=>s.heap.get? l=some { cls:=.type "list",dict:=dd,data:=.seq items n,slots:=sl }∧(∀ j (h:j<items.size),EqAt A.in1 s items[j] x (e j))∧R (.ok (.ret (.bool ((List.range items.size).any e)))) s):=by
  intro prog w A R s h
  obtain ⟨hp,g,d,tk,os⟩:=s;obtain ⟨hl,he,h⟩:=h
  wp_walk using wpAny_loadPart' hl
  exact ⟨plainId_quiet plain_contains_loop _,codeAny_builtin entry_contains_loop (by
    rw [Around.under_plainId plain_contains_loop _]
    exact zae l items n dd sl x e _ 0 rfl prog w A R _ ⟨hl,he,by simpa using h⟩)⟩
end
theorem zij:∀ {ds:List PyData} {i:Nat} {d:PyData},PyData.canLayAll0 ds=true→ds[i]?=some d→d.canLay0=true
  | [],i,d,_,h=>by simp at h
  | a::r,0,d,hl,h=>by simp [PyData.canLayAll0] at hl;simp at h;subst h;exact hl.1
  | a::r,i+1,d,hl,h=>by simp [PyData.canLayAll0] at hl;simp at h;exact zij hl.2 h
section
variable {X:Cx} {N' own:List Str} {cap:List (Str×Nat)} {scope:Scope} {tg iter elt:Expr} {ifs:List Expr} {pos:Pos} {wi:TI} {g:TG} {tc:TT} {te:TE}
end
end L2
namespace L3
open PySem PySem.Spec L2
section
variable {X:Cx} {K:PySem.W.Frag} {a b:Expr} {ea eb:EV} {pos p:Pos} {k:Nat}
end
section
variable {X:Cx} {E:St→XK} {K:PySem.W.Frag} {N' own:List Str} {cap:List (Str×Nat)} {scope:Scope} {tg iter elt:Expr} {ifs:List Expr} {pos:Pos} {ex:EX} {g:GV} {tc:BV} {te:EV}
end
section
variable {X:Cx} {K:PySem.W.Frag} {a b:Expr} {ea eb:EV} {pos p p2 pos2:Pos} {k:Nat}
theorem zop {W:Wd} (n:Nat):DRs K W (z4l 0 n) ((List.range n).map fun k:Nat=>V.int (k:Int)):=by
  have h:=z9j (K:=K) (W:=W) ((List.range n).map fun k:Nat=>(k:Int))
  rw [List.map_map,List.map_map] at h
  have e:z4l 0 n=(List.range n).map (D.int ∘ fun k:Nat=>(k:Int)):=by
    unfold z4l
    exact List.map_congr_left fun k _=>by simp
  rw [e]
  exact h
end
section
variable {X:Cx} {K:PySem.W.Frag} {a b:Expr} {ea eb:EV} {pos p:Pos} {k:Nat}
end
end L3
namespace L2
open PySem PySem.Spec PyProof.Rows
section
variable {prog:Program} {w:World} {A:Around} {E:Value→Shared→Prop} {s:Shared}
end
section
variable {prog:Program} {w:World} {A:Around} {E:Value→Shared→Prop} {s:Shared}
end
section
variable {X:Cx} {pins:List (Addr×Obj)} {σ:St} {H:Hp} {s:Shared}
end
section
variable {X:Cx}
end
end L2
namespace L3
open PySem PySem.Spec L2
section
variable {X:Cx} {K:PySem.W.Frag} {ea eb:EV} {p pos:Pos}
end
noncomputable def zvk (kvs:List (NK×D)) (k:NK) (v:D):List (NK×D) :=
  if (kvs.any fun kv=>decide (kv.1=k))=true then kvs.map (fun kv=>if kv.1=k then (kv.1,v) else kv) else kvs++[(k,v)]
noncomputable def zvp:D→Option NK
  | .tup [.tup ds,.int n]=>(optAll inI ds).bind fun ns=>some (ns,n)
  | _=>none
noncomputable def zw6 (μ:M):D→Option (List (NK×D))
  | .ref k=>match μ[k]? with
    | some (some (.dN kvs))=>some kvs
    | _=>none
  | _=>none
section
variable {K:PySem.W.Frag} {W:Wd}
theorem ints_of:∀ {ds:List D} {vs:List V} {ns:List Int},optAll inI ds=some ns→DRs K W ds vs→vs=ns.map V.int
  | [],_,ns,h,r=>by cases h;cases r;rfl
  | d::ds,_,ns,h,r=>by
    cases r with
    | cons r1 r2 =>
      simp only [optAll] at h
      refine z04 h fun i e1 h=>?_
      refine z04 h fun is e2 h=>?_
      cases h
      have:=ints_of e2 r2
      subst this
      cases d <;> simp only [inI] at e1 <;> cases e1
      cases r1
      rfl
end
section
variable {X:Cx} {K:PySem.W.Frag} {a b c e o i value:Expr} {ea eb eo ei:EV} {pos p apos pos' pos1:Pos} {k:Nat}
end
end L3
namespace L2
open PySem PySem.Spec PyProof.Rows
section
variable {prog:Program} {w:World} {A:Around} {E:Value→Shared→Prop} {s:Shared}
end
section
variable {X:Cx} {a:Expr} {ta:TE} {p pos:Pos}
end
end L2
namespace L3
open PySem PySem.Spec L2
section
variable {X:Cx} {K:PySem.W.Frag} {a b:Expr} {ea eb:EV} {pos p p2 pos2:Pos} {k:Nat}
end
end L3
namespace L3
open PySem L2
section
variable {X:Cx} {K:PySem.W.Frag} {pos p1 p2 p3 q1 q2 q3:Pos} {k1 k2 k3:Str} {i1 i2 i3:Int}
end
end L3
namespace L2
open PySem PySem.Spec PyProof.Rows
end L2
namespace L3
open PySem L2
section
variable {X:Cx} {K:PySem.W.Frag} {a b:Expr} {ea eb:EV} {pos:Pos}
end
section
variable {X:Cx} {K:PySem.W.Frag} {a b:Expr} {ea eb:EV} {pos p p2 pos2:Pos} {k:Nat}
noncomputable def zcb (x:D) (μ:M):Option (D×M):=match x with
  | .int j=>if 0≤j∧j≤1000000 then some (.ref μ.length,μ++[some (.lst (z4l 0 j.toNat))]) else none
  | _=>none
theorem zjy (ml:X.mg "list" = none) (mr:X.mg "range" = none) (ha:PE X a (tD K ea)) (hc:X.calm=true:=by rfl) (hg:Gl X "range" := by rfl) (hg2:Gl X "list" := by rfl) (hs:starEach [a] X.env=[(false,eval a X.env)]:=by rfl)
    (hs2:starEach [.Call (.Name "range" p2) [a] [] pos2] X.env=[(false,eval (.Call (.Name "range" p2) [a] [] pos2) X.env)]:=by rfl) :
    PE X (.Call (.Name "list" p) [.Call (.Name "range" p2) [a] [] pos2] [] pos) (tD K (v1 zcb ea)):=z0v (zs9 ml (zs6 mr ha hg hs) hg2 hs2 hc) (z6i (r:=fun x H1 Q=>∃ j:Int,x=.int j∧∀ r,H1 r=none→∃ (r':Addr) (n:Nat),[V.ref r]=[.ref r']∧(upd H1 r (.rng 0 j)) r'=some (.rng 0 (n:Int))∧n≤1000000∧∀ l,(upd H1 r (.rng 0 j)) l=none→Q (.ref l) (upd (upd H1 r (.rng 0 j)) l (.lst ((List.range n).map fun k:Nat=>V.int (k:Int))))) (by
  intro W x d z μ' Q ok r1 hf q
  unfold zcb at hf
  split at hf
  · rename_i j
    split at hf
    · rename_i hj
      cases hf
      cases r1
      refine ⟨j,rfl,fun r hr=>⟨r,j.toNat,rfl,by rw [z15];congr 2;omega,by omega,fun l hl=>?_⟩⟩
      have ok1:=z5v (o:=.rng 0 j) ok hr
      have hl1:(W.lay r (.rng 0 j)).H l=none:=hl
      exact q _ ((W.lay r (.rng 0 j)).new l (.lst ((List.range j.toNat).map fun k:Nat=>V.int (k:Int))) (.lst (z4l 0 j.toNat))) rfl (zi5 ok1 hl1 ⟨_,rfl,zop _⟩) ((z0w hr).trans (z4y ok1 hl1)) (zj6 ok1)
    · cases hf
  · cases hf))
end
end L3
namespace L2
open PySem PySem.Spec PyProof.Rows
section
open PySem.SeqAt
open PySem.AutoSeq1 (wpAny_loadPart')
open PySem.MeetsSeq PySem.MeetsSeq2 PySem.MeetsSeq3 PySem.SeqRoads2
theorem zd0 {prog:Program} {w:World} {A:Around} {E:Value→Shared→Prop} {s:Shared} {l:Addr} {items:Array Value} {x:Value} {Q:Value→Shared→Prop} (e:Nat→Bool) (hl:s.heap.IsList l items) (he:∀ j (h:j<items.size),EqAt A.in1 s items[j] x (e j))
    (h:Q (.bool (!(List.range items.size).any e)) s):wpAny (model prog w) A (compareOp .NotIn x (.ref l)) Q E s:=by
  obtain ⟨⟨cls,dd,data,sl⟩,ho,hc,n,hd⟩:=id hl
  simp only at hc hd
  subst hc hd
  exact notIn_meets ⟨_,ho,rfl⟩ F.slot_list_contains F.entry_list_contains (F.args_list_contains_2 _ _) (za4 l items n dd sl x e) ⟨ho,he,_,rfl,h⟩
end
theorem zi2 {X:Cx} (hu:X.A.units+64<cLine):OpR X (compareOp .NotIn) (fun x y H Q=>∃ p xs ds d,y=.ref p∧SqL X.K H p xs∧Dps X.K H xs ds∧Dp X.K H x d∧(PyData.canLayAll0 ds&&d.canLay0&&decide (d.depth≤60))=true∧Q (.bl (!ds.any fun e=>PyData.eqv e d)) H):=by
  intro pins s σ H x y v u Q I rx ry h
  refine bq fun bG=>?_
  obtain ⟨p,xs,ds,d,rfl,hq,hs,hd,hc,q⟩:=h
  simp only [Bool.and_eq_true,decide_eq_true_eq] at hc
  cases ry
  obtain ⟨its,rv,pl,hz⟩:=I.list hq
  obtain ⟨as,r1⟩:=hd.reads I rx
  have hl:=rv.length
  have hl2:=hs.len
  refine bG (zd0 (fun j=>PyData.eqv (ds.getD j .none) d) pl.isList (fun j hj=>?_) ?_)
  · have hj':j<its.length:=by simpa using hj
    have hx:xs[j]?=some (xs[j]'(by omega)):=List.getElem?_eq_getElem (by omega)
    obtain ⟨e,he,hde⟩:=hs.get hx
    obtain ⟨w,hw,rw'⟩:=rv.get hx
    obtain ⟨bs,r2⟩:=hde.reads I rw'
    have e1:its.toArray[j]=w:=by
      have:its[j]?=some (its[j]'hj'):=List.getElem?_eq_getElem hj'
      rw [this] at hw
      cases hw
      simp
    have e2:ds.getD j .none=e:=by simp [List.getD_eq_getElem?_getD,he]
    rw [e1,e2]
    refine SeqAt.eqAt_reads e d _ s _ _ _ _ r2 r1 (zij hc.1.1 he) hc.1.2 ?_
    have:X.A.in1.units≤X.A.units+1:=by simp [Around.in1]
    have:=Nat.min_le_right e.depth d.depth
    omega
  · have e:(List.range its.toArray.size).any (fun j=>PyData.eqv (ds.getD j .none) d)=ds.any fun e=>PyData.eqv e d:=by
      have hsz:its.toArray.size=ds.length:=by simp;omega
      rw [hsz,Bool.eq_iff_iff]
      simp only [List.any_eq_true,List.mem_range]
      constructor
      · rintro ⟨j,hj,e⟩
        exact ⟨ds[j],List.getElem_mem _,by simpa [List.getD_eq_getElem?_getD,List.getElem?_eq_getElem hj] using e⟩
      · rintro ⟨e,hm,he⟩
        refine bq fun bG=>?_
        obtain ⟨j,hj⟩:=List.getElem?_of_mem hm
        exact bG (⟨j,(List.getElem?_eq_some_iff.mp hj).1,by simpa [List.getD_eq_getElem?_getD,hj] using he⟩)
    rw [e]
    exact ⟨.bl _,H,I,rfl,q⟩
end L2
namespace L3
open PySem PySem.Spec L2
section
variable {X:Cx} {K:PySem.W.Frag} {a b:Expr} {ea eb:EV} {pos p:Pos} {k:Nat}
noncomputable def z3f (x y:D) (μ:M):Option (D×M):=(z92 μ y).bind fun ds=>(optAll (py 65 μ) ds).bind fun es=>(py 65 μ x).bind fun d=>if (PyData.canLayAll0 es&&d.canLay0&&decide (d.depth≤60))=true then some (.bl (!es.any fun e=>PyData.eqv e d),μ) else none
theorem zhr:R2A K (fun x y H Q=>∃ p xs ds d,y=.ref p∧SqL K H p xs∧Dps K H xs ds∧Dp K H x d∧(PyData.canLayAll0 ds&&d.canLay0&&decide (d.depth≤60))=true∧Q (.bl (!ds.any fun e=>PyData.eqv e d)) H) z3f:=by
  intro W x y d e z μ' Q ok r1 r2 hf q
  unfold z3f at hf
  refine z04 hf fun ds h1 hf=>?_
  refine z04 hf fun es h2 hf=>?_
  obtain ⟨d',h3,hf⟩:=bnd hf
  split at hf
  · rename_i hc
    cases hf
    refine bq fun bG=>?_
    obtain ⟨a,vs,rfl,hs,hv⟩:=z54 ok h1 r2
    exact bG (⟨a,vs,es,d',rfl,hs,z6s (zbv ok 65) hv h2,zbv ok _ _ _ _ r1 h3,hc,q _ W rfl ok .refl (.bl _)⟩)
  · cases hf
theorem z9n (hr:Room k X.A) (ha:PE X a (tD K ea)) (hb:PE X b (tD K eb)) (hm:behindInMarks .NotIn b=false:=by rfl) (hK:X.K=K:=by rfl):PT X (.Compare a [.NotIn] [b] pos) (tDB K (vT (v2 z3f ea eb))):=by
  subst hK;exact zay (zi2 hr.units) zhr ha hb hm
end
end L3
namespace Ts
open PySem PyProof.Rows Tim
structure Od (R:Keyed→Keyed→Bool):Prop where
  asym:∀ a b,R a b=true→R b a=false
  ntr:∀ a b c,R a b=false→R b c=false→R a c=false
def Le (R:Keyed→Keyed→Bool) (a b:Keyed):Prop:=R b a=false
section
variable {R:Keyed→Keyed→Bool}
theorem Od.refl (o:Od R) (a:Keyed):Le R a a:=by
  unfold Le
  cases h:R a a with
  | false=>rfl
  | true=>rw [← h];exact o.asym a a h
theorem Od.trans (o:Od R) {a b c:Keyed} (h:Le R a b) (g:Le R b c):Le R a c:=o.ntr c b a g h
theorem Od.lt (o:Od R) {a b:Keyed} (h:R a b=true):Le R a b:=o.asym a b h
theorem Od.lt_le (o:Od R) {a b c:Keyed} (h:R a b=true) (g:Le R b c):R a c=true:=by
  cases z:R a c with
  | true=>rfl
  | false=>rw [o.ntr a c b z g] at h;cases h
theorem Od.le_lt (o:Od R) {a b c:Keyed} (h:Le R a b) (g:R b c=true):R a c=true:=by
  cases z:R a c with
  | true=>rfl
  | false=>rw [o.ntr b a c h z] at g;cases g
def Seg (R:Keyed→Keyed→Bool) (x:Array Keyed) (i j:Nat):Prop:=∀ p q a b,i≤p→p≤q→q<j→x[p]?=some a→x[q]?=some b→Le R a b
def Dsc (R:Keyed→Keyed→Bool) (x:Array Keyed) (i j:Nat):Prop:=∀ p q a b,i≤p→p≤q→q<j→x[p]?=some a→x[q]?=some b→Le R b a
def Eqs (R:Keyed→Keyed→Bool) (x:Array Keyed) (i j:Nat):Prop:=∀ p q a b,i≤p→p<j→i≤q→q<j→x[p]?=some a→x[q]?=some b→Le R a b
theorem Seg.one (o:Od R) {x:Array Keyed} {i:Nat}:Seg R x i (i+1):=fun p q a b h1 h2 h3 e1 e2=>by
  have:p=q:=by omega
  subst this
  rw [e1] at e2;cases e2
  exact o.refl a
theorem Seg.snoc (o:Od R) {x:Array Keyed} {i j:Nat} (h:Seg R x i j) (hij:i<j) (hl:∀ a b,x[j - 1]?=some a→x[j]?=some b→Le R a b) (hj:j - 1<x.size):Seg R x i (j+1):=fun p q a b h1 h2 h3 e1 e2=>by
  by_cases hq:q<j
  · exact h p q a b h1 h2 hq e1 e2
  · have:q=j:=by omega
    subst this
    by_cases hp:p=q
    · subst hp;rw [e1] at e2;cases e2;exact o.refl a
    · have ec:x[q - 1]?=some x[q - 1]:=Array.getElem?_eq_getElem hj
      exact o.trans (h p (q - 1) a _ h1 (by omega) (by omega) e1 ec) (hl _ _ ec e2)
theorem Dsc.snoc (o:Od R) {x:Array Keyed} {i j:Nat} (h:Dsc R x i j) (hij:i<j) (hl:∀ a b,x[j - 1]?=some a→x[j]?=some b→Le R b a) (hj:j - 1<x.size):Dsc R x i (j+1):=fun p q a b h1 h2 h3 e1 e2=>by
  by_cases hq:q<j
  · exact h p q a b h1 h2 hq e1 e2
  · have:q=j:=by omega
    subst this
    by_cases hp:p=q
    · subst hp;rw [e1] at e2;cases e2;exact o.refl a
    · have ec:x[q - 1]?=some x[q - 1]:=Array.getElem?_eq_getElem hj
      exact o.trans (hl _ _ ec e2) (h p (q - 1) a _ h1 (by omega) (by omega) e1 ec)
theorem Eqs.one (o:Od R) {x:Array Keyed} {i j:Nat} (h:j≤i+1):Eqs R x i j:=fun p q a b h1 h2 h3 h4 e1 e2=>by
  have:p=q:=by omega
  subst this
  rw [e1] at e2;cases e2
  exact o.refl a
theorem Eqs.snoc (o:Od R) {x:Array Keyed} {i j:Nat} (h:Eqs R x i j) (hij:i<j) (h1:∀ a b,x[j - 1]?=some a→x[j]?=some b→Le R a b∧Le R b a) (hj:j - 1<x.size):Eqs R x i (j+1):=fun p q a b g1 g2 g3 g4 e1 e2=>by
  have ec:x[j - 1]?=some x[j - 1]:=Array.getElem?_eq_getElem hj
  by_cases hp:p<j
  · by_cases hq:q<j
    · exact h p q a b g1 hp g3 hq e1 e2
    · have:q=j:=by omega
      subst this
      exact o.trans (h p (q - 1) a _ g1 hp (by omega) (by omega) e1 ec) (h1 _ _ ec e2).1
  · have:p=j:=by omega
    subst this
    by_cases hq:q<p
    · exact o.trans (h1 _ _ ec e1).2 (h (p - 1) q _ b (by omega) (by omega) g3 hq ec e2)
    · have:p=q:=by omega
      subst this
      rw [e1] at e2;cases e2
      exact o.refl a
theorem Eqs.dsc {x:Array Keyed} {i j:Nat} (h:Eqs R x i j):Dsc R x i j:=fun p q a b h1 h2 h3 e1 e2=>h q p b a (by omega) h3 h1 (by omega) e2 e1
theorem Dsc.mirror {x:Array Keyed} {lo hi i j:Nat} (h:Dsc R x lo hi) (he:Eqs R x i j) (hj:j≤x.size) (h1:lo≤i) (h2:j≤hi):Dsc R (mirror x i j ((j - i) / 2)) lo hi:=fun p q a b g1 g2 g3 e1 e2=>by
  rw [getElem?_mirror_all hj] at e1 e2
  by_cases hp:i≤p∧p<j
  · rw [if_pos hp] at e1
    by_cases hq:i≤q∧q<j
    · rw [if_pos hq] at e2
      exact he _ _ b a (by omega) (by omega) (by omega) (by omega) e2 e1
    · rw [if_neg hq] at e2
      exact h _ _ a b (by omega) (by omega) g3 e1 e2
  · rw [if_neg hp] at e1
    by_cases hq:i≤q∧q<j
    · rw [if_pos hq] at e2
      exact h _ _ a b g1 (by omega) (by omega) e1 e2
    · rw [if_neg hq] at e2
      exact h _ _ a b g1 g2 g3 e1 e2
theorem Dsc.turn {x:Array Keyed} {i j:Nat} (h:Dsc R x i j) (hj:j≤x.size):Seg R (PyProof.Rows.mirror x i j ((j - i) / 2)) i j:=fun p q a b g1 g2 g3 e1 e2=>by
  rw [getElem?_mirror_all hj] at e1 e2
  rw [if_pos (by omega)] at e1 e2
  exact h _ _ b a (by omega) (by omega) (by omega) e2 e1
end
def Same (x y:Array Keyed) (i j:Nat):Prop:=∀ k,(k<i∨j≤k)→y[k]?=x[k]?
theorem Same.refl {x:Array Keyed} {i j:Nat}:Same x x i j:=fun _ _=>rfl
theorem Same.trans {x y z:Array Keyed} {i j:Nat} (h:Same x y i j) (g:Same y z i j):Same x z i j:=fun k hk=>(g k hk).trans (h k hk)
theorem Same.mono {x y:Array Keyed} {i j i' j':Nat} (h:Same x y i j) (h1:i'≤i) (h2:j≤j'):Same x y i' j':=fun k hk=>h k (by omega)
theorem z5b {x:Array Keyed} {i j:Nat} (hj:j≤x.size):Same x (mirror x i j ((j - i) / 2)) i j:=fun k hk=>by
  rw [getElem?_mirror_all hj,if_neg (by omega)]
theorem Seg.same {R:Keyed→Keyed→Bool} {x y:Array Keyed} {i j i' j':Nat} (h:Seg R x i j) (g:Same x y i' j') (hd:j≤i'∨j'≤i):Seg R y i j:=fun p q a b h1 h2 h3 e1 e2=>by
  rw [g p (by omega)] at e1
  rw [g q (by omega)] at e2
  exact h p q a b h1 h2 h3 e1 e2
structure TWG (kd:SortKind) (a0:List Keyed) (pe:Array (Nat×Nat×Nat)) (st:SortSt):Prop where
  perm:(arrOf st).toList.Perm a0
  kind:kindOf st=kd
  failed:failedOf st=none
  pend:pendingOf st=pe
section
variable {prog:Program} {w:World} {A:Around} {E:Value→Shared→Prop} {s:Shared} {kd:SortKind} {a0:List Keyed} {pe:Array (Nat×Nat×Nat)} {st:SortSt} {Gd:Keyed→Prop} {R:Keyed→Keyed→Bool}
theorem TWG.size (h:TWG kd a0 pe st):(arrOf st).size=a0.length:=by rw [← Array.length_toList];exact h.perm.length_eq
theorem TWG.setArr (h:TWG kd a0 pe st) {xs:Array Keyed} (hp:xs.Perm (arrOf st)):TWG kd a0 pe (setArr st xs) :=
  ⟨(Array.perm_iff_toList_perm.mp hp).trans h.perm,h.kind,h.failed,h.pend⟩
theorem TWG.at_ (h:TWG kd a0 pe st) {i:Nat} {a:Keyed} (e:(arrOf st)[i]?=some a):a∈a0:=by
  have:a∈(arrOf st).toList:=by
    obtain ⟨hi,e⟩:=Array.getElem?_eq_some_iff.mp e
    rw [← e];simp
  exact h.perm.mem_iff.mp this
noncomputable def LtOk (prog:Program) (w:World) (A:Around) (E:Value→Shared→Prop) (s:Shared) (kd:SortKind) (Gd:Keyed→Prop) (R:Keyed→Keyed→Bool):Prop :=
  ∀ (st:SortSt) (x y:Keyed) (Q:Option Bool→SortSt→Prop),kindOf st=kd→Gd x→Gd y→Q (some (R x y)) st→wpS (model prog w) A E s (lt' x y) Q st
theorem z13 {arr:Array Keyed} {i:Nat} {Q:Keyed→SortSt→Prop} (hi:i<arr.size) (h:∀ p,arr[i]?=some p→Q p st):wpS (model prog w) A E s (elem' arr i) Q st:=by
  rw [elem'_eq,Array.getElem?_eq_getElem hi]
  exact wpS_pure (h _ (Array.getElem?_eq_getElem hi))
theorem z7s (L:LtOk prog w A E s kd Gd R) (hg:∀ p∈a0,Gd p) {i j:Nat} {Q:Option Bool→SortSt→Prop} (hW:TWG kd a0 pe st) (hi:i<a0.length) (hj:j<a0.length) (h:∀ a b,(arrOf st)[i]?=some a→(arrOf st)[j]?=some b→Q (some (R a b)) st):wpS (model prog w) A E s (ltAt' i j) Q st:=by
  rw [ltAt'_eq]
  refine wpS_bind (wpS_get ?_)
  show wpS _ _ _ _ (do let x ← elem' (arrOf st) i;let y ← elem' (arrOf st) j;lt' x y) Q st
  refine wpS_bind (z13 (by rw [hW.size];exact hi) fun p hp=>wpS_bind (z13 (by rw [hW.size];exact hj) fun q hq=>?_))
  exact L st p q Q hW.kind (hg _ (hW.at_ hp)) (hg _ (hW.at_ hq)) (h p q hp hq)
theorem zpo (o:Od R) (L:LtOk prog w A E s kd Gd R) (hg:∀ p∈a0,Gd p) {lo m ok:Nat} {Q:Bool→SortSt→Prop} (hW:TWG kd a0 pe st) (hm:lo+m≤a0.length) (hok:ok≤m) (hs:Seg R (arrOf st) lo (lo+ok))
    (h:∀ st',TWG kd a0 pe st'→Seg R (arrOf st') lo (lo+m)→Same (arrOf st) (arrOf st') lo (lo+m)→Q true st'):wpS (model prog w) A E s (binarySort' lo m ok) Q st:=by
  rw [binarySort'_eq]
  refine wpS_bind (wpS_mono (wpS_forRange (I:=fun k c st'=>c=(none,())∧TWG kd a0 pe st'∧Seg R (arrOf st') lo (lo+min k m)∧Same (arrOf st) (arrOf st') lo (lo+m)) (Q:=fun c st'=>c=(none,())∧TWG kd a0 pe st'∧Seg R (arrOf st') lo (lo+m)∧Same (arrOf st) (arrOf st') lo (lo+m)) ?step ?fin ?init) ?post)
  case post =>
    rintro c st' ⟨rfl,hW',h1,h2⟩
    exact wpS_pure (h st' hW' h1 h2)
  case init =>
    refine ⟨rfl,hW,?_,Same.refl⟩
    by_cases h1:ok=0
    · intro p q a b g1 g2 g3 e1 e2
      exact Seg.one o (i:=lo) p q a b g1 g2 (by omega) e1 e2
    · rw [show min (max ok 1) m=ok by omega];exact hs
  case fin =>
    rintro c st' ⟨hc,hW',h1,h2⟩
    rw [show min (max (max ok 1) m) m=m by omega] at h1
    exact ⟨hc,hW',h1,h2⟩
  case step =>
    rintro k c st' hak hkn ⟨rfl,hW',hs',hsm⟩
    rw [show min k m=k by omega] at hs'
    have hsz:=hW'.size
    obtain ⟨key,hkey⟩:∃ key,(arrOf st')[lo+k]?=some key:=⟨_,Array.getElem?_eq_getElem (by omega)⟩
    refine wpS_bind (wpS_mono (wpS_forRange (I:=fun x c st''=>st''=st'∧∃ l r,c=(none,l,r)∧l≤r∧r≤k∧r - l≤k - x∧(∀ i a,i<l→(arrOf st')[lo+i]?=some a→Le R a key)∧(∀ i a,r≤i→i<k→(arrOf st')[lo+i]?=some a→R key a=true))
      (Q:=fun c st''=>st''=st'∧∃ l r,c=(none,l,r)∧l≤k∧(∀ i a,i<l→(arrOf st')[lo+i]?=some a→Le R a key)∧(∀ i a,l≤i→i<k→(arrOf st')[lo+i]?=some a→R key a=true)) ?istep ?ifin ⟨rfl,0,k,rfl,by omega,by omega,by omega,fun i a hi=>by omega,fun i a h1 h2=>by omega⟩) ?ipost)
    case ifin =>
      rintro c st'' ⟨rfl,l,r,rfl,hlr,hrk,hmm,hlo,hhi⟩
      have:l=r:=by omega
      subst this
      exact ⟨rfl,l,l,rfl,hrk,hlo,hhi⟩
    case istep =>
      rintro x c st'' _ hxk ⟨rfl,l,r,rfl,hlr,hrk,hmm,hlo,hhi⟩
      dsimp only
      by_cases hge:l≥r
      · rw [if_pos hge]
        have:l=r:=by omega
        subst this
        exact wpS_pure ⟨rfl,l,l,rfl,hrk,hlo,hhi⟩
      · rw [if_neg hge]
        refine wpS_bind (z7s L hg hW' (by omega) (by omega) fun a b ea eb=>?_)
        rw [hkey] at ea;cases ea
        cases hb:R key b with
        | true =>
          refine wpS_pure ⟨rfl,l,(l+r) / 2,rfl,by omega,by omega,by omega,hlo,fun i a h1 h2 e=>?_⟩
          exact o.lt_le hb (hs' _ _ b a (by omega) (by omega) (by omega) eb e)
        | false =>
          refine wpS_pure ⟨rfl,(l+r) / 2+1,r,rfl,by omega,by omega,by omega,fun i a h1 e=>?_,hhi⟩
          exact o.trans (hs' _ _ a b (by omega) (by omega) (by omega) e eb) hb
    case ipost =>
      rintro c st'' ⟨rfl,l,r,rfl,hlk,hlo,hhi⟩
      show wpS _ _ _ _ (do moveDown' (lo+k) (lo+l);pure (ForInStep.yield (none,()))) _ _
      rw [moveDown'_eq]
      refine wpS_bind (wpS_modify (wpS_pure ⟨rfl,hW'.setArr (bubble_perm _ _ _),?_,?_⟩))
      · rw [show min (k+1) m=k+1 by omega]
        intro p q a b g1 g2 g3 e1 e2
        have e1:(bubble (arrOf st'') (lo+k) (lo+k - (lo+l)))[p]?=some a:=e1
        have e2:(bubble (arrOf st'') (lo+k) (lo+k - (lo+l)))[q]?=some b:=e2
        rw [getElem?_bubble (by omega) _ (by omega)] at e1 e2
        rw [show lo+k - (lo+k - (lo+l))=lo+l by omega] at e1 e2
        by_cases p1:p=lo+l
        · rw [if_pos p1,hkey] at e1
          cases e1
          by_cases q1:q=lo+l
          · rw [if_pos q1,hkey] at e2;cases e2;exact o.refl _
          · rw [if_neg q1,if_pos (by omega)] at e2
            exact o.lt (hhi (q - 1 - lo) b (by omega) (by omega) (by rw [show lo+(q - 1 - lo)=q - 1 by omega];exact e2))
        · rw [if_neg p1] at e1
          by_cases q1:q=lo+l
          · rw [if_pos q1,hkey] at e2
            cases e2
            rw [if_neg (by omega)] at e1
            exact hlo (p - lo) a (by omega) (by rw [show lo+(p - lo)=p by omega];exact e1)
          · rw [if_neg q1] at e2
            by_cases p2:lo+l<p∧p≤lo+k
            · rw [if_pos p2] at e1
              rw [if_pos (by omega)] at e2
              exact hs' _ _ a b (by omega) (by omega) (by omega) e1 e2
            · rw [if_neg p2] at e1
              by_cases q2:lo+l<q∧q≤lo+k
              · rw [if_pos q2] at e2
                exact hs' _ _ a b (by omega) (by omega) (by omega) e1 e2
              · rw [if_neg q2] at e2
                exact hs' _ _ a b (by omega) (by omega) (by omega) e1 e2
      · refine hsm.trans fun j hj=>?_
        show (bubble (arrOf st'') (lo+k) (lo+k - (lo+l)))[j]?=_
        rw [getElem?_bubble (by omega) _ (by omega),if_neg (by omega),if_neg (by omega)]
end
section
variable {prog:Program} {w:World} {A:Around} {E:Value→Shared→Prop} {s:Shared} {kd:SortKind} {a0:List Keyed} {pe:Array (Nat×Nat×Nat)} {st:SortSt} {Gd:Keyed→Prop} {R:Keyed→Keyed→Bool}
theorem zel {i j:Nat} {Q:Unit→SortSt→Prop} (h:Q () (setArr st (mirror (arrOf st) i j ((j - i) / 2)))):wpS (model prog w) A E s (reverseSlice' i j) Q st:=by
  rw [reverseSlice'_eq];exact wpS_modify h
theorem zhb (o:Od R) (L:LtOk prog w A E s kd Gd R) (hg:∀ p∈a0,Gd p) {lo m nrem:Nat} {Q:Option Nat→SortSt→Prop} (hW:TWG kd a0 pe st) (hn:lo+nrem≤a0.length) (h1:1≤m) (hm:m≤nrem) (hd:Dsc R (arrOf st) lo (lo+m))
    (h:∀ k st',TWG kd a0 pe st'→1≤k→k≤nrem→Seg R (arrOf st') lo (lo+k)→Same (arrOf st) (arrOf st') lo (lo+nrem)→Q (some k) st') :
    wpS (model prog w) A E s (do
      reverseSlice' lo (lo+m)
      let mut n:=m
      for _ in [n:nrem] do
        let some smaller ← ltAt' (lo+n) (lo+n - 1) | return none
        if smaller then break
        n:=n+1
      return some n) Q st:=by
  have hz:=hW.size
  refine wpS_bind (zel ?_)
  have hW1:=hW.setArr (mirror_perm (arrOf st) lo (lo+m) ((lo+m - lo) / 2))
  have hs1:Seg R (arrOf (setArr st (mirror (arrOf st) lo (lo+m) ((lo+m - lo) / 2)))) lo (lo+m):=hd.turn (by omega)
  have hsm:Same (arrOf st) (arrOf (setArr st (mirror (arrOf st) lo (lo+m) ((lo+m - lo) / 2)))) lo (lo+nrem):=(z5b (x:=arrOf st) (i:=lo) (j:=lo+m) (by omega)).mono (by omega) (by omega)
  generalize setArr st (mirror (arrOf st) lo (lo+m) ((lo+m - lo) / 2))=st1 at hW1 hs1 hsm
  have hz1:=hW1.size
  refine wpS_bind (wpS_mono (wpS_forRange (I:=fun x c st'=>st'=st1∧c=(none,x)∧Seg R (arrOf st1) lo (lo+x)) (Q:=fun c st'=>st'=st1∧∃ k,c=(none,k)∧1≤k∧k≤nrem∧Seg R (arrOf st1) lo (lo+k)) ?step ?fin ⟨rfl,rfl,hs1⟩) ?post)
  case fin =>
    rintro c st' ⟨rfl,rfl,hs⟩
    rw [show max m nrem=nrem by omega] at hs
    exact ⟨rfl,_,rfl,by omega,by omega,by rw [show max m nrem=nrem by omega];exact hs⟩
  case post =>
    rintro c st' ⟨rfl,k,rfl,a,b,hs⟩
    exact wpS_pure (h k _ hW1 a b hs hsm)
  case step =>
    rintro x c st' hax hxn ⟨rfl,rfl,hs⟩
    dsimp only
    refine wpS_bind (z7s L hg hW1 (by omega) (by omega) fun a b ea eb=>?_)
    cases hb:R a b with
    | true=>exact wpS_pure ⟨rfl,x,rfl,by omega,by omega,hs⟩
    | false =>
      refine wpS_pure ⟨rfl,rfl,?_⟩
      refine hs.snoc o (by omega) (fun a' b' e1 e2=>?_) (by omega)
      rw [ea] at e2;cases e2
      rw [eb] at e1;cases e1
      exact hb
theorem zhc (o:Od R) (L:LtOk prog w A E s kd Gd R) (hg:∀ p∈a0,Gd p) {lo m nrem:Nat} {Q:Option Nat→SortSt→Prop} (hW:TWG kd a0 pe st) (hn:lo+nrem≤a0.length) (hm:m+1≤nrem) (hd:Dsc R (arrOf st) lo (lo+(m+1)))
    (h:∀ k st',TWG kd a0 pe st'→1≤k→k≤nrem→Seg R (arrOf st') lo (lo+k)→Same (arrOf st) (arrOf st') lo (lo+nrem)→Q (some k) st') :
    wpS (model prog w) A E s (Tim.descPart lo m nrem) Q st:=by
  unfold Tim.descPart
  refine wpS_bind (wpS_lift (wpAny_rule ⟨rfl,?_⟩))
  refine wpS_bind (wpS_mono (wpS_forRange (I:=fun x c st'=>∃ q,c=(none,x,q)∧TWG kd a0 pe st'∧Dsc R (arrOf st') lo (lo+x)∧q+1≤x∧Eqs R (arrOf st') (lo+x - (q+1)) (lo+x)∧Same (arrOf st) (arrOf st') lo (lo+nrem))
    (Q:=fun c st'=>∃ k q,c=(none,k,q)∧TWG kd a0 pe st'∧1≤k∧k≤nrem∧Dsc R (arrOf st') lo (lo+k)∧q+1≤k∧Eqs R (arrOf st') (lo+k - (q+1)) (lo+k)∧Same (arrOf st) (arrOf st') lo (lo+nrem)) ?step ?fin ⟨0,rfl,hW,hd,by omega,Eqs.one o (by omega),Same.refl⟩) ?post)
  case fin =>
    rintro c st' ⟨q,rfl,hW',g1,g2,g3,g4⟩
    rw [show max (m+1) nrem=nrem by omega] at g1 g2 g3
    exact ⟨_,q,rfl,hW',by omega,by omega,by rw [show max (m+1) nrem=nrem by omega];exact g1,by omega,by rw [show max (m+1) nrem=nrem by omega];exact g3,g4⟩
  case post =>
    rintro c st' ⟨k,q,rfl,hW',a,b,g1,g2,g3,g4⟩
    have hz:=hW'.size
    dsimp only
    by_cases hq:q > 0
    · rw [if_pos hq]
      refine wpS_bind (zel ?_)
      have hW2:=hW'.setArr (mirror_perm (arrOf st') (lo+k - (q+1)) (lo+k) ((lo+k - (lo+k - (q+1))) / 2))
      refine zhb o L hg hW2 hn a b (g1.mirror g3 (by omega) (by omega) (by omega)) fun k2 st2 w1 w2 w3 w4 w5=>h k2 st2 w1 w2 w3 w4 ?_
      exact (g4.trans ((z5b (x:=arrOf st') (i:=lo+k - (q+1)) (j:=lo+k) (by omega)).mono (by omega) (by omega))).trans w5
    · rw [if_neg hq]
      exact zhb o L hg hW' hn a b g1 fun k2 st2 w1 w2 w3 w4 w5=>h k2 st2 w1 w2 w3 w4 (g4.trans w5)
  case step =>
    rintro x c st' hax hxn ⟨q,rfl,hW',g1,g2,g3,g4⟩
    have hz:=hW'.size
    dsimp only
    refine wpS_bind (z7s L hg hW' (by omega) (by omega) fun a b ea eb=>?_)
    cases hb:R a b with
    | true =>
      have d1:Dsc R (arrOf st') lo (lo+x+1):=g1.snoc o (by omega) (fun a' b' e1 e2=>by
        rw [ea] at e2;cases e2
        rw [eb] at e1;cases e1
        exact o.lt hb) (by omega)
      dsimp only
      rw [if_pos rfl]
      by_cases hq:q > 0
      · rw [if_pos hq]
        refine wpS_bind (zel (wpS_pure ⟨0,rfl,hW'.setArr (mirror_perm _ _ _ _),d1.mirror g3 (by omega) (by omega) (by omega),by omega,Eqs.one o (by omega),?_⟩))
        exact g4.trans ((z5b (x:=arrOf st') (i:=lo+x - (q+1)) (j:=lo+x) (by omega)).mono (by omega) (by omega))
      · rw [if_neg hq]
        exact wpS_pure ⟨0,rfl,hW',d1,by omega,Eqs.one o (by omega),g4⟩
    | false =>
      dsimp only
      rw [if_neg Bool.false_ne_true]
      refine wpS_bind (z7s L hg hW' (by omega) (by omega) fun a2 b2 ea2 eb2=>?_)
      rw [eb] at ea2;cases ea2
      rw [ea] at eb2;cases eb2
      cases hb2:R b a with
      | true=>exact wpS_pure ⟨x,q,rfl,hW',by omega,by omega,g1,g2,g3,g4⟩
      | false =>
        refine wpS_pure ⟨q+1,rfl,hW',g1.snoc o (by omega) (fun a' b' e1 e2=>by
          rw [ea] at e2;cases e2
          rw [eb] at e1;cases e1
          exact hb2) (by omega),by omega,?_,g4⟩
        rw [show lo+(x+1) - (q+1+1)=lo+x - (q+1) by omega]
        exact g3.snoc o (by omega) (fun a' b' e1 e2=>by
          rw [ea] at e2;cases e2
          rw [eb] at e1;cases e1
          exact ⟨hb,hb2⟩) (by omega)
theorem zk9 (o:Od R) (L:LtOk prog w A E s kd Gd R) (hg:∀ p∈a0,Gd p) {lo nrem:Nat} {Q:Option Nat→SortSt→Prop} (hW:TWG kd a0 pe st) (hn:lo+nrem≤a0.length) (h1:1≤nrem)
    (h:∀ k st',TWG kd a0 pe st'→1≤k→k≤nrem→Seg R (arrOf st') lo (lo+k)→Same (arrOf st) (arrOf st') lo (lo+nrem)→Q (some k) st') :
    wpS (model prog w) A E s (countRun' lo nrem) Q st:=by
  have hz:=hW.size
  rw [countRun'_eq]
  refine wpS_bind (wpS_mono (wpS_forRange (I:=fun x c st'=>st'=st∧c=(none,x)∧Seg R (arrOf st) lo (lo+x)) (Q:=fun c st'=>st'=st∧∃ k,c=(none,k)∧1≤k∧k≤nrem∧Seg R (arrOf st) lo (lo+k)∧(k=nrem∨∀ a b,(arrOf st)[lo+k]?=some a→(arrOf st)[lo+k - 1]?=some b→R a b=true)) ?step ?fin ⟨rfl,rfl,Seg.one o⟩) ?post)
  case fin =>
    rintro c st' ⟨rfl,rfl,hs⟩
    rw [show max 1 nrem=nrem by omega] at hs
    exact ⟨rfl,_,rfl,by omega,by omega,by rw [show max 1 nrem=nrem by omega];exact hs,.inl (by omega)⟩
  case step =>
    rintro x c st' hax hxn ⟨rfl,rfl,hs⟩
    dsimp only
    refine wpS_bind (z7s L hg hW (by omega) (by omega) fun a b ea eb=>?_)
    cases hb:R a b with
    | true =>
      refine wpS_pure ⟨rfl,x,rfl,by omega,by omega,hs,.inr fun a' b' e1 e2=>?_⟩
      rw [ea] at e1;cases e1
      rw [eb] at e2;cases e2
      exact hb
    | false =>
      refine wpS_pure ⟨rfl,rfl,hs.snoc o (by omega) (fun a' b' e1 e2=>?_) (by omega)⟩
      rw [ea] at e2;cases e2
      rw [eb] at e1;cases e1
      exact hb
  case post =>
    rintro c st' ⟨rfl,k,rfl,a,b,hs,hor⟩
    dsimp only
    by_cases hk:k=nrem
    · rw [if_pos (by simpa using hk)]
      exact wpS_pure (h k _ hW a b hs Same.refl)
    · rw [if_neg (by simpa using hk)]
      have hlt:=hor.resolve_left hk
      have ek:∃ y,(arrOf st')[lo+k]?=some y:=⟨_,Array.getElem?_eq_getElem (by omega)⟩
      have el:∃ y,(arrOf st')[lo+k - 1]?=some y:=⟨_,Array.getElem?_eq_getElem (by omega)⟩
      obtain ⟨yk,ek⟩:=ek
      obtain ⟨yl,el⟩:=el
      have hR:=hlt _ _ ek el
      by_cases hgt:k > 1
      · rw [if_pos hgt]
        refine wpS_bind (z7s L hg hW (by omega) (by omega) fun a1 b1 ea1 eb1=>?_)
        rw [el] at eb1;cases eb1
        cases hb:R a1 yl with
        | true=>exact wpS_pure (h k _ hW a b hs Same.refl)
        | false =>
          have he:Eqs R (arrOf st') lo (lo+k):=fun p q x y g1 g2 g3 g4 e1 e2 =>
            o.trans (o.trans (hs p (lo+k - 1) x yl g1 (by omega) (by omega) e1 el) hb) (hs lo q a1 y (by omega) g3 g4 ea1 e2)
          have hd:Dsc R (arrOf st') lo (lo+k+1):=he.dsc.snoc o (by omega) (fun a' b' e1 e2=>by
            rw [ek] at e2;cases e2
            rw [el] at e1;cases e1
            exact o.lt hR) (by omega)
          dsimp only
          rw [if_neg Bool.false_ne_true]
          refine wpS_bind (zel ?_)
          refine zhc o L hg (hW.setArr (mirror_perm _ _ _ _)) hn (by omega) (hd.mirror he (by omega) (by omega) (by omega)) fun k2 st2 w1 w2 w3 w4 w5=>h k2 st2 w1 w2 w3 w4 ?_
          exact ((z5b (x:=arrOf st') (i:=lo) (j:=lo+k) (by omega)).mono (by omega) (by omega)).trans w5
      · rw [if_neg hgt]
        have hk1:k=1:=by omega
        subst hk1
        refine zhc o L hg hW hn (by omega) ?_ h
        refine Dsc.snoc o (j:=lo+1) (fun p q x y g1 g2 g3 e1 e2=>?_) (by omega) (fun a' b' e1 e2=>by
            rw [ek] at e2;cases e2
            rw [el] at e1;cases e1
            exact o.lt hR) (by omega)
        have:p=q:=by omega
        subst this
        rw [e1] at e2;cases e2
        exact o.refl x
end
noncomputable def By (R:Keyed→Keyed→Bool) (z3k:Bool) (key a:Keyed):Bool:=if z3k=true then R a key else !R key a
section
variable {prog:Program} {w:World} {A:Around} {E:Value→Shared→Prop} {s:Shared} {kd:SortKind} {st:SortSt} {Gd:Keyed→Prop} {R:Keyed→Keyed→Bool}
theorem By.down (o:Od R) {z3k:Bool} {key a b:Keyed} (h:Le R a b) (hb:By R z3k key b=true):By R z3k key a=true:=by
  unfold By at *
  cases z3k with
  | true=>exact o.le_lt h hb
  | false =>
    simp only [Bool.false_eq_true,if_false,Bool.not_eq_true'] at *
    exact o.ntr key b a hb h
theorem z6y (L:LtOk prog w A E s kd Gd R) {z3k:Bool} {key:Keyed} {arr:Array Keyed} {base i:Nat} {Q:Option Bool→SortSt→Prop} (hk:kindOf st=kd) (hkey:Gd key) (harr:∀ p∈arr.toList,Gd p) (hi:base+i<arr.size) (h:∀ a,arr[base+i]?=some a→Q (some (By R z3k key a)) st) :
    wpS (model prog w) A E s (zag z3k key arr base i) Q st:=by
  unfold zag
  refine wpS_bind (z13 hi fun p hp=>?_)
  have hm:p∈arr.toList:=by
    obtain ⟨_,e⟩:=Array.getElem?_eq_some_iff.mp hp
    rw [← e];simp
  have hq:=h p hp
  cases z3k with
  | true=>exact L st p key Q hk (harr p hm) hkey hq
  | false=>exact wpS_bind (L st key p _ hk hkey (harr p hm) (wpS_pure hq))
theorem z59 (o:Od R) (L:LtOk prog w A E s kd Gd R) {z3k:Bool} {key:Keyed} {arr:Array Keyed} {base m hint:Nat} {Q:Option Nat→SortSt→Prop} (hk:kindOf st=kd) (hkey:Gd key) (harr:∀ p∈arr.toList,Gd p) (hb:base+m≤arr.size) (hh:hint<m) (hs:Seg R arr base (base+m))
    (h:∀ k,k≤m→(∀ i a,i<k→arr[base+i]?=some a→By R z3k key a=true)→(∀ i a,k≤i→i<m→arr[base+i]?=some a→By R z3k key a=false)→Q (some k) st):wpS (model prog w) A E s (z4m z3k key arr base m hint) Q st:=by
  have dn:∀ i j a b,i≤j→j<m→arr[base+i]?=some a→arr[base+j]?=some b→By R z3k key b=true→By R z3k key a=true:=fun i j a b h1 h2 e1 e2 hb=>By.down o (hs _ _ a b (by omega) (by omega) (by omega) e1 e2) hb
  have up:∀ i j a b,i≤j→j<m→arr[base+i]?=some a→arr[base+j]?=some b→By R z3k key a=false→By R z3k key b=false:=fun i j a b h1 h2 e1 e2 ha=>by
    cases z:By R z3k key b with
    | false=>rfl
    | true=>rw [dn i j a b h1 h2 e1 e2 z] at ha;cases ha
  have at_:∀ i,i<m→∃ a,arr[base+i]?=some a:=fun i hi=>⟨_,Array.getElem?_eq_getElem (by omega)⟩
  have last:∀ lo hi,lo≤hi→hi≤m→(∀ i a,i<lo→arr[base+i]?=some a→By R z3k key a=true)→(∀ i a,hi≤i→i<m→arr[base+i]?=some a→By R z3k key a=false)→wpS (model prog w) A E s (do
      let mut lo:=lo
      let mut hi:=hi
      for _ in [0:m] do
        if lo≥hi then break
        let mm:=lo+(hi - lo) / 2
        let some more ← zag z3k key arr base mm | return none
        if more then lo:=mm+1 else hi:=mm
      return some hi) Q st:=by
    intro lo hi hlh hhi hl hr
    refine wpS_bind (wpS_mono (wpS_forRange (I:=fun x c st'=>st'=st∧∃ l r,c=(none,l,r)∧l≤r∧r≤m∧r - l≤m - x∧(∀ i a,i<l→arr[base+i]?=some a→By R z3k key a=true)∧(∀ i a,r≤i→i<m→arr[base+i]?=some a→By R z3k key a=false))
      (Q:=fun c st'=>st'=st∧∃ l r,c=(none,l,r)∧r≤m∧(∀ i a,i<r→arr[base+i]?=some a→By R z3k key a=true)∧(∀ i a,r≤i→i<m→arr[base+i]?=some a→By R z3k key a=false)) ?step ?fin ⟨rfl,lo,hi,rfl,hlh,hhi,by omega,hl,hr⟩) ?post)
    case fin =>
      rintro c st' ⟨rfl,l,r,rfl,g1,g2,g3,g4,g5⟩
      have:l=r:=by omega
      subst this
      exact ⟨rfl,l,l,rfl,g2,g4,g5⟩
    case post =>
      rintro c st' ⟨rfl,l,r,rfl,g2,g4,g5⟩
      exact wpS_pure (h r g2 g4 g5)
    case step =>
      rintro x c st' _ hx ⟨rfl,l,r,rfl,g1,g2,g3,g4,g5⟩
      dsimp only
      by_cases hge:l≥r
      · rw [if_pos hge]
        have:l=r:=by omega
        subst this
        exact wpS_pure ⟨rfl,l,l,rfl,g2,g4,g5⟩
      · rw [if_neg hge]
        refine wpS_bind (z6y L hk hkey harr (by omega) fun a ea=>?_)
        cases hb:By R z3k key a with
        | true =>
          refine wpS_pure ⟨rfl,_,r,rfl,by omega,g2,by omega,fun i a' hi e=>?_,g5⟩
          exact dn i (l+(r - l) / 2) a' a (by omega) (by omega) e ea hb
        | false =>
          refine wpS_pure ⟨rfl,l,_,rfl,by omega,by omega,by omega,g4,fun i a' h1 h2 e=>?_⟩
          exact up (l+(r - l) / 2) i a a' h1 h2 ea e hb
  rw [zgh]
  refine wpS_bind (z6y L hk hkey harr (by omega) fun ah eh=>?_)
  cases hb0:By R z3k key ah with
  | true =>
    dsimp only
    rw [if_pos rfl]
    refine wpS_bind (wpS_mono (wpS_forRange (I:=fun x c st'=>st'=st∧∃ l f,c=(none,l,f)∧x+1≤f∧l<f∧hint+l<m∧(∀ a,arr[base+(hint+l)]?=some a→By R z3k key a=true))
      (Q:=fun c st'=>st'=st∧∃ l f,c=(none,l,f)∧l<f∧hint+l<m∧(∀ a,arr[base+(hint+l)]?=some a→By R z3k key a=true)∧(f≥m - hint∨(f<m - hint∧∀ a,arr[base+(hint+f)]?=some a→By R z3k key a=false))) ?step ?fin ⟨rfl,0,1,rfl,by omega,by omega,by omega,fun a e=>by rw [Nat.add_zero] at e;rw [eh] at e;cases e;exact hb0⟩) ?post)
    case fin =>
      rintro c st' ⟨rfl,l,f,rfl,g0,g1,g2,g3⟩
      exact ⟨rfl,l,f,rfl,g1,g2,g3,.inl (by omega)⟩
    case post =>
      rintro c st' ⟨rfl,l,f,rfl,g1,g2,g3,g4⟩
      refine last (hint+l+1) (hint+min f (m - hint)) (by omega) (by omega) (fun i a hi e=>?_) (fun i a h1 h2 e=>?_)
      · obtain ⟨a',e'⟩:=at_ (hint+l) g2
        exact dn i (hint+l) a a' (by omega) g2 e e' (g3 a' e')
      · rcases g4 with g4 | ⟨g4,g5⟩
        · omega
        · obtain ⟨a',e'⟩:=at_ (hint+f) (by omega)
          exact up (hint+f) i a' a (by omega) h2 e' e (g5 a' e')
    case step =>
      rintro x c st' _ hx ⟨rfl,l,f,rfl,g0,g1,g2,g3⟩
      dsimp only
      by_cases hge:f≥m - hint
      · rw [if_pos hge]
        exact wpS_pure ⟨rfl,l,f,rfl,g1,g2,g3,.inl hge⟩
      · rw [if_neg hge]
        refine wpS_bind (z6y L hk hkey harr (by omega) fun a ea=>?_)
        cases hb:By R z3k key a with
        | true=>exact wpS_pure ⟨rfl,_,_,rfl,by omega,by omega,by omega,fun a' e=>by rw [ea] at e;cases e;exact hb⟩
        | false=>exact wpS_pure ⟨rfl,l,f,rfl,g1,g2,g3,.inr ⟨by omega,fun a' e=>by rw [ea] at e;cases e;exact hb⟩⟩
  | false =>
    dsimp only
    rw [if_neg Bool.false_ne_true]
    refine wpS_bind (wpS_mono (wpS_forRange (I:=fun x c st'=>st'=st∧∃ l f,c=(none,l,f)∧x+1≤f∧l<f∧l≤hint∧(∀ a,arr[base+(hint - l)]?=some a→By R z3k key a=false))
      (Q:=fun c st'=>st'=st∧∃ l f,c=(none,l,f)∧l<f∧l≤hint∧(∀ a,arr[base+(hint - l)]?=some a→By R z3k key a=false)∧(f≥hint+1∨(f≤hint∧∀ a,arr[base+(hint - f)]?=some a→By R z3k key a=true))) ?step2 ?fin2 ⟨rfl,0,1,rfl,by omega,by omega,by omega,fun a e=>by rw [Nat.sub_zero] at e;rw [eh] at e;cases e;exact hb0⟩) ?post2)
    case fin2 =>
      rintro c st' ⟨rfl,l,f,rfl,g0,g1,g2,g3⟩
      exact ⟨rfl,l,f,rfl,g1,g2,g3,.inl (by omega)⟩
    case post2 =>
      rintro c st' ⟨rfl,l,f,rfl,g1,g2,g3,g4⟩
      refine last (hint+1 - min f (hint+1)) (hint - l) (by omega) (by omega) (fun i a hi e=>?_) (fun i a h1 h2 e=>?_)
      · rcases g4 with g4 | ⟨g4,g5⟩
        · omega
        · obtain ⟨a',e'⟩:=at_ (hint - f) (by omega)
          exact dn i (hint - f) a a' (by omega) (by omega) e e' (g5 a' e')
      · obtain ⟨a',e'⟩:=at_ (hint - l) (by omega)
        exact up (hint - l) i a' a (by omega) h2 e' e (g3 a' e')
    case step2 =>
      rintro x c st' _ hx ⟨rfl,l,f,rfl,g0,g1,g2,g3⟩
      dsimp only
      by_cases hge:f≥hint+1
      · rw [if_pos hge]
        exact wpS_pure ⟨rfl,l,f,rfl,g1,g2,g3,.inl hge⟩
      · rw [if_neg hge]
        refine wpS_bind (z6y L hk hkey harr (by omega) fun a ea=>?_)
        cases hb:By R z3k key a with
        | true=>exact wpS_pure ⟨rfl,l,f,rfl,g1,g2,g3,.inr ⟨by omega,fun a' e=>by rw [ea] at e;cases e;exact hb⟩⟩
        | false=>exact wpS_pure ⟨rfl,_,_,rfl,by omega,by omega,by omega,fun a' e=>by rw [ea] at e;cases e;exact hb⟩
end
structure MI (R:Keyed→Keyed→Bool) (al bl out:List Keyed) (ia ib:Nat):Prop where
  perm:(out++(al.drop ia++bl.drop ib)).Perm (al++bl)
  srt:out.Pairwise (Le R)
  la:∀ x∈out,∀ y∈al.drop ia,Le R x y
  lb:∀ x∈out,∀ y∈bl.drop ib,Le R x y
def Mg (R:Keyed→Keyed→Bool) (al bl:List Keyed) (r:Array Keyed):Prop:=r.toList.Perm (al++bl)∧r.toList.Pairwise (Le R)
section
variable {R:Keyed→Keyed→Bool} {al bl out:List Keyed} {ia ib k:Nat}
theorem zba {l:List Keyed} (h:l.Pairwise (Le R)):(l.drop ia).Pairwise (Le R):=h.sublist (List.drop_sublist ia l)
theorem MI.zero:MI R al bl [] 0 0:=⟨by simp,.nil,fun _ h=>(nomatch h),fun _ h=>(nomatch h)⟩
theorem MI.blockA (h:MI R al bl out ia ib) (sa:al.Pairwise (Le R)) (hk:∀ x∈(al.drop ia).take k,∀ y∈bl.drop ib,Le R x y):MI R al bl (out++(al.drop ia).take k) (ia+k) ib:=by
  have e:(al.drop ia).take k++al.drop (ia+k)=al.drop ia:=by rw [← List.drop_drop];exact List.take_append_drop k _
  have hp:=zba (ia:=ia) sa
  rw [← e,List.pairwise_append] at hp
  refine ⟨?_,?_,?_,?_⟩
  · have:=h.perm
    rw [← e] at this
    simpa [List.append_assoc] using this
  · rw [List.pairwise_append]
    exact ⟨h.srt,hp.1,fun x hx y hy=>h.la x hx y (by rw [← e];exact List.mem_append_left _ hy)⟩
  · intro x hx y hy
    rcases List.mem_append.mp hx with hx | hx
    · exact h.la x hx y (by rw [← e];exact List.mem_append_right _ hy)
    · exact hp.2.2 x hx y hy
  · intro x hx y hy
    rcases List.mem_append.mp hx with hx | hx
    · exact h.lb x hx y hy
    · exact hk x hx y hy
theorem MI.blockB (h:MI R al bl out ia ib) (sb:bl.Pairwise (Le R)) (hk:∀ x∈(bl.drop ib).take k,∀ y∈al.drop ia,Le R x y):MI R al bl (out++(bl.drop ib).take k) ia (ib+k):=by
  have e:(bl.drop ib).take k++bl.drop (ib+k)=bl.drop ib:=by rw [← List.drop_drop];exact List.take_append_drop k _
  have hp:=zba (ia:=ib) sb
  rw [← e,List.pairwise_append] at hp
  refine ⟨?_,?_,?_,?_⟩
  · have:=h.perm
    rw [← e] at this
    refine List.Perm.trans ?_ this
    rw [List.append_assoc]
    refine List.Perm.append_left out ?_
    rw [← List.append_assoc,← List.append_assoc]
    exact List.Perm.append_right _ List.perm_append_comm
  · rw [List.pairwise_append]
    exact ⟨h.srt,hp.1,fun x hx y hy=>h.lb x hx y (by rw [← e];exact List.mem_append_left _ hy)⟩
  · intro x hx y hy
    rcases List.mem_append.mp hx with hx | hx
    · exact h.la x hx y hy
    · exact hk x hx y hy
  · intro x hx y hy
    rcases List.mem_append.mp hx with hx | hx
    · exact h.lb x hx y (by rw [← e];exact List.mem_append_right _ hy)
    · exact hp.2.2 x hx y hy
theorem z64 {l:List Keyed} {i:Nat} {x:Keyed} (h:l[i]?=some x):(l.drop i).take 1=[x]:=by
  obtain ⟨hi,e⟩:=List.getElem?_eq_some_iff.mp h
  rw [List.drop_eq_getElem_cons hi]
  simp [e]
theorem za8 (o:Od R) {l:List Keyed} (s:l.Pairwise (Le R)) {i:Nat} {x y:Keyed} (h:l[i]?=some x) (hy:y∈l.drop i):Le R x y:=by
  obtain ⟨hi,e⟩:=List.getElem?_eq_some_iff.mp h
  have hp:=zba (ia:=i) s
  rw [List.drop_eq_getElem_cons hi] at hp hy
  rw [← e]
  rcases List.mem_cons.mp hy with rfl | hy
  · exact o.refl _
  · exact (List.pairwise_cons.mp hp).1 y hy
theorem zf6 {l:List Keyed} {i k:Nat} {x:Keyed} (h:x∈(l.drop i).take k):∃ j,j<k∧l[i+j]?=some x:=by
  obtain ⟨j,hj,e⟩:=List.mem_iff_getElem.mp h
  rw [List.length_take] at hj
  refine ⟨j,by omega,?_⟩
  rw [List.getElem_take,List.getElem_drop] at e
  rw [← e]
  exact List.getElem?_eq_getElem _
theorem MI.pushB (o:Od R) (h:MI R al bl out ia ib) (sa:al.Pairwise (Le R)) (sb:bl.Pairwise (Le R)) {p:Keyed} (ep:bl[ib]?=some p) (hq:∀ q,al[ia]?=some q→R p q=true):MI R al bl (out++[p]) ia (ib+1):=by
  rw [← z64 ep]
  refine h.blockB sb fun x hx y hy=>?_
  rw [z64 ep] at hx
  have:x=p:=by simpa using hx
  subst this
  cases eq:al[ia]? with
  | none =>
    rw [List.getElem?_eq_none_iff] at eq
    rw [List.drop_eq_nil_of_le eq] at hy;cases hy
  | some q=>exact o.trans (o.lt (hq q eq)) (za8 o sa eq hy)
theorem MI.pushA (o:Od R) (h:MI R al bl out ia ib) (sa:al.Pairwise (Le R)) (sb:bl.Pairwise (Le R)) {q:Keyed} (eq:al[ia]?=some q) (hp:∀ p,bl[ib]?=some p→Le R q p):MI R al bl (out++[q]) (ia+1) ib:=by
  rw [← z64 eq]
  refine h.blockA sa fun x hx y hy=>?_
  rw [z64 eq] at hx
  have:x=q:=by simpa using hx
  subst this
  cases ep:bl[ib]? with
  | none =>
    rw [List.getElem?_eq_none_iff] at ep
    rw [List.drop_eq_nil_of_le ep] at hy;cases hy
  | some p=>exact o.trans (hp p ep) (za8 o sb ep hy)
theorem MI.galA (o:Od R) (h:MI R al bl out ia ib) (sa:al.Pairwise (Le R)) (sb:bl.Pairwise (Le R)) {p:Keyed} (ep:bl[ib]?=some p) (hk:∀ i a,i<k→al[ia+i]?=some a→Le R a p):MI R al bl (out++(al.drop ia).take k) (ia+k) ib :=
  h.blockA sa fun x hx y hy=>by
    obtain ⟨j,hj,e⟩:=zf6 hx
    exact o.trans (hk j x hj e) (za8 o sb ep hy)
theorem MI.galB (o:Od R) (h:MI R al bl out ia ib) (sa:al.Pairwise (Le R)) (sb:bl.Pairwise (Le R)) {q:Keyed} (eq:al[ia]?=some q) (hk:∀ i b,i<k→bl[ib+i]?=some b→R b q=true):MI R al bl (out++(bl.drop ib).take k) ia (ib+k) :=
  h.blockB sb fun x hx y hy=>by
    obtain ⟨j,hj,e⟩:=zf6 hx
    exact o.trans (o.lt (hk j x hj e)) (za8 o sa eq hy)
theorem MI.done (h:MI R al bl out ia ib) (sa:al.Pairwise (Le R)) (sb:bl.Pairwise (Le R)) (hd:al.length≤ia∨bl.length≤ib):(out++al.drop ia++bl.drop ib).Perm (al++bl)∧(out++al.drop ia++bl.drop ib).Pairwise (Le R):=by
  refine ⟨by rw [List.append_assoc];exact h.perm,?_⟩
  rcases hd with hd | hd
  · rw [List.drop_eq_nil_of_le hd,List.append_nil,List.pairwise_append]
    exact ⟨h.srt,zba sb,h.lb⟩
  · rw [List.drop_eq_nil_of_le hd,List.append_nil,List.pairwise_append]
    exact ⟨h.srt,zba sa,h.la⟩
theorem MI.last (h:MI R al bl out ia ib) (sb:bl.Pairwise (Le R)) (h1:ia+1=al.length) (hl:∀ x,al[ia]?=some x→∀ y∈bl,Le R y x):(out++bl.drop ib++al.drop ia).Perm (al++bl)∧(out++bl.drop ib++al.drop ia).Pairwise (Le R):=by
  obtain ⟨x,ex⟩:∃ x,al[ia]?=some x:=⟨_,List.getElem?_eq_getElem (by omega)⟩
  have hx:al.drop ia=[x]:=by
    rw [← z64 ex]
    exact (List.take_of_length_le (by simp;omega)).symm
  refine ⟨?_,?_⟩
  · refine List.Perm.trans ?_ h.perm
    rw [List.append_assoc]
    exact List.Perm.append_left _ List.perm_append_comm
  · rw [List.pairwise_append,List.pairwise_append]
    refine ⟨⟨h.srt,zba sb,h.lb⟩,by rw [hx];simp,fun y hy z hz=>?_⟩
    rcases List.mem_append.mp hy with hy | hy
    · exact h.la y hy z hz
    · rw [hx] at hz
      have:z=x:=by simpa using hz
      subst this
      exact hl z ex y (List.mem_of_mem_drop hy)
theorem z9t (o:Od R) {x:Array Keyed} (h:x.toList.Pairwise (Le R)) {i j:Nat}:Seg R x i j:=fun p q a b h1 h2 h3 e1 e2=>by
  by_cases hpq:p=q
  · subst hpq;rw [e1] at e2;cases e2;exact o.refl a
  · obtain ⟨hp,e1⟩:=Array.getElem?_eq_some_iff.mp e1
    obtain ⟨hq,e2⟩:=Array.getElem?_eq_some_iff.mp e2
    have:=List.pairwise_iff_getElem.mp h p q (by simpa using hp) (by simpa using hq) (by omega)
    simpa [e1,e2] using this
end
structure Ke (st st':SortSt):Prop where
  arr:arrOf st'=arrOf st
  kind:kindOf st'=kindOf st
  failed:failedOf st'=failedOf st
  pend:pendingOf st'=pendingOf st
theorem Ke.refl {st:SortSt}:Ke st st:=⟨rfl,rfl,rfl,rfl⟩
section
variable {prog:Program} {w:World} {A:Around} {E:Value→Shared→Prop} {s:Shared} {kd:SortKind} {st st0:SortSt} {Gd:Keyed→Prop} {R:Keyed→Keyed→Bool}
theorem zbo {g:Nat} {Q:Unit→SortSt→Prop} (hK:Ke st0 st) (h:∀ st',Ke st0 st'→Q () st'):wpS (model prog w) A E s (z0j g) Q st:=by
  rw [z98]
  exact wpS_modify (h _ ⟨hK.arr,hK.kind,hK.failed,hK.pend⟩)
theorem z4z {x:Array Keyed} {i:Nat} {p:Keyed} (h:x[i]?=some p):p∈x.toList:=by
  obtain ⟨hi,e⟩:=Array.getElem?_eq_some_iff.mp h
  rw [← e];simp
theorem zan {x:Array Keyed} {i:Nat} {p:Keyed} (h:x[i]?=some p):x.toList[i]?=some p:=by rw [Array.getElem?_toList];exact h
theorem z9c {x:Array Keyed} {i:Nat} {p:Keyed} (h:x.toList[i]?=some p):x[i]?=some p:=by rw [Array.getElem?_toList] at h;exact h
theorem zm2 {x:Array Keyed} {i k:Nat}:(x.extract i (i+k)).toList=(x.toList.drop i).take k:=by
  rw [Array.toList_extract,List.extract_eq_take_drop,Nat.add_sub_cancel_left]
theorem zep {x:Array Keyed} {i:Nat}:(x.extract i x.size).toList=x.toList.drop i:=by
  rw [Array.toList_extract,List.extract_eq_take_drop]
  exact List.take_of_length_le (by simp)
noncomputable abbrev zsd:=ForInStep (Option (Array Keyed)×Array Keyed×Nat×Nat×Nat×Nat×Nat)
noncomputable def zk5 (a b:Array Keyed) (mg k:Nat) (out:Array Keyed) (ia ib k2:Nat):StateT SortSt Sem zsd:=elem' a ia >>= fun q =>
  if (ia+1+1==a.size)=true then pure (.done (some (out.push q++b.extract ib b.size++a.extract (ia+1) a.size),out.push q,ia+1,ib,mg,k,k2))
  else if (decide (k<7)&&decide (k2<7))=true then pure (.done (none,out.push q,ia+1,ib,mg,k,k2)) else pure (.yield (none,out.push q,ia+1,ib,mg,k,k2))
noncomputable def zk6 (a b:Array Keyed) (mg k bc:Nat) (out:Array Keyed) (ia ib:Nat):StateT SortSt Sem zsd:=elem' b ib >>= fun p =>
  if (ib+1==b.size)=true then pure (.done (some (out.push p++a.extract ia a.size++b.extract (ib+1) b.size),out.push p,ia,ib+1,mg,k,bc))
  else elem' a ia >>= fun q=>z4m true q b (ib+1) (b.size - (ib+1)) 0 >>= fun x=>match x with
    | some k2=>if k2 > 0 then (if (ib+1+k2==b.size)=true then pure (.done (some (out.push p++b.extract (ib+1) (ib+1+k2)++a.extract ia a.size++b.extract (ib+1+k2) b.size),out.push p++b.extract (ib+1) (ib+1+k2),ia,ib+1+k2,mg,k,k2))
        else zk5 a b mg k (out.push p++b.extract (ib+1) (ib+1+k2)) ia (ib+1+k2) k2)
      else zk5 a b mg k (out.push p) ia (ib+1) k2
    | _=>pure (.done (some (out.push p++a.extract ia a.size++b.extract (ib+1) b.size),out.push p,ia,ib+1,mg,k,bc))
noncomputable def zcp (a b:Array Keyed) (out:Array Keyed) (ia ib ac bc mg:Nat):StateT SortSt Sem zsd:=z0j mg >>= fun _=>elem' b ib >>= fun p=>z4m false p a ia (a.size - ia) 0 >>= fun x=>match x with
  | some k=>if k > 0 then (if (ia+k+1==a.size)=true then pure (.done (some (out++a.extract ia (ia+k)++b.extract ib b.size++a.extract (ia+k) a.size),out++a.extract ia (ia+k),ia+k,ib,mg,k,bc))
      else if (ia+k==a.size)=true then pure (.done (some (out++a.extract ia (ia+k)++a.extract (ia+k) a.size++b.extract ib b.size),out++a.extract ia (ia+k),ia+k,ib,mg,k,bc))
      else zk6 a b mg k bc (out++a.extract ia (ia+k)) (ia+k) ib)
    else zk6 a b mg k bc out ia ib
  | _=>pure (.done (some (out++a.extract ia a.size++b.extract ib b.size),out,ia,ib,mg,ac,bc))
noncomputable abbrev zw8:=ForInStep (Option (Array Keyed)×Array Keyed×Nat×Nat×Nat×Nat)
noncomputable abbrev zv0:=Option (Array Keyed)×Array Keyed×Nat×Nat×Nat
noncomputable def zph (a b:Array Keyed) (mg:Nat) (out:Array Keyed) (ia ib ac bc:Nat):StateT SortSt Sem zw8:=elem' b ib >>= fun p=>elem' a ia >>= fun q=>lt' p q >>= fun x=>match x with
  | some bw=>if bw=true then (elem' b ib >>= fun p=>if (ib+1==b.size)=true then pure (.done (some (out.push p++a.extract ia a.size++b.extract (ib+1) b.size),out.push p,ia,ib+1,0,bc+1))
        else if bc+1≥mg then pure (.done (none,out.push p,ia,ib+1,0,bc+1)) else pure (.yield (none,out.push p,ia,ib+1,0,bc+1)))
      else (elem' a ia >>= fun q=>if (ia+1+1==a.size)=true then pure (.done (some (out.push q++b.extract ib b.size++a.extract (ia+1) a.size),out.push q,ia+1,ib,ac+1,0))
        else if ac+1≥mg then pure (.done (none,out.push q,ia+1,ib,ac+1,0)) else pure (.yield (none,out.push q,ia+1,ib,ac+1,0)))
  | _=>pure (.done (some (out++a.extract ia a.size++b.extract ib b.size),out,ia,ib,ac,bc))
noncomputable def zpg (a b:Array Keyed) (mg:Nat) (r:Option (Array Keyed)×Array Keyed×Nat×Nat×Nat×Nat):StateT SortSt Sem (ForInStep zv0):=match r.1 with
  | some x=>pure (.done (some x,r.2.1,r.2.2.1,r.2.2.2.1,mg))
  | none=>liftM (rule "list.sort.gallop") >>= fun _=>forIn [:a.size+b.size] (none,r.2.1,r.2.2.1,r.2.2.2.1,mg+1,r.2.2.2.2.1,r.2.2.2.2.2) (fun _ t=>if t.2.2.2.2.1 > 1 then zcp a b t.2.1 t.2.2.1 t.2.2.2.1 t.2.2.2.2.2.1 t.2.2.2.2.2.2 (t.2.2.2.2.1 - 1) else zcp a b t.2.1 t.2.2.1 t.2.2.2.1 t.2.2.2.2.2.1 t.2.2.2.2.2.2 t.2.2.2.2.1) >>= fun u=>match u.1 with
    | some x=>pure (.done (some x,u.2.1,u.2.2.1,u.2.2.2.1,u.2.2.2.2.1))
    | none=>z0j (u.2.2.2.2.1+1) >>= fun _=>pure (.yield (none,u.2.1,u.2.2.1,u.2.2.2.1,u.2.2.2.2.1+1))
noncomputable def zpe (a b:Array Keyed) (out:Array Keyed) (ia ib mg:Nat):StateT SortSt Sem (ForInStep zv0):=forIn [:a.size+b.size] (none,out,ia,ib,0,0) (fun _ r=>zph a b mg r.2.1 r.2.2.1 r.2.2.2.1 r.2.2.2.2.1 r.2.2.2.2.2) >>= fun r=>zpg a b mg r
noncomputable def zpf (a b:Array Keyed):StateT SortSt Sem (Array Keyed):=liftM (rule "list.sort.merge-lo") >>= fun _=>elem' b 0 >>= fun q=>if (1==b.size)=true then pure (#[q]++a.extract 0 a.size++b.extract 1 b.size)
  else if (0+1==a.size)=true then pure (#[q]++b.extract 1 b.size++a.extract 0 a.size)
  else get >>= fun g=>forIn [:a.size+b.size] (none,#[q],0,1,gallopOf g) (fun _ r=>zpe a b r.2.1 r.2.2.1 r.2.2.2.1 r.2.2.2.2) >>= fun r=>match r.1 with
    | some x=>pure x
    | none=>liftM (unsupported "internal:list.sort.merge-bound")
theorem z30 {α β:Type} {x x':StateT SortSt Sem α} {f f':α→StateT SortSt Sem β} (h:x=x') (h2:∀ u,f u=f' u):(x >>= f)=(x' >>= f'):=by rw [h,funext h2]
theorem zem {β:Type} {r:Std.Legacy.Range} {i:β} {f f':Nat→β→StateT SortSt Sem (ForInStep β)} (h:∀ x u,f x u=f' x u):forIn r i f=forIn r i f':=by rw [funext fun x=>funext (h x)]
theorem zid (a b:Array Keyed):z9f a b=zpf a b:=by
  rw [ze1]
  refine z30 rfl fun _=>z30 rfl fun q=>?_
  refine ite_congr rfl (fun _=>rfl) fun _=>ite_congr rfl (fun _=>rfl) fun _=>z30 rfl fun g=>z30 (zem fun x r=>?_) fun u=>?_
  · refine z30 rfl fun r2=>?_
    rcases r2 with ⟨_ | x,y⟩
    · refine z30 rfl fun _=>z30 rfl fun u=>?_
      rcases u with ⟨_ | x,y⟩ <;> rfl
    · rfl
  · rcases u with ⟨_ | x,y⟩ <;> rfl
structure LoH (R:Keyed→Keyed→Bool) (a b:Array Keyed):Prop where
  dn:∀ (out:Array Keyed) (i j:Nat),MI R a.toList b.toList out.toList i j→(a.size≤i∨b.size≤j)→Mg R a.toList b.toList (out++a.extract i a.size++b.extract j b.size)
  la:∀ (out:Array Keyed) (i j:Nat),MI R a.toList b.toList out.toList i j→i+1=a.size→Mg R a.toList b.toList (out++b.extract j b.size++a.extract i a.size)
  pB:∀ {out:Array Keyed} {ia ib:Nat} {p:Keyed},MI R a.toList b.toList out.toList ia ib→b[ib]?=some p→(∀ q,a[ia]?=some q→R p q=true)→MI R a.toList b.toList (out.push p).toList ia (ib+1)
  pA:∀ {out:Array Keyed} {ia ib:Nat} {q:Keyed},MI R a.toList b.toList out.toList ia ib→a[ia]?=some q→(∀ p,b[ib]?=some p→Le R q p)→MI R a.toList b.toList (out.push q).toList (ia+1) ib
  gA:∀ {out:Array Keyed} {ia ib k:Nat} {p:Keyed},MI R a.toList b.toList out.toList ia ib→b[ib]?=some p→(∀ i x,i<k→a[ia+i]?=some x→By R false p x=true)→MI R a.toList b.toList (out++a.extract ia (ia+k)).toList (ia+k) ib
  gB:∀ {out:Array Keyed} {ia ib k:Nat} {q:Keyed},MI R a.toList b.toList out.toList ia ib→a[ia]?=some q→(∀ i x,i<k→b[ib+i]?=some x→By R true q x=true)→MI R a.toList b.toList (out++b.extract ib (ib+k)).toList ia (ib+k)
structure LoQ (R:Keyed→Keyed→Bool) (a b:Array Keyed) (st0:SortSt) (z:Nat) (Q:zsd→SortSt→Prop):Prop where
  d:∀ r y st',Ke st0 st'→Mg R a.toList b.toList r→Q (.done (some r,y)) st'
  n:∀ out ia ib mg ac bc st',Ke st0 st'→MI R a.toList b.toList out.toList ia ib→ia+2≤a.size→ib+1≤b.size→z+1≤ia+ib→Q (.done (none,out,ia,ib,mg,ac,bc)) st'
  y:∀ out ia ib mg ac bc st',Ke st0 st'→MI R a.toList b.toList out.toList ia ib→ia+2≤a.size→ib+1≤b.size→z+1≤ia+ib→Q (.yield (none,out,ia,ib,mg,ac,bc)) st'
section
variable {a b out:Array Keyed} {ia ib mg k k2 ac bc z:Nat} {Q:zsd→SortSt→Prop}
theorem zlv (H:LoH R a b) (K:LoQ R a b st0 z Q) {q:Keyed} (hK:Ke st0 st) (hq:a[ia]?=some q) (ho:MI R a.toList b.toList out.toList ia ib) (hle:∀ p,b[ib]?=some p→Le R q p) (i1:ia+2≤a.size) (i2:ib+1≤b.size) (i3:z≤ia+ib):wpS (model prog w) A E s (zk5 a b mg k out ia ib k2) Q st:=by
  unfold zk5
  refine wpS_bind (z13 (by omega) fun p4 hp4=>?_)
  rw [hq] at hp4;cases hp4
  have ho4:=H.pA ho hq hle
  refine z0g (fun e5=>wpS_pure (K.d _ _ _ hK (H.la _ _ _ ho4 (by simpa using e5)))) (fun e5=>?_)
  simp only [beq_iff_eq] at e5
  have j1:ia+1+2≤a.size:=by omega
  have j2:z+1≤ia+1+ib:=by omega
  exact z0g (fun e6=>wpS_pure (K.n _ _ _ _ _ _ _ hK ho4 j1 i2 j2)) (fun e6=>wpS_pure (K.y _ _ _ _ _ _ _ hK ho4 j1 i2 j2))
theorem zlw (o:Od R) (L:LtOk prog w A E s kd Gd R) (hk0:kindOf st0=kd) (ga:∀ p∈a.toList,Gd p) (gb:∀ p∈b.toList,Gd p) (sb:b.toList.Pairwise (Le R)) (H:LoH R a b) (K:LoQ R a b st0 z Q) {p:Keyed} (hK:Ke st0 st) (hp:b[ib]?=some p) (ho:MI R a.toList b.toList out.toList ia ib) (hR:∀ q,a[ia]?=some q→R p q=true) (i1:ia+2≤a.size) (i2:ib+1≤b.size) (i3:z≤ia+ib):wpS (model prog w) A E s (zk6 a b mg k bc out ia ib) Q st:=by
  unfold zk6
  refine wpS_bind (z13 (by omega) fun p2 hp2=>?_)
  rw [hp] at hp2;cases hp2
  have ho2:=H.pB ho hp hR
  refine z0g (fun e2=>wpS_pure (K.d _ _ _ hK (H.dn _ _ _ ho2 (.inr (by simp only [beq_iff_eq] at e2;omega))))) (fun e2=>?_)
  simp only [beq_iff_eq] at e2
  refine wpS_bind (z13 (by omega) fun p3 hp3=>?_)
  refine wpS_bind (z59 o L (hK.kind.trans hk0) (ga p3 (z4z hp3)) gb (by omega) (by omega) (z9t o sb) fun k2 hk2 kt2 kf2=>?_)
  dsimp only
  refine z0g (fun ek2=>?_) (fun ek2=>?_)
  · have ho3:=H.gB ho2 hp3 kt2
    refine z0g (fun e3=>wpS_pure (K.d _ _ _ hK (H.dn _ _ _ ho3 (.inr (by simp only [beq_iff_eq] at e3;omega))))) (fun e3=>?_)
    simp only [beq_iff_eq] at e3
    exact zlv H K hK hp3 ho3 (fun b' e=>by
      have:=kf2 k2 b' (Nat.le_refl _) (by omega) e
      simpa [By,Le] using this) i1 (by omega) (by omega)
  · have hk20:k2=0:=by omega
    subst hk20
    exact zlv H K hK hp3 ho2 (fun b' e=>by
      have:=kf2 0 b' (Nat.le_refl _) (by omega) e
      simpa [By,Le] using this) i1 (by omega) (by omega)
theorem zlx (o:Od R) (L:LtOk prog w A E s kd Gd R) (hk0:kindOf st0=kd) (ga:∀ p∈a.toList,Gd p) (gb:∀ p∈b.toList,Gd p) (sa:a.toList.Pairwise (Le R)) (sb:b.toList.Pairwise (Le R)) (H:LoH R a b) (K:LoQ R a b st0 z Q) (hK:Ke st0 st) (ho:MI R a.toList b.toList out.toList ia ib) (i1:ia+2≤a.size) (i2:ib+1≤b.size) (i3:z≤ia+ib):wpS (model prog w) A E s (zcp a b out ia ib ac bc mg) Q st:=by
  unfold zcp
  refine wpS_bind (zbo hK fun st4 hK4=>?_)
  refine wpS_bind (z13 (by omega) fun p hp=>?_)
  refine wpS_bind (z59 o L (hK4.kind.trans hk0) (gb p (z4z hp)) ga (by omega) (by omega) (z9t o sa) fun k hk kt kf=>?_)
  dsimp only
  refine z0g (fun ek=>?_) (fun ek=>?_)
  · have ho1:=H.gA ho hp kt
    refine z0g (fun e1=>wpS_pure (K.d _ _ _ hK4 (H.la _ _ _ ho1 (by simpa using e1)))) (fun e1=>?_)
    refine z0g (fun e0=>wpS_pure (K.d _ _ _ hK4 (H.dn _ _ _ ho1 (.inl (by simp only [beq_iff_eq] at e0;omega))))) (fun e0=>?_)
    simp only [beq_iff_eq] at e1 e0
    exact zlw o L hk0 ga gb sb H K hK4 hp ho1 (fun q e=>by
      have:=kf k q (Nat.le_refl _) (by omega) e
      simpa [By] using this) (by omega) i2 (by omega)
  · have hk0':k=0:=by omega
    subst hk0'
    exact zlw o L hk0 ga gb sb H K hK4 hp ho (fun q e=>by
      have:=kf 0 q (Nat.le_refl _) (by omega) e
      simpa [By] using this) i1 i2 i3
theorem zpm (o:Od R) (L:LtOk prog w A E s kd Gd R) (hk0:kindOf st0=kd) (ga:∀ p∈a.toList,Gd p) (gb:∀ p∈b.toList,Gd p) (sa:a.toList.Pairwise (Le R)) (sb:b.toList.Pairwise (Le R)) (H:LoH R a b) (K:LoQ R a b st0 z Q) (hK:Ke st0 st) (ho:MI R a.toList b.toList out.toList ia ib) (i1:ia+2≤a.size) (i2:ib+1≤b.size) (i3:z≤ia+ib):wpS (model prog w) A E s (if mg > 1 then zcp a b out ia ib ac bc (mg - 1) else zcp a b out ia ib ac bc mg) Q st :=
  z0g (fun _=>zlx o L hk0 ga gb sa sb H K hK ho i1 i2 i3) (fun _=>zlx o L hk0 ga gb sa sb H K hK ho i1 i2 i3)
end
set_option maxHeartbeats 8000000 in
theorem zfu (o:Od R) (L:LtOk prog w A E s kd Gd R) {a b:Array Keyed} {Q:Array Keyed→SortSt→Prop} (hk0:kindOf st=kd) (ga:∀ p∈a.toList,Gd p) (gb:∀ p∈b.toList,Gd p) (h1:1≤a.size) (h2:1≤b.size) (sa:a.toList.Pairwise (Le R)) (sb:b.toList.Pairwise (Le R))
    (h0:∀ p q,b[0]?=some p→a[0]?=some q→R p q=true) (hl:∀ x,a[a.size - 1]?=some x→∀ y∈b.toList,Le R y x)
    (h:∀ r st',Ke st st'→Mg R a.toList b.toList r→Q r st'):wpS (model prog w) A E s (z9f a b) Q st:=by
  rw [zid]
  unfold zpf
  refine wpS_bind (wpS_lift (wpAny_rule ⟨rfl,?_⟩))
  refine wpS_bind (z13 (by omega) fun q0 hq0=>?_)
  have dn:∀ (out:Array Keyed) (i j:Nat),MI R a.toList b.toList out.toList i j→(a.size≤i∨b.size≤j)→Mg R a.toList b.toList (out++a.extract i a.size++b.extract j b.size):=fun out i j hm hd=>by
    unfold Mg
    rw [Array.toList_append,Array.toList_append,zep,zep]
    exact hm.done sa sb (by simpa using hd)
  have la:∀ (out:Array Keyed) (i j:Nat),MI R a.toList b.toList out.toList i j→i+1=a.size→Mg R a.toList b.toList (out++b.extract j b.size++a.extract i a.size):=fun out i j hm hd=>by
    unfold Mg
    rw [Array.toList_append,Array.toList_append,zep,zep]
    exact hm.last sb (by simpa using hd) fun x ex=>hl x (by rw [show a.size - 1=i by omega];exact z9c ex)
  have g0:MI R a.toList b.toList (#[q0]:Array Keyed).toList 0 1:=(MI.zero (R:=R)).pushB o sa sb (zan hq0) fun q eq=>h0 q0 q hq0 (z9c eq)
  have pB:∀ {out:Array Keyed} {ia ib:Nat} {p:Keyed},MI R a.toList b.toList out.toList ia ib→b[ib]?=some p→(∀ q,a[ia]?=some q→R p q=true)→MI R a.toList b.toList (out.push p).toList ia (ib+1):=fun hm e hq=>by
    rw [Array.toList_push]
    exact hm.pushB o sa sb (zan e) fun q eq=>hq q (z9c eq)
  have pA:∀ {out:Array Keyed} {ia ib:Nat} {q:Keyed},MI R a.toList b.toList out.toList ia ib→a[ia]?=some q→(∀ p,b[ib]?=some p→Le R q p)→MI R a.toList b.toList (out.push q).toList (ia+1) ib:=fun hm e hp=>by
    rw [Array.toList_push]
    exact hm.pushA o sa sb (zan e) fun p ep=>hp p (z9c ep)
  have gA:∀ {out:Array Keyed} {ia ib k:Nat} {p:Keyed},MI R a.toList b.toList out.toList ia ib→b[ib]?=some p→(∀ i x,i<k→a[ia+i]?=some x→By R false p x=true)→MI R a.toList b.toList (out++a.extract ia (ia+k)).toList (ia+k) ib:=fun hm e hk=>by
    rw [Array.toList_append,zm2]
    exact hm.galA o sa sb (zan e) fun i x hi ex=>by
      have:=hk i x hi (z9c ex)
      simpa [By,Le] using this
  have gB:∀ {out:Array Keyed} {ia ib k:Nat} {q:Keyed},MI R a.toList b.toList out.toList ia ib→a[ia]?=some q→(∀ i x,i<k→b[ib+i]?=some x→By R true q x=true)→MI R a.toList b.toList (out++b.extract ib (ib+k)).toList ia (ib+k):=fun hm e hk=>by
    rw [Array.toList_append,zm2]
    exact hm.galB o sa sb (zan e) fun i x hi ex=>by
      have:=hk i x hi (z9c ex)
      simpa [By] using this
  by_cases e1:1=b.size
  · rw [if_pos (by simpa using e1)]
    exact wpS_pure (h _ _ .refl (dn _ _ _ g0 (.inr (by omega))))
  rw [if_neg (by simpa using e1)]
  by_cases e2:0+1=a.size
  · rw [if_pos (by simpa using e2)]
    exact wpS_pure (h _ _ .refl (la _ _ _ g0 e2))
  rw [if_neg (by simpa using e2)]
  refine wpS_bind (wpS_get ?_)
  refine wpS_bind (wpS_mono (wpS_forRange (I:=fun x c st'=>∃ out ia ib mg,c=(none,out,ia,ib,mg)∧Ke st st'∧MI R a.toList b.toList out.toList ia ib∧ia+2≤a.size∧ib+1≤b.size∧1+x≤ia+ib)
    (Q:=fun c st'=>∃ r y,c=(some r,y)∧Ke st st'∧Mg R a.toList b.toList r) ?step ?fin ⟨_,_,_,_,rfl,.refl,g0,by omega,by omega,by omega⟩) ?post)
  case post =>
    rintro c st' ⟨r,y,rfl,hK,hr⟩
    exact wpS_pure (h r st' hK hr)
  case fin =>
    rintro c st' ⟨out,ia,ib,mg,rfl,hK,ho,i1,i2,i3⟩
    omega
  case step =>
    rintro x c st1 _ hx ⟨out,ia,ib,mg,rfl,hK1,ho,i1,i2,i3⟩
    dsimp only
    unfold zpe
    refine wpS_bind (wpS_mono (wpS_forRange (I:=fun y c st'=>∃ out ia ib ac bc,c=(none,out,ia,ib,ac,bc)∧Ke st st'∧MI R a.toList b.toList out.toList ia ib∧ia+2≤a.size∧ib+1≤b.size∧1+x≤ia+ib)
      (Q:=fun c st'=>(∃ r y,c=(some r,y)∧Ke st st'∧Mg R a.toList b.toList r)∨(∃ out ia ib ac bc,c=(none,out,ia,ib,ac,bc)∧Ke st st'∧MI R a.toList b.toList out.toList ia ib∧ia+2≤a.size∧ib+1≤b.size∧1+x≤ia+ib)) ?istep ?ifin ⟨_,_,_,_,_,rfl,hK1,ho,i1,i2,i3⟩) ?ipost)
    case ifin=>exact fun c st' z=>.inr z
    case istep =>
      rintro y c st2 _ hy ⟨out,ia,ib,ac,bc,rfl,hK2,ho,i1,i2,i3⟩
      dsimp only
      unfold zph
      refine wpS_bind (z13 (by omega) fun p hp=>wpS_bind (z13 (by omega) fun q hq=>wpS_bind (L st2 p q _ (hK2.kind.trans hk0) (gb _ (z4z hp)) (ga _ (z4z hq)) ?_)))
      cases hR:R p q with
      | true =>
        dsimp only
        rw [if_pos rfl]
        refine wpS_bind (z13 (by omega) fun p2 hp2=>?_)
        rw [hp] at hp2;cases hp2
        have go:=pB ho hp (fun q' e=>by rw [hq] at e;cases e;exact hR)
        by_cases e3:ib+1=b.size
        · rw [if_pos (by simpa using e3)]
          exact wpS_pure (.inl ⟨_,_,rfl,hK2,dn _ _ _ go (.inr (by omega))⟩)
        rw [if_neg (by simpa using e3)]
        have jj:ia+2≤a.size∧ib+1+1≤b.size∧1+x≤ia+(ib+1):=⟨i1,by omega,Nat.le_trans i3 (Nat.le_succ _)⟩
        exact z0g (fun _=>wpS_pure (.inr ⟨_,_,_,_,_,rfl,hK2,go,jj⟩)) (fun _=>wpS_pure ⟨_,_,_,_,_,rfl,hK2,go,jj⟩)
      | false =>
        dsimp only
        rw [if_neg Bool.false_ne_true]
        refine wpS_bind (z13 (by omega) fun q2 hq2=>?_)
        rw [hq] at hq2;cases hq2
        have go:=pA ho hq (fun p' e=>by rw [hp] at e;cases e;exact hR)
        by_cases e3:ia+1+1=a.size
        · rw [if_pos (by simpa using e3)]
          exact wpS_pure (.inl ⟨_,_,rfl,hK2,la _ _ _ go e3⟩)
        rw [if_neg (by simpa using e3)]
        have jj:ia+1+2≤a.size∧ib+1≤b.size∧1+x≤ia+1+ib:=⟨by omega,i2,by omega⟩
        exact z0g (fun _=>wpS_pure (.inr ⟨_,_,_,_,_,rfl,hK2,go,jj⟩)) (fun _=>wpS_pure ⟨_,_,_,_,_,rfl,hK2,go,jj⟩)
    case ipost =>
      rintro c st2 (⟨r,y,rfl,hK2,hr⟩ | ⟨out,ia,ib,ac,bc,rfl,hK2,ho,i1,i2,i3⟩)
      · exact wpS_pure ⟨_,_,rfl,hK2,hr⟩
      unfold zpg
      dsimp only
      refine wpS_bind (wpS_lift (wpAny_rule ⟨rfl,?_⟩))
      refine wpS_bind (wpS_mono (wpS_forRange (I:=fun y c st'=>∃ out ia ib mg ac bc,c=(none,out,ia,ib,mg,ac,bc)∧Ke st st'∧MI R a.toList b.toList out.toList ia ib∧ia+2≤a.size∧ib+1≤b.size∧1+x+y≤ia+ib)
        (Q:=fun c st'=>(∃ r y,c=(some r,y)∧Ke st st'∧Mg R a.toList b.toList r)∨(∃ out ia ib mg ac bc,c=(none,out,ia,ib,mg,ac,bc)∧Ke st st'∧MI R a.toList b.toList out.toList ia ib∧ia+2≤a.size∧ib+1≤b.size∧1+(x+1)≤ia+ib)) ?jstep ?jfin ⟨_,_,_,_,_,_,rfl,hK2,ho,i1,i2,i3⟩) ?jpost)
      case jfin =>
        rintro c st' ⟨out,ia,ib,mg,ac,bc,rfl,q1,q2,q3,q4,q5⟩
        exact .inr ⟨_,_,_,_,_,_,rfl,q1,q2,q3,q4,by omega⟩
      case jpost =>
        rintro c st3 (⟨r,y,rfl,hK3,hr⟩ | ⟨out,ia,ib,mg,ac,bc,rfl,hK3,ho,i1,i2,i3⟩)
        · exact wpS_pure ⟨_,_,rfl,hK3,hr⟩
        dsimp only
        exact wpS_bind (zbo hK3 fun st4 hK4=>wpS_pure ⟨_,_,_,_,rfl,hK4,ho,i1,i2,by omega⟩)
      case jstep =>
        rintro y c st3 _ hy ⟨out,ia,ib,mg,ac,bc,rfl,hK3,ho,i1,i2,i3⟩
        change wpS (model prog w) A E s (if mg > 1 then zcp a b out ia ib ac bc (mg - 1) else zcp a b out ia ib ac bc mg) _ _
        refine zpm (z:=1+x+y) o L hk0 ga gb sa sb ⟨dn,la,pB,pA,gA,gB⟩ ?_ hK3 ho i1 i2 i3
        exact ⟨fun r y st' hK hr=>.inl ⟨_,_,rfl,hK,hr⟩,fun _ _ _ _ _ _ _ hK ho i1 i2 i3=>.inr ⟨_,_,_,_,_,_,rfl,hK,ho,i1,i2,by omega⟩,fun _ _ _ _ _ _ _ hK ho i1 i2 i3=>⟨_,_,_,_,_,_,rfl,hK,ho,i1,i2,by omega⟩⟩
end
structure MH (R:Keyed→Keyed→Bool) (al bl out:List Keyed) (na nb:Nat):Prop where
  perm:(al.take na++bl.take nb++out.reverse).Perm (al++bl)
  srt:out.reverse.Pairwise (Le R)
  la:∀ x∈out,∀ y∈al.take na,Le R y x
  lb:∀ x∈out,∀ y∈bl.take nb,Le R y x
section
variable {R:Keyed→Keyed→Bool} {al bl out:List Keyed} {na nb k:Nat}
theorem MH.zero:MH R al bl [] al.length bl.length:=⟨by simp,.nil,fun _ h=>(nomatch h),fun _ h=>(nomatch h)⟩
theorem zmq {l:List Keyed} (h:k≤na):l.take k++(l.take na).drop k=l.take na:=by
  have:=List.take_append_drop k (l.take na)
  rw [List.take_take,Nat.min_eq_left h] at this
  exact this
theorem MH.blockA (h:MH R al bl out na nb) (sa:al.Pairwise (Le R)) (hk':k≤na) (hk:∀ x∈(al.take na).drop k,∀ y∈bl.take nb,Le R y x):MH R al bl (out++((al.take na).drop k).reverse) k nb:=by
  have e:=zmq (l:=al) hk'
  have hp:(al.take na).Pairwise (Le R):=sa.sublist (List.take_sublist na al)
  rw [← e,List.pairwise_append] at hp
  refine ⟨?_,?_,?_,?_⟩
  · have:=h.perm
    rw [← e] at this
    refine List.Perm.trans ?_ this
    rw [List.reverse_append,List.reverse_reverse,← List.append_assoc]
    refine List.Perm.append_right _ ?_
    rw [List.append_assoc,List.append_assoc]
    exact List.Perm.append_left _ List.perm_append_comm
  · rw [List.reverse_append,List.reverse_reverse,List.pairwise_append]
    exact ⟨hp.2.1,h.srt,fun x hx y hy=>h.la y (by simpa using hy) x (by rw [← e];exact List.mem_append_right _ hx)⟩
  · intro x hx y hy
    rcases List.mem_append.mp hx with hx | hx
    · exact h.la x hx y (by rw [← e];exact List.mem_append_left _ hy)
    · exact hp.2.2 y hy x (by simpa using hx)
  · intro x hx y hy
    rcases List.mem_append.mp hx with hx | hx
    · exact h.lb x hx y hy
    · exact hk x (by simpa using hx) y hy
theorem MH.blockB (h:MH R al bl out na nb) (sb:bl.Pairwise (Le R)) (hk':k≤nb) (hk:∀ x∈(bl.take nb).drop k,∀ y∈al.take na,Le R y x):MH R al bl (out++((bl.take nb).drop k).reverse) na k:=by
  have e:=zmq (l:=bl) hk'
  have hp:(bl.take nb).Pairwise (Le R):=sb.sublist (List.take_sublist nb bl)
  rw [← e,List.pairwise_append] at hp
  refine ⟨?_,?_,?_,?_⟩
  · have:=h.perm
    rw [← e] at this
    rw [List.reverse_append,List.reverse_reverse]
    simpa [List.append_assoc] using this
  · rw [List.reverse_append,List.reverse_reverse,List.pairwise_append]
    exact ⟨hp.2.1,h.srt,fun x hx y hy=>h.lb y (by simpa using hy) x (by rw [← e];exact List.mem_append_right _ hx)⟩
  · intro x hx y hy
    rcases List.mem_append.mp hx with hx | hx
    · exact h.la x hx y hy
    · exact hk x (by simpa using hx) y hy
  · intro x hx y hy
    rcases List.mem_append.mp hx with hx | hx
    · exact h.lb x hx y (by rw [← e];exact List.mem_append_left _ hy)
    · exact hp.2.2 y hy x (by simpa using hx)
theorem z9k {l:List Keyed} {x:Keyed} (h:l[k]?=some x):(l.take (k+1)).drop k=[x]:=by
  obtain ⟨hk,e⟩:=List.getElem?_eq_some_iff.mp h
  rw [List.drop_take]
  have:k+1 - k=1:=by omega
  rw [this]
  exact z64 h
theorem zui (o:Od R) {l:List Keyed} (s:l.Pairwise (Le R)) {x y:Keyed} (h:l[k]?=some x) (hy:y∈l.take (k+1)):Le R y x:=by
  obtain ⟨hk,e⟩:=List.getElem?_eq_some_iff.mp h
  obtain ⟨j,hj,ej⟩:=List.mem_iff_getElem.mp hy
  rw [List.length_take] at hj
  rw [List.getElem_take] at ej
  by_cases hjk:j=k
  · subst hjk;rw [← e,← ej];exact o.refl _
  · have:=List.pairwise_iff_getElem.mp s j k (by omega) hk (by omega)
    rw [ej,e] at this
    exact this
theorem ze4 {l:List Keyed} {i j:Nat} {x:Keyed} (h:x∈(l.take j).drop i):∃ m,i≤m∧m<j∧l[m]?=some x:=by
  obtain ⟨m,hm,e⟩:=List.mem_iff_getElem.mp h
  rw [List.length_drop,List.length_take] at hm
  rw [List.getElem_drop,List.getElem_take] at e
  exact ⟨i+m,by omega,by omega,by rw [← e];exact List.getElem?_eq_getElem _⟩
theorem ze5 {l:List Keyed} {j:Nat} {x:Keyed} (h:x∈l.take j):∃ m,m<j∧l[m]?=some x:=by
  obtain ⟨m,hm,e⟩:=List.mem_iff_getElem.mp h
  rw [List.length_take] at hm
  rw [List.getElem_take] at e
  exact ⟨m,by omega,by rw [← e];exact List.getElem?_eq_getElem _⟩
theorem MH.pushA (h:MH R al bl out (na+1) nb) (sa:al.Pairwise (Le R)) {q:Keyed} (eq:al[na]?=some q) (hp:∀ y∈bl.take nb,Le R y q):MH R al bl (out++[q]) na nb:=by
  have:=h.blockA sa (k:=na) (by omega) (by
    rw [z9k eq]
    intro x hx y hy
    have:x=q:=by simpa using hx
    subst this
    exact hp y hy)
  rw [z9k eq] at this
  exact this
theorem MH.pushB (h:MH R al bl out na (nb+1)) (sb:bl.Pairwise (Le R)) {p:Keyed} (ep:bl[nb]?=some p) (hq:∀ y∈al.take na,Le R y p):MH R al bl (out++[p]) na nb:=by
  have:=h.blockB sb (k:=nb) (by omega) (by
    rw [z9k ep]
    intro x hx y hy
    have:x=p:=by simpa using hx
    subst this
    exact hq y hy)
  rw [z9k ep] at this
  exact this
theorem MH.done (h:MH R al bl out na nb) (sa:al.Pairwise (Le R)) (sb:bl.Pairwise (Le R)) (hd:na=0∨nb=0):(al.take na++bl.take nb++out.reverse).Perm (al++bl)∧(al.take na++bl.take nb++out.reverse).Pairwise (Le R):=by
  refine ⟨h.perm,?_⟩
  rcases hd with rfl | rfl
  · rw [List.take_zero,List.nil_append,List.pairwise_append]
    exact ⟨sb.sublist (List.take_sublist _ _),h.srt,fun y hy x hx=>h.lb x (by simpa using hx) y hy⟩
  · rw [List.take_zero,List.append_nil,List.pairwise_append]
    exact ⟨sa.sublist (List.take_sublist _ _),h.srt,fun y hy x hx=>h.la x (by simpa using hx) y hy⟩
theorem MH.first (h:MH R al bl out na 1) (sa:al.Pairwise (Le R)) (hf:∀ p,bl[0]?=some p→∀ y∈al,Le R p y):(bl.take 1++al.take na++out.reverse).Perm (al++bl)∧(bl.take 1++al.take na++out.reverse).Pairwise (Le R):=by
  refine ⟨?_,?_⟩
  · refine List.Perm.trans ?_ h.perm
    exact List.Perm.append_right _ List.perm_append_comm
  · rw [List.pairwise_append,List.pairwise_append]
    refine ⟨⟨?_,sa.sublist (List.take_sublist _ _),fun p hp y hy=>?_⟩,h.srt,fun y hy x hx=>?_⟩
    · cases bl with
      | nil=>simp
      | cons b r=>simp
    · obtain ⟨m,hm,e⟩:=ze5 hp
      have:m=0:=by omega
      subst this
      exact hf p e y (List.mem_of_mem_take hy)
    · rcases List.mem_append.mp hy with hy | hy
      · exact h.lb x (by simpa using hx) y hy
      · exact h.la x (by simpa using hx) y hy
end
section
variable {prog:Program} {w:World} {A:Around} {E:Value→Shared→Prop} {s:Shared} {kd:SortKind} {st st0:SortSt} {Gd:Keyed→Prop} {R:Keyed→Keyed→Bool}
theorem zb3 {x:Array Keyed} {i j:Nat}:(x.extract i j).toList=(x.toList.take j).drop i:=by
  rw [Array.toList_extract,List.extract_eq_take_drop,List.drop_take]
theorem zeo {x:Array Keyed} {j:Nat}:(x.extract 0 j).toList=x.toList.take j:=by
  rw [zb3,List.drop_zero]
noncomputable abbrev zse:=ForInStep (Option (Array Keyed)×Nat×Nat×Array Keyed×Nat×Nat×Nat)
noncomputable abbrev zw9:=ForInStep (Option (Array Keyed)×Nat×Nat×Array Keyed×Nat×Nat)
noncomputable abbrev zv1:=Option (Array Keyed)×Nat×Nat×Array Keyed×Nat
noncomputable def zk7 (a b:Array Keyed) (mg k:Nat) (na nb:Nat) (out:Array Keyed) (k2:Nat):StateT SortSt Sem zse:=elem' a (na - 1) >>= fun q =>
  if (na - 1==0)=true then pure (.done (some (a.extract 0 (na - 1)++b.extract 0 nb++(out.push q).reverse),na - 1,nb,out.push q,mg,k,k2))
  else if (decide (k<7)&&decide (k2<7))=true then pure (.done (none,na - 1,nb,out.push q,mg,k,k2)) else pure (.yield (none,na - 1,nb,out.push q,mg,k,k2))
noncomputable def zk8 (a b:Array Keyed) (mg k bc:Nat) (na nb:Nat) (out:Array Keyed):StateT SortSt Sem zse:=elem' b (nb - 1) >>= fun p =>
  if (nb - 1==1)=true then pure (.done (some (b.extract 0 (nb - 1)++a.extract 0 na++(out.push p).reverse),na,nb - 1,out.push p,mg,k,bc))
  else elem' a (na - 1) >>= fun q=>z4m true q b 0 (nb - 1) (nb - 1 - 1) >>= fun x=>match x with
    | some t=>if nb - 1 - t > 0 then (if (t==1)=true then pure (.done (some (b.extract 0 t++a.extract 0 na++(out.push p++(b.extract t (nb - 1)).reverse).reverse),na,t,out.push p++(b.extract t (nb - 1)).reverse,mg,k,nb - 1 - t))
        else if (t==0)=true then pure (.done (some (a.extract 0 na++b.extract 0 t++(out.push p++(b.extract t (nb - 1)).reverse).reverse),na,t,out.push p++(b.extract t (nb - 1)).reverse,mg,k,nb - 1 - t))
        else zk7 a b mg k na t (out.push p++(b.extract t (nb - 1)).reverse) (nb - 1 - t))
      else zk7 a b mg k na (nb - 1) (out.push p) (nb - 1 - t)
    | _=>pure (.done (some (a.extract 0 na++b.extract 0 (nb - 1)++(out.push p).reverse),na,nb - 1,out.push p,mg,k,bc))
noncomputable def zft (a b:Array Keyed) (na nb:Nat) (out:Array Keyed) (ac bc mg:Nat):StateT SortSt Sem zse:=z0j mg >>= fun _=>elem' b (nb - 1) >>= fun p=>z4m false p a 0 na (na - 1) >>= fun x=>match x with
  | some t=>if na - t > 0 then (if (t==0)=true then pure (.done (some (a.extract 0 t++b.extract 0 nb++(out++(a.extract t na).reverse).reverse),t,nb,out++(a.extract t na).reverse,mg,na - t,bc))
      else zk8 a b mg (na - t) bc t nb (out++(a.extract t na).reverse))
    else zk8 a b mg (na - t) bc na nb out
  | _=>pure (.done (some (a.extract 0 na++b.extract 0 nb++out.reverse),na,nb,out,mg,ac,bc))
noncomputable def zpl (a b:Array Keyed) (mg:Nat) (na nb:Nat) (out:Array Keyed) (ac bc:Nat):StateT SortSt Sem zw9:=elem' b (nb - 1) >>= fun p=>elem' a (na - 1) >>= fun q=>lt' p q >>= fun x=>match x with
  | some aw=>if aw=true then (elem' a (na - 1) >>= fun q=>if (na - 1==0)=true then pure (.done (some (a.extract 0 (na - 1)++b.extract 0 nb++(out.push q).reverse),na - 1,nb,out.push q,ac+1,0))
        else if ac+1≥mg then pure (.done (none,na - 1,nb,out.push q,ac+1,0)) else pure (.yield (none,na - 1,nb,out.push q,ac+1,0)))
      else (elem' b (nb - 1) >>= fun p=>if (nb - 1==1)=true then pure (.done (some (b.extract 0 (nb - 1)++a.extract 0 na++(out.push p).reverse),na,nb - 1,out.push p,0,bc+1))
        else if bc+1≥mg then pure (.done (none,na,nb - 1,out.push p,0,bc+1)) else pure (.yield (none,na,nb - 1,out.push p,0,bc+1)))
  | _=>pure (.done (some (a.extract 0 na++b.extract 0 nb++out.reverse),na,nb,out,ac,bc))
noncomputable def zpk (a b:Array Keyed) (mg:Nat) (r:Option (Array Keyed)×Nat×Nat×Array Keyed×Nat×Nat):StateT SortSt Sem (ForInStep zv1):=match r.1 with
  | some x=>pure (.done (some x,r.2.1,r.2.2.1,r.2.2.2.1,mg))
  | none=>liftM (rule "list.sort.gallop") >>= fun _=>forIn [:a.size+b.size] (none,r.2.1,r.2.2.1,r.2.2.2.1,mg+1,r.2.2.2.2.1,r.2.2.2.2.2) (fun _ t=>if t.2.2.2.2.1 > 1 then zft a b t.2.1 t.2.2.1 t.2.2.2.1 t.2.2.2.2.2.1 t.2.2.2.2.2.2 (t.2.2.2.2.1 - 1) else zft a b t.2.1 t.2.2.1 t.2.2.2.1 t.2.2.2.2.2.1 t.2.2.2.2.2.2 t.2.2.2.2.1) >>= fun u=>match u.1 with
    | some x=>pure (.done (some x,u.2.1,u.2.2.1,u.2.2.2.1,u.2.2.2.2.1))
    | none=>z0j (u.2.2.2.2.1+1) >>= fun _=>pure (.yield (none,u.2.1,u.2.2.1,u.2.2.2.1,u.2.2.2.2.1+1))
noncomputable def zpi (a b:Array Keyed) (na nb:Nat) (out:Array Keyed) (mg:Nat):StateT SortSt Sem (ForInStep zv1):=forIn [:a.size+b.size] (none,na,nb,out,0,0) (fun _ r=>zpl a b mg r.2.1 r.2.2.1 r.2.2.2.1 r.2.2.2.2.1 r.2.2.2.2.2) >>= fun r=>zpk a b mg r
noncomputable def zpj (a b:Array Keyed):StateT SortSt Sem (Array Keyed):=liftM (rule "list.sort.merge-hi") >>= fun _=>elem' a (a.size - 1) >>= fun q=>if (a.size - 1==0)=true then pure (a.extract 0 (a.size - 1)++b.extract 0 b.size++(#[q]:Array Keyed).reverse)
  else if (b.size==1)=true then pure (b.extract 0 b.size++a.extract 0 (a.size - 1)++(#[q]:Array Keyed).reverse)
  else get >>= fun g=>forIn [:a.size+b.size] (none,a.size - 1,b.size,#[q],gallopOf g) (fun _ r=>zpi a b r.2.1 r.2.2.1 r.2.2.2.1 r.2.2.2.2) >>= fun r=>match r.1 with
    | some x=>pure x
    | none=>liftM (unsupported "internal:list.sort.merge-bound")
theorem zie (a b:Array Keyed):z9g a b=zpj a b:=by
  rw [ze2]
  refine z30 rfl fun _=>z30 rfl fun q=>?_
  refine ite_congr rfl (fun _=>rfl) fun _=>ite_congr rfl (fun _=>rfl) fun _=>z30 rfl fun g=>z30 (zem fun x r=>?_) fun u=>?_
  · refine z30 rfl fun r2=>?_
    rcases r2 with ⟨_ | x,y⟩
    · refine z30 rfl fun _=>z30 rfl fun u=>?_
      rcases u with ⟨_ | x,y⟩ <;> rfl
    · rfl
  · rcases u with ⟨_ | x,y⟩ <;> rfl
structure HiH (R:Keyed→Keyed→Bool) (a b:Array Keyed):Prop where
  dn:∀ (out:Array Keyed) (i j:Nat),MH R a.toList b.toList out.toList i j→(i=0∨j=0)→Mg R a.toList b.toList (a.extract 0 i++b.extract 0 j++out.reverse)
  la:∀ (out:Array Keyed) (i j:Nat),MH R a.toList b.toList out.toList i j→j=1→Mg R a.toList b.toList (b.extract 0 j++a.extract 0 i++out.reverse)
  pA:∀ {out:Array Keyed} {i j:Nat} {q:Keyed},MH R a.toList b.toList out.toList (i+1) j→a[i]?=some q→(∀ m y,m<j→b[m]?=some y→Le R y q)→MH R a.toList b.toList (out.push q).toList i j
  pB:∀ {out:Array Keyed} {i j:Nat} {p:Keyed},MH R a.toList b.toList out.toList i (j+1)→b[j]?=some p→(∀ m y,m<i→a[m]?=some y→Le R y p)→MH R a.toList b.toList (out.push p).toList i j
  gA:∀ {out:Array Keyed} {i j k:Nat} {p:Keyed},MH R a.toList b.toList out.toList i (j+1)→k≤i→b[j]?=some p→(∀ m x,k≤m→m<i→a[0+m]?=some x→By R false p x=false)→MH R a.toList b.toList (out++(a.extract k i).reverse).toList k (j+1)
  gB:∀ {out:Array Keyed} {i j k:Nat} {q:Keyed},MH R a.toList b.toList out.toList (i+1) j→k≤j→a[i]?=some q→(∀ m x,k≤m→m<j→b[0+m]?=some x→By R true q x=false)→MH R a.toList b.toList (out++(b.extract k j).reverse).toList (i+1) k
structure HiQ (R:Keyed→Keyed→Bool) (a b:Array Keyed) (st0:SortSt) (z:Nat) (Q:zse→SortSt→Prop):Prop where
  d:∀ r y st',Ke st0 st'→Mg R a.toList b.toList r→Q (.done (some r,y)) st'
  n:∀ na nb out mg ac bc st',Ke st0 st'→MH R a.toList b.toList out.toList na nb→1≤na→na≤a.size→2≤nb→nb≤b.size→na+nb+z+1≤a.size+b.size→Q (.done (none,na,nb,out,mg,ac,bc)) st'
  y:∀ na nb out mg ac bc st',Ke st0 st'→MH R a.toList b.toList out.toList na nb→1≤na→na≤a.size→2≤nb→nb≤b.size→na+nb+z+1≤a.size+b.size→Q (.yield (none,na,nb,out,mg,ac,bc)) st'
section
variable {a b out:Array Keyed} {na nb mg k k2 ac bc z:Nat} {Q:zse→SortSt→Prop}
theorem zly (H:HiH R a b) (K:HiQ R a b st0 z Q) {q:Keyed} (hK:Ke st0 st) (hq:a[na]?=some q) (ho:MH R a.toList b.toList out.toList (na+1) nb) (hle:∀ m y,m<nb→b[m]?=some y→Le R y q) (i2:na+1≤a.size) (i3:2≤nb) (i4:nb≤b.size) (i5:na+1+nb+z≤a.size+b.size):wpS (model prog w) A E s (zk7 a b mg k (na+1) nb out k2) Q st:=by
  unfold zk7
  simp only [Nat.add_sub_cancel]
  refine wpS_bind (z13 (by omega) fun p4 hp4=>?_)
  rw [hq] at hp4;cases hp4
  have ho4:=H.pA ho hq hle
  refine z0g (fun e5=>wpS_pure (K.d _ _ _ hK (H.dn _ _ _ ho4 (.inl (by simpa using e5))))) (fun e5=>?_)
  simp only [beq_iff_eq] at e5
  have j1:1≤na:=Nat.pos_of_ne_zero e5
  have j2:=Nat.le_of_succ_le i2
  have j3:na+nb+z+1≤a.size+b.size:=by omega
  exact z0g (fun e6=>wpS_pure (K.n _ _ _ _ _ _ _ hK ho4 j1 j2 i3 i4 j3)) (fun e6=>wpS_pure (K.y _ _ _ _ _ _ _ hK ho4 j1 j2 i3 i4 j3))
theorem zlz (o:Od R) (L:LtOk prog w A E s kd Gd R) (hk0:kindOf st0=kd) (ga:∀ p∈a.toList,Gd p) (gb:∀ p∈b.toList,Gd p) (sb:b.toList.Pairwise (Le R)) (H:HiH R a b) (K:HiQ R a b st0 z Q) {p:Keyed} (hK:Ke st0 st) (hp:b[nb]?=some p) (ho:MH R a.toList b.toList out.toList (na+1) (nb+1)) (hle:∀ m y,m<na+1→a[m]?=some y→Le R y p) (i2:na+1≤a.size) (i3:2≤nb+1) (i4:nb+1≤b.size) (i5:na+1+(nb+1)+z≤a.size+b.size):wpS (model prog w) A E s (zk8 a b mg k bc (na+1) (nb+1) out) Q st:=by
  unfold zk8
  simp only [Nat.add_sub_cancel]
  refine wpS_bind (z13 (by omega) fun p2 hp2=>?_)
  rw [hp] at hp2;cases hp2
  have ho2:=H.pB ho hp hle
  refine z0g (fun e2=>wpS_pure (K.d _ _ _ hK (H.la _ _ _ ho2 (by simpa using e2)))) (fun e2=>?_)
  simp only [beq_iff_eq] at e2
  refine wpS_bind (z13 (by omega) fun p3 hp3=>?_)
  refine wpS_bind (z59 o L (hK.kind.trans hk0) (ga p3 (z4z hp3)) gb (by omega) (by omega) (z9t o sb) fun k2 hk2 kt2 kf2=>?_)
  dsimp only
  have kt2':∀ m y,m<k2→b[m]?=some y→Le R y p3:=fun m y hm ey=>by
    have:=kt2 m y hm (by rw [Nat.zero_add];exact ey)
    exact o.lt (by simpa [By] using this)
  refine z0g (fun ek2=>?_) (fun ek2=>?_)
  · have ho3:=H.gB ho2 hk2 hp3 kf2
    refine z0g (fun e3=>wpS_pure (K.d _ _ _ hK (H.la _ _ _ ho3 (by simpa using e3)))) (fun e3=>?_)
    refine z0g (fun e4=>wpS_pure (K.d _ _ _ hK (H.dn _ _ _ ho3 (.inr (by simpa using e4))))) (fun e4=>?_)
    simp only [beq_iff_eq] at e3 e4
    exact zly H K hK hp3 ho3 kt2' i2 (by omega) (by omega) (by omega)
  · have hk20:k2=nb:=by omega
    subst hk20
    exact zly H K hK hp3 ho2 kt2' i2 (by omega) (by omega) (by omega)
theorem zm0 (o:Od R) (L:LtOk prog w A E s kd Gd R) (hk0:kindOf st0=kd) (ga:∀ p∈a.toList,Gd p) (gb:∀ p∈b.toList,Gd p) (sa:a.toList.Pairwise (Le R)) (sb:b.toList.Pairwise (Le R)) (H:HiH R a b) (K:HiQ R a b st0 z Q) (hK:Ke st0 st) (ho:MH R a.toList b.toList out.toList na (nb+1)) (i1:1≤na) (i2:na≤a.size) (i3:2≤nb+1) (i4:nb+1≤b.size) (i5:na+(nb+1)+z≤a.size+b.size):wpS (model prog w) A E s (zft a b na (nb+1) out ac bc mg) Q st:=by
  unfold zft
  simp only [Nat.add_sub_cancel]
  refine wpS_bind (zbo hK fun st4 hK4=>?_)
  refine wpS_bind (z13 (by omega) fun p hp=>?_)
  refine wpS_bind (z59 o L (hK4.kind.trans hk0) (gb p (z4z hp)) ga (by omega) (by omega) (z9t o sa) fun k hk kt kf=>?_)
  dsimp only
  have kt':∀ m y,m<k→a[m]?=some y→Le R y p:=fun m y hm ey=>by
    have:=kt m y hm (by rw [Nat.zero_add];exact ey)
    simpa [By,Le] using this
  refine z0g (fun ek=>?_) (fun ek=>?_)
  · have ho1:=H.gA ho hk hp kf
    refine z0g (fun e1=>wpS_pure (K.d _ _ _ hK4 (H.dn _ _ _ ho1 (.inl (by simpa using e1))))) (fun e1=>?_)
    simp only [beq_iff_eq] at e1
    generalize na - k=kk
    obtain ⟨k,rfl⟩:∃ n,k=n+1:=⟨k - 1,by omega⟩
    exact zlz o L hk0 ga gb sb H K hK4 hp ho1 kt' (by omega) i3 i4 (by omega)
  · have hk0':k=na:=by omega
    subst hk0'
    generalize k - k=kk
    obtain ⟨k,rfl⟩:∃ n,k=n+1:=⟨k - 1,by omega⟩
    exact zlz o L hk0 ga gb sb H K hK4 hp ho kt' i2 i3 i4 (by omega)
theorem zpn (o:Od R) (L:LtOk prog w A E s kd Gd R) (hk0:kindOf st0=kd) (ga:∀ p∈a.toList,Gd p) (gb:∀ p∈b.toList,Gd p) (sa:a.toList.Pairwise (Le R)) (sb:b.toList.Pairwise (Le R)) (H:HiH R a b) (K:HiQ R a b st0 z Q) (hK:Ke st0 st) (ho:MH R a.toList b.toList out.toList na (nb+1)) (i1:1≤na) (i2:na≤a.size) (i3:2≤nb+1) (i4:nb+1≤b.size) (i5:na+(nb+1)+z≤a.size+b.size):wpS (model prog w) A E s (if mg > 1 then zft a b na (nb+1) out ac bc (mg - 1) else zft a b na (nb+1) out ac bc mg) Q st :=
  z0g (fun _=>zm0 o L hk0 ga gb sa sb H K hK ho i1 i2 i3 i4 i5) (fun _=>zm0 o L hk0 ga gb sa sb H K hK ho i1 i2 i3 i4 i5)
end
set_option maxHeartbeats 8000000 in
theorem zfv (o:Od R) (L:LtOk prog w A E s kd Gd R) {a b:Array Keyed} {Q:Array Keyed→SortSt→Prop} (hk0:kindOf st=kd) (ga:∀ p∈a.toList,Gd p) (gb:∀ p∈b.toList,Gd p) (h1:1≤a.size) (h2:1≤b.size) (sa:a.toList.Pairwise (Le R)) (sb:b.toList.Pairwise (Le R))
    (h0:∀ p q,b[0]?=some p→a[0]?=some q→R p q=true) (hl:∀ x,a[a.size - 1]?=some x→∀ y∈b.toList,Le R y x)
    (h:∀ r st',Ke st st'→Mg R a.toList b.toList r→Q r st'):wpS (model prog w) A E s (z9g a b) Q st:=by
  rw [zie]
  unfold zpj
  refine wpS_bind (wpS_lift (wpAny_rule ⟨rfl,?_⟩))
  refine wpS_bind (z13 (by omega) fun q0 hq0=>?_)
  have la0:a.toList.length=a.size:=by simp
  have lb0:b.toList.length=b.size:=by simp
  have dn:∀ (out:Array Keyed) (i j:Nat),MH R a.toList b.toList out.toList i j→(i=0∨j=0)→Mg R a.toList b.toList (a.extract 0 i++b.extract 0 j++out.reverse):=fun out i j hm hd=>by
    unfold Mg
    rw [Array.toList_append,Array.toList_append,zeo,zeo,Array.toList_reverse]
    exact hm.done sa sb hd
  have la:∀ (out:Array Keyed) (i j:Nat),MH R a.toList b.toList out.toList i j→j=1→Mg R a.toList b.toList (b.extract 0 j++a.extract 0 i++out.reverse):=fun out i j hm hd=>by
    subst hd
    unfold Mg
    rw [Array.toList_append,Array.toList_append,zeo,zeo,Array.toList_reverse]
    refine hm.first sa fun p ep y hy=>?_
    obtain ⟨q,eq⟩:∃ q,a[0]?=some q:=⟨_,Array.getElem?_eq_getElem (by omega)⟩
    exact o.trans (o.lt (h0 p q (z9c ep) eq)) (za8 o sa (zan eq) (by rw [List.drop_zero];exact hy))
  have pA:∀ {out:Array Keyed} {i j:Nat} {q:Keyed},MH R a.toList b.toList out.toList (i+1) j→a[i]?=some q→(∀ m y,m<j→b[m]?=some y→Le R y q)→MH R a.toList b.toList (out.push q).toList i j:=fun hm e hq=>by
    rw [Array.toList_push]
    exact hm.pushA sa (zan e) fun y hy=>let ⟨m,h1,h2⟩:=ze5 hy;hq m y h1 (z9c h2)
  have pB:∀ {out:Array Keyed} {i j:Nat} {p:Keyed},MH R a.toList b.toList out.toList i (j+1)→b[j]?=some p→(∀ m y,m<i→a[m]?=some y→Le R y p)→MH R a.toList b.toList (out.push p).toList i j:=fun hm e hq=>by
    rw [Array.toList_push]
    exact hm.pushB sb (zan e) fun y hy=>let ⟨m,h1,h2⟩:=ze5 hy;hq m y h1 (z9c h2)
  have gA:∀ {out:Array Keyed} {i j k:Nat} {p:Keyed},MH R a.toList b.toList out.toList i (j+1)→k≤i→b[j]?=some p→(∀ m x,k≤m→m<i→a[0+m]?=some x→By R false p x=false)→MH R a.toList b.toList (out++(a.extract k i).reverse).toList k (j+1):=fun hm hki e hk=>by
    rw [Array.toList_append,Array.toList_reverse,zb3]
    refine hm.blockA sa hki fun x hx y hy=>?_
    obtain ⟨m,m1,m2,ex⟩:=ze4 hx
    have:=hk m x m1 m2 (by rw [Nat.zero_add];exact z9c ex)
    exact o.trans (zui o sb (zan e) hy) (o.lt (by simpa [By] using this))
  have gB:∀ {out:Array Keyed} {i j k:Nat} {q:Keyed},MH R a.toList b.toList out.toList (i+1) j→k≤j→a[i]?=some q→(∀ m x,k≤m→m<j→b[0+m]?=some x→By R true q x=false)→MH R a.toList b.toList (out++(b.extract k j).reverse).toList (i+1) k:=fun hm hkj e hk=>by
    rw [Array.toList_append,Array.toList_reverse,zb3]
    refine hm.blockB sb hkj fun x hx y hy=>?_
    obtain ⟨m,m1,m2,ex⟩:=ze4 hx
    have:=hk m x m1 m2 (by rw [Nat.zero_add];exact z9c ex)
    exact o.trans (zui o sa (zan e) hy) (by simpa [By,Le] using this)
  have g0:MH R a.toList b.toList (#[q0]:Array Keyed).toList (a.size - 1) b.size:=by
    have z:MH R a.toList b.toList (#[]:Array Keyed).toList (a.size - 1+1) b.size:=by
      have:=MH.zero (R:=R) (al:=a.toList) (bl:=b.toList)
      rw [la0,lb0,show a.size=a.size - 1+1 by omega] at this
      exact this
    exact pA z hq0 fun m y _ ey=>hl q0 hq0 y (z4z ey)
  by_cases e1:a.size - 1=0
  · rw [if_pos (by simpa using e1)]
    exact wpS_pure (h _ _ .refl (dn _ _ _ g0 (.inl e1)))
  rw [if_neg (by simpa using e1)]
  by_cases e2:b.size=1
  · rw [if_pos (by simpa using e2)]
    exact wpS_pure (h _ _ .refl (la _ _ _ g0 e2))
  rw [if_neg (by simpa using e2)]
  refine wpS_bind (wpS_get ?_)
  refine wpS_bind (wpS_mono (wpS_forRange (I:=fun x c st'=>∃ na nb out mg,c=(none,na,nb,out,mg)∧Ke st st'∧MH R a.toList b.toList out.toList na nb∧1≤na∧na≤a.size∧2≤nb∧nb≤b.size∧na+nb+1+x≤a.size+b.size)
    (Q:=fun c st'=>∃ r y,c=(some r,y)∧Ke st st'∧Mg R a.toList b.toList r) ?step ?fin ⟨_,_,_,_,rfl,.refl,g0,by omega,by omega,by omega,by omega,by omega⟩) ?post)
  case post =>
    rintro c st' ⟨r,y,rfl,hK,hr⟩
    exact wpS_pure (h r st' hK hr)
  case fin =>
    rintro c st' ⟨na,nb,out,mg,rfl,hK,ho,i1,i2,i3,i4,i5⟩
    omega
  case step =>
    rintro x c st1 _ hx ⟨na,nb,out,mg,rfl,hK1,ho,i1,i2,i3,i4,i5⟩
    dsimp only
    unfold zpi
    refine wpS_bind (wpS_mono (wpS_forRange (I:=fun y c st'=>∃ na nb out ac bc,c=(none,na,nb,out,ac,bc)∧Ke st st'∧MH R a.toList b.toList out.toList na nb∧1≤na∧na≤a.size∧2≤nb∧nb≤b.size∧na+nb+1+x≤a.size+b.size)
      (Q:=fun c st'=>(∃ r y,c=(some r,y)∧Ke st st'∧Mg R a.toList b.toList r)∨(∃ na nb out ac bc,c=(none,na,nb,out,ac,bc)∧Ke st st'∧MH R a.toList b.toList out.toList na nb∧1≤na∧na≤a.size∧2≤nb∧nb≤b.size∧na+nb+1+x≤a.size+b.size)) ?istep ?ifin ⟨_,_,_,_,_,rfl,hK1,ho,i1,i2,i3,i4,i5⟩) ?ipost)
    case ifin=>exact fun c st' z=>.inr z
    case istep =>
      rintro y c st2 _ hy ⟨na,nb,out,ac,bc,rfl,hK2,ho,i1,i2,i3,i4,i5⟩
      obtain ⟨na,rfl⟩:∃ n,na=n+1:=⟨na - 1,by omega⟩
      obtain ⟨nb,rfl⟩:∃ n,nb=n+1:=⟨nb - 1,by omega⟩
      dsimp only
      unfold zpl
      refine wpS_bind (z13 (by omega) fun p hp=>wpS_bind (z13 (by omega) fun q hq=>wpS_bind (L st2 p q _ (hK2.kind.trans hk0) (gb _ (z4z hp)) (ga _ (z4z hq)) ?_)))
      rw [Nat.add_sub_cancel] at hp hq
      cases hR:R p q with
      | true =>
        dsimp only
        rw [if_pos rfl]
        refine wpS_bind (z13 (by omega) fun q2 hq2=>?_)
        rw [Nat.add_sub_cancel] at hq2
        rw [hq] at hq2;cases hq2
        have go:=pA ho hq (fun m y hm ey=>o.trans (z9t o sb (i:=0) (j:=nb+1) m nb y p (by omega) (by omega) (by omega) ey hp) (o.lt hR))
        refine z0g (fun ec=>?_) (fun ec=>?_)
        · exact wpS_pure (.inl ⟨_,_,rfl,hK2,dn _ _ _ go (.inl (by simpa using ec))⟩)
        simp only [beq_iff_eq] at ec
        have jj:1≤na∧na≤a.size∧2≤nb+1∧nb+1≤b.size∧na+(nb+1)+1+x≤a.size+b.size:=⟨Nat.pos_of_ne_zero ec,Nat.le_of_succ_le i2,i3,i4,by omega⟩
        exact z0g (fun _=>wpS_pure (.inr ⟨_,_,_,_,_,rfl,hK2,go,jj⟩)) (fun _=>wpS_pure ⟨_,_,_,_,_,rfl,hK2,go,jj⟩)
      | false =>
        dsimp only
        rw [if_neg Bool.false_ne_true]
        refine wpS_bind (z13 (by omega) fun p2 hp2=>?_)
        rw [Nat.add_sub_cancel] at hp2
        rw [hp] at hp2;cases hp2
        have go:=pB ho hp (fun m y hm ey=>o.trans (z9t o sa (i:=0) (j:=na+1) m na y q (by omega) (by omega) (by omega) ey hq) hR)
        refine z0g (fun ec=>?_) (fun ec=>?_)
        · exact wpS_pure (.inl ⟨_,_,rfl,hK2,la _ _ _ go (by simpa using ec)⟩)
        simp only [beq_iff_eq] at ec
        have jj:1≤na+1∧na+1≤a.size∧2≤nb∧nb≤b.size∧na+1+nb+1+x≤a.size+b.size:=⟨i1,i2,by omega,Nat.le_of_succ_le i4,by omega⟩
        exact z0g (fun _=>wpS_pure (.inr ⟨_,_,_,_,_,rfl,hK2,go,jj⟩)) (fun _=>wpS_pure ⟨_,_,_,_,_,rfl,hK2,go,jj⟩)
    case ipost =>
      rintro c st2 (⟨r,y,rfl,hK2,hr⟩ | ⟨na,nb,out,ac,bc,rfl,hK2,ho,i1,i2,i3,i4,i5⟩)
      · exact wpS_pure ⟨_,_,rfl,hK2,hr⟩
      unfold zpk
      dsimp only
      refine wpS_bind (wpS_lift (wpAny_rule ⟨rfl,?_⟩))
      refine wpS_bind (wpS_mono (wpS_forRange (I:=fun y c st'=>∃ na nb out mg ac bc,c=(none,na,nb,out,mg,ac,bc)∧Ke st st'∧MH R a.toList b.toList out.toList na nb∧1≤na∧na≤a.size∧2≤nb∧nb≤b.size∧na+nb+1+x+y≤a.size+b.size)
        (Q:=fun c st'=>(∃ r y,c=(some r,y)∧Ke st st'∧Mg R a.toList b.toList r)∨(∃ na nb out mg ac bc,c=(none,na,nb,out,mg,ac,bc)∧Ke st st'∧MH R a.toList b.toList out.toList na nb∧1≤na∧na≤a.size∧2≤nb∧nb≤b.size∧na+nb+1+(x+1)≤a.size+b.size)) ?jstep ?jfin ⟨_,_,_,_,_,_,rfl,hK2,ho,i1,i2,i3,i4,i5⟩) ?jpost)
      case jfin =>
        rintro c st' ⟨na,nb,out,mg,ac,bc,rfl,q1,q2,q3,q4,q5,q6,q7⟩
        exact .inr ⟨_,_,_,_,_,_,rfl,q1,q2,q3,q4,q5,q6,by omega⟩
      case jpost =>
        rintro c st3 (⟨r,y,rfl,hK3,hr⟩ | ⟨na,nb,out,mg,ac,bc,rfl,hK3,ho,i1,i2,i3,i4,i5⟩)
        · exact wpS_pure ⟨_,_,rfl,hK3,hr⟩
        dsimp only
        exact wpS_bind (zbo hK3 fun st4 hK4=>wpS_pure ⟨_,_,_,_,rfl,hK4,ho,i1,i2,i3,i4,by omega⟩)
      case jstep =>
        rintro y c st3 _ hy ⟨na,nb,out,mg,ac,bc,rfl,hK3,ho,i1,i2,i3,i4,i5⟩
        obtain ⟨nb,rfl⟩:∃ n,nb=n+1:=⟨nb - 1,by omega⟩
        dsimp only
        refine zpn (z:=1+x+y) o L hk0 ga gb sa sb ⟨dn,la,pA,pB,gA,gB⟩ ?_ hK3 ho i1 i2 i3 i4 (by omega)
        exact ⟨fun r y st' hK hr=>.inl ⟨_,_,rfl,hK,hr⟩,fun _ _ _ _ _ _ _ hK ho i1 i2 i3 i4 i5=>.inr ⟨_,_,_,_,_,_,rfl,hK,ho,i1,i2,i3,i4,by omega⟩,fun _ _ _ _ _ _ _ hK ho i1 i2 i3 i4 i5=>⟨_,_,_,_,_,_,rfl,hK,ho,i1,i2,i3,i4,by omega⟩⟩
end
theorem zct (sa:Nat):∀ (l:List Keyed) (j0:Nat) (x:Array Keyed),sa+j0+l.length≤x.size→∀ k:Nat,
    ((l.zipIdx j0).foldl (fun a (q:Keyed×Nat)=>a.setIfInBounds (sa+q.2) q.1) x)[k]?=if sa+j0≤k∧k<sa+j0+l.length then l[k - (sa+j0)]? else x[k]?
  | [],j0,x,_,k=>by
    rw [if_neg (by simp)];rfl
  | p::r,j0,x,h,k=>by
    rw [List.length_cons] at h
    have ih:=zct sa r (j0+1) (x.setIfInBounds (sa+j0) p) (by simp;omega) k
    rw [List.zipIdx_cons,List.foldl_cons]
    rw [ih,Array.getElem?_setIfInBounds,List.length_cons]
    by_cases h1:sa+(j0+1)≤k∧k<sa+(j0+1)+r.length
    · rw [if_pos h1,if_pos (by omega)]
      rw [show k - (sa+j0)=(k - (sa+(j0+1)))+1 by omega,List.getElem?_cons_succ]
    · rw [if_neg h1]
      by_cases h2:sa+j0=k
      · subst h2
        rw [if_pos rfl,if_pos (by omega),if_pos (by omega),Nat.sub_self]
        rfl
      · rw [if_neg h2,if_neg (by omega)]
theorem z9s (sa:Nat):∀ (l:List (Keyed×Nat)) (x:Array Keyed),(l.foldl (fun a (q:Keyed×Nat)=>a.setIfInBounds (sa+q.2) q.1) x).size=x.size
  | [],x=>rfl
  | q::r,x=>by rw [List.foldl_cons,z9s sa r];simp
theorem zl1 {x y:List Keyed} {i n:Nat} {r:List Keyed} (hr:r.length=n) (hp:r.Perm ((x.drop i).take n)) (h:i+n≤x.length) (hy:y.length=x.length) (e:∀ k:Nat,y[k]?=if i≤k∧k<i+n then r[k - i]? else x[k]?):y.Perm x:=by
  have ex:x=x.take i++(x.drop i).take n++x.drop (i+n):=by
    rw [List.append_assoc,← List.drop_drop,List.take_append_drop,List.take_append_drop]
  have ey:y=x.take i++r++x.drop (i+n):=by
    apply List.ext_getElem?
    intro k
    rw [e,List.append_assoc,List.getElem?_append,List.getElem?_append,List.length_take,Nat.min_eq_left (by omega)]
    by_cases h1:k<i
    · rw [if_neg (by omega),if_pos h1,List.getElem?_take,if_pos h1]
    · rw [if_neg h1]
      by_cases h2:k<i+n
      · rw [if_pos (by omega),if_pos (by omega)]
      · rw [if_neg (by omega),if_neg (by omega),List.getElem?_drop]
        congr 1
        omega
  rw [ey]
  conv=>rhs;rw [ex]
  exact List.Perm.append_right _ (List.Perm.append_left _ hp)
section
variable {R:Keyed→Keyed→Bool}
theorem zes (o:Od R) {x:Array Keyed} {i m j:Nat} (h1:Seg R x i m) (h2:Seg R x m j) (hm:m<x.size) (h:∀ p a b,i≤p→p<m→x[p]?=some a→x[m]?=some b→Le R a b):Seg R x i j:=fun p q a b g1 g2 g3 e1 e2=>by
  by_cases hp:p<m
  · by_cases hq:q<m
    · exact h1 p q a b g1 g2 hq e1 e2
    · obtain ⟨c,ec⟩:∃ c,x[m]?=some c:=⟨_,Array.getElem?_eq_getElem hm⟩
      exact o.trans (h p a c g1 hp e1 ec) (h2 m q c b (Nat.le_refl _) (by omega) g3 ec e2)
  · exact h2 p q a b (by omega) g2 g3 e1 e2
theorem zm6 {x:Array Keyed} {i j:Nat} (h:Seg R x i j) (hj:j≤x.size):(x.extract i j).toList.Pairwise (Le R):=by
  rw [List.pairwise_iff_getElem]
  intro p q hp hq hpq
  have lp:=hp
  have lq:=hq
  rw [Array.length_toList,Array.size_extract] at lp lq
  have e1:x[i+p]?=some ((x.extract i j).toList[p]):=by
    rw [Array.getElem_toList,Array.getElem_extract]
    exact Array.getElem?_eq_getElem _
  have e2:x[i+q]?=some ((x.extract i j).toList[q]):=by
    rw [Array.getElem_toList,Array.getElem_extract]
    exact Array.getElem?_eq_getElem _
  exact h _ _ _ _ (by omega) (by omega) (by omega) e1 e2
theorem za3 {x:Array Keyed} {i j:Nat} {c:Keyed} (h:c∈(x.extract i j).toList):∃ m,i≤m∧m<j∧x[m]?=some c:=by
  rw [zb3] at h
  obtain ⟨m,h1,h2,h3⟩:=ze4 h
  exact ⟨m,h1,h2,z9c h3⟩
end
theorem zj0 {x:Array Keyed} {i j m:Nat} (h:i+m<j) (hj:j≤x.size):(x.extract i j)[m]?=x[i+m]?:=by
  rw [Array.getElem?_extract]
  rw [if_pos (by omega)]
theorem zf5 {p:Array (Nat×Nat×Nat)} {i:Nat} {v:Nat×Nat×Nat} (hi1:i+1<p.size) (j:Nat):((p.setIfInBounds i v).eraseIdxIfInBounds (i+1))[j]?=if j=i then some v else if j<i then p[j]? else p[j+1]?:=by
  rw [Array.eraseIdxIfInBounds,dif_pos (by rw [Array.size_setIfInBounds];exact hi1),Array.getElem?_eraseIdx,Array.getElem?_setIfInBounds,Array.getElem?_setIfInBounds]
  by_cases a:j=i
  · subst a;simp;omega
  · by_cases b:j<i
    · have c:¬ i=j:=fun z=>a z.symm
      rw [if_neg a,if_pos b,if_pos (by omega),if_neg c]
    · have c:¬ i=j+1:=by omega
      rw [if_neg a,if_neg b,if_neg (by omega),if_neg c]
theorem zbt {p:Array (Nat×Nat×Nat)} {hi:Nat} (h:zaw p hi):∀ (d j s1 n1 q1 s2 n2 q2:Nat),p[j]?=some (s1,n1,q1)→p[j+1+d]?=some (s2,n2,q2)→s1+n1≤s2
  | 0,j,s1,n1,q1,s2,n2,q2,e1,e2=>by
    have:=(h j s1 n1 q1 e1).2.2.1 s2 n2 q2 e2
    omega
  | d+1,j,s1,n1,q1,s2,n2,q2,e1,e2=>by
    have hlt:=(Array.getElem?_eq_some_iff.mp e2).1
    obtain ⟨⟨s3,n3,q3⟩,e3⟩:∃ r,p[j+1]?=some r:=⟨_,Array.getElem?_eq_getElem (show j+1<p.size by omega)⟩
    have a:=(h j s1 n1 q1 e1).2.2.1 s3 n3 q3 e3
    have b:=zbt h d (j+1) s3 n3 q3 s2 n2 q2 e3 (by rw [show j+1+1+d=j+1+(d+1) by omega];exact e2)
    omega
def RS (R:Keyed→Keyed→Bool) (pe:Array (Nat×Nat×Nat)) (x:Array Keyed):Prop:=∀ (i sa na pw:Nat),pe[i]?=some (sa,na,pw)→Seg R x sa (sa+na)
section
variable {prog:Program} {w:World} {A:Around} {E:Value→Shared→Prop} {s:Shared} {kd:SortKind} {a0:List Keyed} {pe:Array (Nat×Nat×Nat)} {st:SortSt} {Gd:Keyed→Prop} {R:Keyed→Keyed→Bool}
theorem zew {x y:Array Keyed} {i sa na pw sb nb q hi:Nat} (hR:zaw pe hi) (e1:pe[i]?=some (sa,na,pw)) (e2:pe[i+1]?=some (sb,nb,q)) (hS:RS R pe x) (hy:Seg R y sa (sa+(na+nb))) (hsm:Same x y sa (sa+(na+nb))):RS R ((pe.setIfInBounds i (sa,na+nb,pw)).eraseIdxIfInBounds (i+1)) y:=by
  have hi1:i+1<pe.size:=(Array.getElem?_eq_some_iff.mp e2).1
  have c3:=(hR i sa na pw e1).2.2.1 sb nb q e2
  intro j s1 n1 p1 e
  rw [zf5 hi1] at e
  by_cases hj:j=i
  · rw [if_pos hj] at e
    cases e
    exact hy
  · rw [if_neg hj] at e
    by_cases hl:j<i
    · rw [if_pos hl] at e
      have:=zbt hR (i - j - 1) j s1 n1 p1 sa na pw e (by rw [show j+1+(i - j - 1)=i by omega];exact e1)
      exact (hS j s1 n1 p1 e).same hsm (.inl (by omega))
    · rw [if_neg hl] at e
      have:=zbt hR (j - (i+1)) (i+1) sb nb q s1 n1 p1 e2 (by rw [show i+1+1+(j - (i+1))=j+1 by omega];exact e)
      exact (hS (j+1) s1 n1 p1 e).same hsm (.inr (by omega))
theorem zra {a b:Nat} (h:a<b):a+(b - a - 1)=b - 1:=by omega
theorem zr9 {a b c:Nat} (h:a≤b):b - a+c=b+c - a:=by omega
theorem z7r (o:Od R) (L:LtOk prog w A E s kd Gd R) (hg:∀ p∈a0,Gd p) {i hi:Nat} {Q:Bool→SortSt→Prop} (hW:TWG kd a0 pe st) (hR:zaw pe hi) (hS:RS R pe (arrOf st)) (hn:hi≤a0.length) (hi':i+1<pe.size)
    (h:∀ pe' st',TWG kd a0 pe' st'→zaw pe' hi→RS R pe' (arrOf st')→Same (arrOf st) (arrOf st') 0 hi→pe'.size+1=pe.size→(∀ sa na pw,pe[0]?=some (sa,na,pw)→∃ na' pw',pe'[0]?=some (sa,na',pw'))→Q true st') :
    wpS (model prog w) A E s (mergeAt' i) Q st:=by
  obtain ⟨⟨sa,na,pw⟩,e1⟩:∃ r,pe[i]?=some r:=⟨pe[i]'(by omega),Array.getElem?_eq_getElem (by omega)⟩
  obtain ⟨⟨sb,nb,q⟩,e2⟩:∃ r,pe[i+1]?=some r:=⟨pe[i+1],Array.getElem?_eq_getElem hi'⟩
  obtain ⟨hR',hs'⟩:=zfy hR e1 e2
  obtain ⟨a1,a2,a3,a4⟩:=hR i sa na pw e1
  obtain ⟨b1,b2,b3,b4⟩:=hR (i+1) sb nb q e2
  have c3:=a3 sb nb q e2
  have Sa:=hS i sa na pw e1
  have Sb:=hS (i+1) sb nb q e2
  have hst:∀ s1 n1 p1,pe[0]?=some (s1,n1,p1)→∃ na' pw',((pe.setIfInBounds i (sa,na+nb,pw)).eraseIdxIfInBounds (i+1))[0]?=some (s1,na',pw'):=by
    intro s1 n1 p1 e
    rw [zf5 hi']
    by_cases h0:0=i
    · subst h0;rw [e1] at e;cases e;rw [if_pos rfl];exact ⟨_,_,rfl⟩
    · rw [if_neg h0,if_pos (by omega)];exact ⟨_,_,e⟩
  rw [ze3]
  refine wpS_bind (wpS_get ?_)
  have hp:pendingOf st=pe:=hW.pend
  rw [hp,e1,e2]
  dsimp only
  refine wpS_bind (zn4 ?_)
  have hW1:TWG kd a0 ((pe.setIfInBounds i (sa,na+nb,pw)).eraseIdxIfInBounds (i+1)) (setPending st ((pe.setIfInBounds i (sa,na+nb,pw)).eraseIdxIfInBounds (i+1))):=⟨hW.perm,hW.kind,hW.failed,rfl⟩
  have hz:=hW.size
  have hga:∀ p∈(arrOf st).toList,Gd p:=fun p hp=>hg p (hW.perm.mem_iff.mp hp)
  have done:Seg R (arrOf st) sa (sa+(na+nb))→Q true (setPending st ((pe.setIfInBounds i (sa,na+nb,pw)).eraseIdxIfInBounds (i+1))):=fun hy =>
    h _ _ hW1 hR' (zew hR e1 e2 hS hy Same.refl) Same.refl hs' hst
  refine wpS_bind (z13 (by omega) fun key hkey=>?_)
  refine wpS_bind (z59 o L hW1.kind (hga key (z4z hkey)) hga (by omega) (by omega) Sa fun k hk kt kf=>?_)
  dsimp only
  refine z0g (fun e3=>wpS_pure (done ?_)) (fun e3=>?_)
  · simp only [beq_iff_eq] at e3
    rw [show sa+(na+nb)=sb+nb by omega]
    refine zes o (m:=sb) (by rw [c3];exact Sa) Sb (by omega) fun p a b g1 g2 x1 x2=>?_
    rw [hkey] at x2;cases x2
    have:=kt (p - sa) a (by omega) (by rw [show sa+(p - sa)=p by omega];exact x1)
    simpa [By,Le] using this
  simp only [beq_iff_eq] at e3
  have hkk:sa+k+(na - k)=sb:=by rw [Nat.add_assoc,Nat.add_sub_cancel' hk,c3]
  have hlt:sa+k<sb:=by omega
  have hsb:sb+nb≤(arrOf st).size:=by omega
  refine wpS_bind (z13 (by rw [hkk];omega) fun key2 hkey2=>?_)
  refine wpS_bind (z59 o L hW1.kind (hga key2 (z4z hkey2)) hga (by omega) (by omega) Sb fun k2 hk2 kt2 kf2=>?_)
  dsimp only
  have hkey2:(arrOf st)[sb - 1]?=some key2:=by rw [hkk] at hkey2;exact hkey2
  refine z0g (fun e4=>wpS_pure (done ?_)) (fun e4=>?_)
  · simp only [beq_iff_eq] at e4
    rw [show sa+(na+nb)=sb+nb by omega]
    refine zes o (m:=sb) (by rw [c3];exact Sa) Sb (by omega) fun p a b g1 g2 x1 x2=>?_
    have:=kf2 0 b (by omega) (by omega) (by rw [Nat.add_zero];exact x2)
    exact o.trans (Sa p (sb - 1) a key2 g1 (by omega) (by omega) x1 hkey2) (by simpa [By,Le] using this)
  simp only [beq_iff_eq] at e4
  have sx:((arrOf st).extract (sa+k) sb).size=sb - (sa+k):=by rw [Array.size_extract,Nat.min_eq_left (Nat.le_of_add_right_le hsb)]
  have sy:((arrOf st).extract sb (sb+k2)).size=k2:=by rw [Array.size_extract,Nat.min_eq_left (Nat.le_trans (Nat.add_le_add_left hk2 sb) hsb),Nat.add_sub_cancel_left]
  have px:((arrOf st).extract (sa+k) sb).toList.Pairwise (Le R):=zm6 (fun p q a b g1 g2 g3=>Sa p q a b (by omega) g2 (by omega)) (by omega)
  have py:((arrOf st).extract sb (sb+k2)).toList.Pairwise (Le R):=zm6 (fun p q a b g1 g2 g3=>Sb p q a b (by omega) g2 (by omega)) (by omega)
  have gx:∀ p∈((arrOf st).extract (sa+k) sb).toList,Gd p:=fun p hp=>let ⟨m,_,_,e⟩:=za3 hp;hga p (z4z e)
  have gy:∀ p∈((arrOf st).extract sb (sb+k2)).toList,Gd p:=fun p hp=>let ⟨m,_,_,e⟩:=za3 hp;hga p (z4z e)
  have f0:∀ p q,((arrOf st).extract sb (sb+k2))[0]?=some p→((arrOf st).extract (sa+k) sb)[0]?=some q→R p q=true:=fun p q x1 x2=>by
    rw [zj0 (by omega) (by omega),Nat.add_zero,hkey] at x1
    cases x1
    rw [zj0 (by omega) (by omega),Nat.add_zero] at x2
    have:=kf k q (by omega) (by omega) x2
    simpa [By] using this
  have fl:∀ x,((arrOf st).extract (sa+k) sb)[((arrOf st).extract (sa+k) sb).size - 1]?=some x→∀ y∈((arrOf st).extract sb (sb+k2)).toList,Le R y x:=fun x ex y hy=>by
    rw [sx,zj0 (by rw [zra hlt];omega) (Nat.le_of_add_right_le hsb),zra hlt,hkey2] at ex
    cases ex
    obtain ⟨m,m1,m2,em⟩:=za3 hy
    have:=kt2 (m - sb) y (by omega) (by rw [show sb+(m - sb)=m by omega];exact em)
    exact o.lt (by simpa [By] using this)
  have fin:∀ (r:Array Keyed) (st':SortSt),Ke (setPending st ((pe.setIfInBounds i (sa,na+nb,pw)).eraseIdxIfInBounds (i+1))) st'→Mg R ((arrOf st).extract (sa+k) sb).toList ((arrOf st).extract sb (sb+k2)).toList r →
      wpS (model prog w) A E s (do
        modify fun s=>setArr s (r.toList.zipIdx.foldl (fun a (p,j)=>a.setIfInBounds (sa+k+j) p) (arrOf s))
        return (failedOf (← get)).isNone) Q st':=by
    intro r st' hK hM
    obtain ⟨rp,rs⟩:=hM
    have hrl:r.toList.length=(sb+k2) - (sa+k):=by
      rw [rp.length_eq,List.length_append,Array.length_toList,Array.length_toList,sx,sy,zr9 (Nat.le_of_lt hlt)]
    have harr:arrOf st'=arrOf st:=hK.arr
    refine wpS_bind (wpS_modify (wpS_bind (wpS_get ?_)))
    have hat:∀ j:Nat,(r.toList.zipIdx.foldl (fun a (q:Keyed×Nat)=>a.setIfInBounds (sa+k+q.2) q.1) (arrOf st'))[j]?=if sa+k≤j∧j<sb+k2 then r[j - (sa+k)]? else (arrOf st)[j]?:=fun j=>by
      have:=zct (sa+k) r.toList 0 (arrOf st') (by rw [harr];omega) j
      rw [Nat.add_zero,hrl,harr,Array.getElem?_toList,Nat.add_sub_cancel' (Nat.le_of_lt (Nat.lt_add_right k2 hlt))] at this
      rw [harr]
      exact this
    have hsz2:=z9s (sa+k) r.toList.zipIdx (arrOf st')
    generalize hY:r.toList.zipIdx.foldl (fun a (q:Keyed×Nat)=>a.setIfInBounds (sa+k+q.2) q.1) (arrOf st')=Y at hat hsz2
    have hperm:Y.toList.Perm (arrOf st).toList:=by
      refine zl1 (i:=sa+k) (n:=sb+k2 - (sa+k)) (r:=r.toList) hrl ?_ (by rw [Array.length_toList,Nat.add_sub_cancel' (Nat.le_of_lt (Nat.lt_add_right k2 hlt))];exact Nat.le_trans (Nat.add_le_add_left hk2 sb) hsb) (by rw [Array.length_toList,Array.length_toList,hsz2,harr]) fun j=>?_
      · refine rp.trans ?_
        have:((arrOf st).extract (sa+k) sb).toList++((arrOf st).extract sb (sb+k2)).toList=((arrOf st).toList.drop (sa+k)).take (sb+k2 - (sa+k)):=by
          rw [zb3,zb3,List.drop_take,List.drop_take]
          have e5:sb+k2 - (sa+k)=(sb - (sa+k))+(sb+k2 - sb):=by rw [Nat.add_sub_cancel_left,zr9 (Nat.le_of_lt hlt)]
          rw [e5,List.take_add,List.drop_drop]
          congr 3
          exact (Nat.add_sub_cancel' (Nat.le_of_lt hlt)).symm
        rw [this]
      · rw [Array.getElem?_toList,hat,Array.getElem?_toList,Array.getElem?_toList]
        by_cases hj:sa+k≤j∧j<sb+k2
        · rw [if_pos hj,if_pos (by omega)]
        · rw [if_neg hj,if_neg (by omega)]
    have hW2:TWG kd a0 ((pe.setIfInBounds i (sa,na+nb,pw)).eraseIdxIfInBounds (i+1)) (setArr st' Y):=⟨hperm.trans hW.perm,hK.kind.trans hW.kind,hK.failed.trans hW.failed,hK.pend⟩
    have orig:∀ j c,r[j]?=some c→(∃ m,sa+k≤m∧m<sb∧(arrOf st)[m]?=some c)∨∃ m,sb≤m∧m<sb+k2∧(arrOf st)[m]?=some c:=fun j c e=>by
      rcases List.mem_append.mp (rp.mem_iff.mp (z4z e)) with z | z
      · exact .inl (za3 z)
      · exact .inr (za3 z)
    have lowk:∀ p a,sa≤p→p<sa+k→(arrOf st)[p]?=some a→Le R a key:=fun p a g1 g2 x1=>by
      have:=kt (p - sa) a (by omega) (by rw [show sa+(p - sa)=p by omega];exact x1)
      simpa [By,Le] using this
    have highk:∀ p a,sb+k2≤p→p<sb+nb→(arrOf st)[p]?=some a→Le R key2 a:=fun p a g1 g2 x1=>by
      have:=kf2 (p - sb) a (by omega) (by omega) (by rw [show sb+(p - sb)=p by omega];exact x1)
      simpa [By,Le] using this
    have hseg:Seg R Y sa (sa+(na+nb)):=by
      intro p q a b g1 g2 g3 x1 x2
      rw [hat] at x1 x2
      by_cases p1:sa+k≤p∧p<sb+k2
      · rw [if_pos p1] at x1
        by_cases q1:sa+k≤q∧q<sb+k2
        · rw [if_pos q1] at x2
          exact z9t o rs (i:=0) (j:=r.size) _ _ a b (by omega) (by omega) (by have:=(Array.getElem?_eq_some_iff.mp x2).1;omega) x1 x2
        · rw [if_neg q1] at x2
          rcases orig _ a x1 with ⟨m,m1,m2,em⟩ | ⟨m,m1,m2,em⟩
          · exact o.trans (Sa m (sb - 1) a key2 (by omega) (by omega) (by omega) em hkey2) (highk q b (by omega) (by omega) x2)
          · exact Sb m q a b m1 (by omega) (by omega) em x2
      · rw [if_neg p1] at x1
        by_cases q1:sa+k≤q∧q<sb+k2
        · rw [if_pos q1] at x2
          rcases orig _ b x2 with ⟨m,m1,m2,em⟩ | ⟨m,m1,m2,em⟩
          · exact Sa p m a b g1 (by omega) (by omega) x1 em
          · exact o.trans (lowk p a g1 (by omega) x1) (Sb sb m key b (by omega) m1 (by omega) hkey em)
        · rw [if_neg q1] at x2
          by_cases p2:p<sa+k
          · by_cases q2:q<sa+k
            · exact Sa p q a b g1 g2 (by omega) x1 x2
            · exact o.trans (lowk p a g1 p2 x1) (Sb sb q key b (by omega) (by omega) (by omega) hkey x2)
          · exact Sb p q a b (by omega) g2 (by omega) x1 x2
    have hsm:Same (arrOf st) Y sa (sa+(na+nb)):=fun j hj=>by rw [hat,if_neg (by omega)]
    refine wpS_pure ?_
    show Q (failedOf st').isNone _
    rw [hK.failed]
    show Q (failedOf st).isNone _
    rw [hW.failed]
    exact h _ _ hW2 hR' (zew hR e1 e2 hS hseg hsm) (hsm.mono (by omega) (by omega)) hs' hst
  have x1:1≤((arrOf st).extract (sa+k) sb).size:=by rw [sx];exact Nat.sub_pos_of_lt hlt
  have y1:1≤((arrOf st).extract sb (sb+k2)).size:=by rw [sy];omega
  refine z0g (fun e5=>?_) (fun e5=>?_)
  · exact wpS_bind (zfu o L hW1.kind gx gy x1 y1 px py f0 fl fun r st' hK hr=>fin r st' hK hr)
  · exact wpS_bind (zfv o L hW1.kind gx gy x1 y1 px py f0 fl fun r st' hK hr=>fin r st' hK hr)
end
section
variable {R:Keyed→Keyed→Bool} {pe:Array (Nat×Nat×Nat)} {x:Array Keyed}
theorem zrf {p:Array (Nat×Nat×Nat)} {k pw j sa na q:Nat} (e:(p.modify k fun (a,b,_)=>(a,b,pw))[j]?=some (sa,na,q)):∃ q':Nat,p[j]?=some (sa,na,q'):=by
  rw [Array.getElem?_modify] at e
  split at e
  · cases z:p[j]? with
    | none=>rw [z] at e;cases e
    | some r =>
      obtain ⟨x,y,u⟩:=r
      rw [z] at e
      cases e
      exact ⟨u,rfl⟩
  · exact ⟨q,e⟩
theorem zre {p:Array (Nat×Nat×Nat)} {k pw j sa na q:Nat} (e:p[j]?=some (sa,na,q)):∃ q':Nat,(p.modify k fun (a,b,_)=>(a,b,pw))[j]?=some (sa,na,q'):=by
  rw [Array.getElem?_modify]
  split
  · rw [e];exact ⟨pw,rfl⟩
  · exact ⟨q,e⟩
theorem RS.power {k pw:Nat} (h:RS R pe x):RS R (pe.modify k fun (a,b,_)=>(a,b,pw)) x:=fun i sa na q e=>let ⟨q',e'⟩:=zrf e;h i sa na q' e'
theorem RS.push {lo m q:Nat} (h:RS R pe x) (hs:Seg R x lo (lo+m)):RS R (pe.push (lo,m,q)) x:=fun i sa na p e=>by
  rw [Array.getElem?_push] at e
  by_cases hi:i=pe.size
  · rw [if_pos hi] at e;cases e;exact hs
  · rw [if_neg hi] at e;exact h i sa na p e
theorem RS.same {y:Array Keyed} {lo hi:Nat} (h:RS R pe x) (hr:zaw pe lo) (g:Same x y lo hi):RS R pe y:=fun i sa na p e=>(h i sa na p e).same g (.inl (hr i sa na p e).2.1)
def Fst (pe:Array (Nat×Nat×Nat)) (lo:Nat):Prop:=(pe.size=0∧lo=0)∨∃ na pw,pe[0]?=some (0,na,pw)
theorem Fst.power {lo k pw:Nat} (h:Fst pe lo):Fst (pe.modify k fun (a,b,_)=>(a,b,pw)) lo:=by
  rcases h with ⟨h1,h2⟩ | ⟨na,q,e⟩
  · exact .inl ⟨by simpa using h1,h2⟩
  · exact .inr (let ⟨q',e'⟩:=zre e;⟨na,q',e'⟩)
theorem Fst.push {lo m q hi:Nat} (h:Fst pe lo):Fst (pe.push (lo,m,q)) hi:=by
  rcases h with ⟨h1,h2⟩ | ⟨na,q',e⟩
  · refine .inr ⟨m,q,?_⟩
    rw [Array.getElem?_push,h1,if_pos rfl,h2]
  · refine .inr ⟨na,q',?_⟩
    rw [Array.getElem?_push,if_neg (by have:=(Array.getElem?_eq_some_iff.mp e).1;omega)]
    exact e
theorem zqe (h:Seg R x 0 x.size):x.toList.Pairwise (Le R):=by
  rw [List.pairwise_iff_getElem]
  intro p q hp hq hpq
  rw [Array.length_toList] at hp hq
  exact h p q _ _ (by omega) (by omega) hq (by rw [Array.getElem_toList];exact Array.getElem?_eq_getElem _) (by rw [Array.getElem_toList];exact Array.getElem?_eq_getElem _)
end
section
variable {prog:Program} {w:World} {A:Around} {E:Value→Shared→Prop} {s:Shared} {kd:SortKind} {a0:List Keyed} {st:SortSt} {Gd:Keyed→Prop} {R:Keyed→Keyed→Bool}
theorem zn8 (o:Od R) (L:LtOk prog w A E s kd Gd R) (hg:∀ p∈a0,Gd p) {Q:Unit→SortSt→Prop} (hW:TWG kd a0 #[] st) (h:∀ st',(arrOf st').toList.Perm a0→(arrOf st').toList.Pairwise (Le R)→failedOf st'=none→Q () st'):wpS (model prog w) A E s sortRuns' Q st:=by
  rw [sortRuns'_eq]
  refine wpS_bind (wpS_get ?_)
  dsimp only
  rw [hW.size]
  refine wpS_bind (wpS_mono (wpS_forRange (I:=fun x c st'=>∃ lo pe,c=(none,lo)∧TWG kd a0 pe st'∧zaw pe lo∧RS R pe (arrOf st')∧lo≤a0.length∧pe.size≤lo∧Fst pe lo∧min x a0.length≤lo)
    (Q:=fun c st'=>∃ pe,c=(none,a0.length)∧TWG kd a0 pe st'∧zaw pe a0.length∧RS R pe (arrOf st')∧pe.size≤a0.length∧Fst pe a0.length) ?step ?fin
    ⟨0,#[],rfl,hW,(fun i sa na pw e=>by simp at e),(fun i sa na pw e=>by simp at e),Nat.zero_le _,Nat.le_refl _,.inl ⟨rfl,rfl⟩,by omega⟩) ?post)
  case fin =>
    rintro c st1 ⟨lo,pe1,rfl,hW1,hR1,hS1,hlo,hz1,hf1,hm1⟩
    have:lo=a0.length:=by omega
    subst this
    exact ⟨pe1,rfl,hW1,hR1,hS1,hz1,hf1⟩
  case step =>
    rintro x c st1 _ hx ⟨lo,pe1,rfl,hW1,hR1,hS1,hlo,hz1,hf1,hm1⟩
    dsimp only
    refine z0g (fun e=>?_) (fun e=>?_)
    · have:lo=a0.length:=by omega
      subst this
      exact wpS_pure ⟨pe1,rfl,hW1,hR1,hS1,hz1,hf1⟩
    refine wpS_bind (zk9 o L hg hW1 (by omega) (by omega) fun m st2 hW2 m1 m2 hs2 hsm2=>?_)
    have hS2:RS R pe1 (arrOf st2):=hS1.same hR1 hsm2
    dsimp only
    refine z0g (fun e3=>?_) (fun e3=>?_)
    · refine wpS_bind (wpS_lift (wpAny_rule ⟨rfl,?_⟩))
      refine wpS_bind (zpo o L hg hW2 (by omega) (by omega) hs2 fun st3 hW3 hs3 hsm3=>?_)
      simp only [Bool.not_true,Bool.false_eq_true,if_false]
      have hS3:RS R pe1 (arrOf st3):=hS2.same hR1 hsm3
      have q1:1≤min (a0.length - lo) (minRun' a0.length a0.length 0):=by omega
      have q2:lo+min (a0.length - lo) (minRun' a0.length a0.length 0)≤a0.length:=by omega
      clear hsm3
      generalize min (a0.length - lo) (minRun' a0.length a0.length 0)=m at q1 q2 hs3 ⊢
      refine wpS_bind (wpS_get ?_)
      cases eb:(pendingOf st3).back? with
      | none =>
        dsimp only
        have hpp:pendingOf _=pe1:=hW3.pend
        refine wpS_bind (wpS_modify (wpS_pure ?_))
        exact ⟨_,(pe1).push (lo,m,0),rfl,⟨hW3.perm,hW3.kind,hW3.failed,congrArg (fun z=>Array.push z (lo,m,0)) hpp⟩,z70 hR1 q1,RS.push hS3 hs3,q2,by rw [Array.size_push];omega,hf1.push,by omega⟩
      | some r =>
        obtain ⟨s1,n1,pw1⟩:=r
        dsimp only
        refine wpS_bind (wpS_mono (wpS_forRange (I:=fun x c st'=>c=(none,())∧∃ pe,TWG kd a0 pe st'∧zaw pe lo∧RS R pe (arrOf st')∧Seg R (arrOf st') lo (lo+m)∧pe.size≤lo∧Fst pe lo) (Q:=fun c st'=>c=(none,())∧∃ pe,TWG kd a0 pe st'∧zaw pe lo∧RS R pe (arrOf st')∧Seg R (arrOf st') lo (lo+m)∧pe.size≤lo∧Fst pe lo) ?mstep (fun _ _ z=>z) ⟨rfl,pe1,hW3,hR1,hS3,hs3,hz1,hf1⟩) ?mpost)
        case mpost =>
          rintro c st5 ⟨rfl,pe5,hW5,hR5,hS5,hs5,hz5,hf5⟩
          dsimp only
          have hp5:pendingOf st5=pe5:=hW5.pend
          refine wpS_bind (wpS_modify ?_)
          have hW6:TWG kd a0 (pe5.modify (pe5.size - 1) fun x=>(x.fst,x.2.fst,power' a0.length (2*s1+n1) (2*s1+n1+n1+m) a0.length)) (setPending st5 (pe5.modify (pe5.size - 1) fun x=>(x.fst,x.2.fst,power' a0.length (2*s1+n1) (2*s1+n1+n1+m) a0.length))):=⟨hW5.perm,hW5.kind,hW5.failed,rfl⟩
          have hR6:zaw (pe5.modify (pe5.size - 1) fun x=>(x.fst,x.2.fst,power' a0.length (2*s1+n1) (2*s1+n1+n1+m) a0.length)) lo:=zb6 hR5
          have hS6:RS R (pe5.modify (pe5.size - 1) fun x=>(x.fst,x.2.fst,power' a0.length (2*s1+n1) (2*s1+n1+n1+m) a0.length)) (arrOf st5):=hS5.power
          have hf6:Fst (pe5.modify (pe5.size - 1) fun x=>(x.fst,x.2.fst,power' a0.length (2*s1+n1) (2*s1+n1+n1+m) a0.length)) lo:=hf5.power
          rw [hp5]
          have hpp:pendingOf _=pe5.modify (pe5.size - 1) fun x=>(x.fst,x.2.fst,power' a0.length (2*s1+n1) (2*s1+n1+n1+m) a0.length):=hW6.pend
          refine wpS_bind (wpS_modify (wpS_pure ?_))
          exact ⟨_,(pe5.modify (pe5.size - 1) fun x=>(x.fst,x.2.fst,power' a0.length (2*s1+n1) (2*s1+n1+n1+m) a0.length)).push (lo,m,0),rfl,⟨hW6.perm,hW6.kind,hW6.failed,congrArg (fun z=>Array.push z (lo,m,0)) hpp⟩,z70 hR6 q1,RS.push hS6 hs5,q2,by rw [Array.size_push,Array.size_modify];omega,hf6.push,by omega⟩
        case mstep =>
          rintro y c st5 _ hy ⟨rfl,pe5,hW5,hR5,hS5,hs5,hz5,hf5⟩
          refine wpS_bind (wpS_get ?_)
          have hp5:pendingOf st5=pe5:=hW5.pend
          rw [hp5]
          by_cases hz:pe5.size > 1
          · rw [if_pos hz,Array.getElem?_eq_getElem (show pe5.size - 2<pe5.size by omega)]
            dsimp only
            refine z0g (fun e6=>wpS_pure ⟨rfl,pe5,hW5,hR5,hS5,hs5,hz5,hf5⟩) (fun e6=>?_)
            refine wpS_bind (z7r o L hg hW5 hR5 hS5 hlo (by omega) fun pe7 st7 hW7 hR7 hS7 hsm7 hz7 hst7=>?_)
            refine wpS_pure ⟨rfl,pe7,hW7,hR7,hS7,hs5.same hsm7 (.inr (by omega)),by omega,?_⟩
            rcases hf5 with ⟨f1,f2⟩ | ⟨na,pw,f⟩
            · omega
            · exact .inr (hst7 0 na pw f)
          · rw [if_neg hz]
            exact wpS_pure ⟨rfl,pe5,hW5,hR5,hS5,hs5,hz5,hf5⟩
    · have q1:=m1
      have q2:lo+m≤a0.length:=by omega
      refine wpS_bind (wpS_get ?_)
      cases eb:(pendingOf st2).back? with
      | none =>
        dsimp only
        have hpp:pendingOf _=pe1:=hW2.pend
        refine wpS_bind (wpS_modify (wpS_pure ?_))
        exact ⟨_,(pe1).push (lo,m,0),rfl,⟨hW2.perm,hW2.kind,hW2.failed,congrArg (fun z=>Array.push z (lo,m,0)) hpp⟩,z70 hR1 q1,RS.push hS2 hs2,q2,by rw [Array.size_push];omega,hf1.push,by omega⟩
      | some r =>
        obtain ⟨s1,n1,pw1⟩:=r
        dsimp only
        refine wpS_bind (wpS_mono (wpS_forRange (I:=fun x c st'=>c=(none,())∧∃ pe,TWG kd a0 pe st'∧zaw pe lo∧RS R pe (arrOf st')∧Seg R (arrOf st') lo (lo+m)∧pe.size≤lo∧Fst pe lo) (Q:=fun c st'=>c=(none,())∧∃ pe,TWG kd a0 pe st'∧zaw pe lo∧RS R pe (arrOf st')∧Seg R (arrOf st') lo (lo+m)∧pe.size≤lo∧Fst pe lo) ?mstep (fun _ _ z=>z) ⟨rfl,pe1,hW2,hR1,hS2,hs2,hz1,hf1⟩) ?mpost)
        case mpost =>
          rintro c st5 ⟨rfl,pe5,hW5,hR5,hS5,hs5,hz5,hf5⟩
          dsimp only
          have hp5:pendingOf st5=pe5:=hW5.pend
          refine wpS_bind (wpS_modify ?_)
          have hW6:TWG kd a0 (pe5.modify (pe5.size - 1) fun x=>(x.fst,x.2.fst,power' a0.length (2*s1+n1) (2*s1+n1+n1+m) a0.length)) (setPending st5 (pe5.modify (pe5.size - 1) fun x=>(x.fst,x.2.fst,power' a0.length (2*s1+n1) (2*s1+n1+n1+m) a0.length))):=⟨hW5.perm,hW5.kind,hW5.failed,rfl⟩
          have hR6:zaw (pe5.modify (pe5.size - 1) fun x=>(x.fst,x.2.fst,power' a0.length (2*s1+n1) (2*s1+n1+n1+m) a0.length)) lo:=zb6 hR5
          have hS6:RS R (pe5.modify (pe5.size - 1) fun x=>(x.fst,x.2.fst,power' a0.length (2*s1+n1) (2*s1+n1+n1+m) a0.length)) (arrOf st5):=hS5.power
          have hf6:Fst (pe5.modify (pe5.size - 1) fun x=>(x.fst,x.2.fst,power' a0.length (2*s1+n1) (2*s1+n1+n1+m) a0.length)) lo:=hf5.power
          rw [hp5]
          have hpp:pendingOf _=pe5.modify (pe5.size - 1) fun x=>(x.fst,x.2.fst,power' a0.length (2*s1+n1) (2*s1+n1+n1+m) a0.length):=hW6.pend
          refine wpS_bind (wpS_modify (wpS_pure ?_))
          exact ⟨_,(pe5.modify (pe5.size - 1) fun x=>(x.fst,x.2.fst,power' a0.length (2*s1+n1) (2*s1+n1+n1+m) a0.length)).push (lo,m,0),rfl,⟨hW6.perm,hW6.kind,hW6.failed,congrArg (fun z=>Array.push z (lo,m,0)) hpp⟩,z70 hR6 q1,RS.push hS6 hs5,q2,by rw [Array.size_push,Array.size_modify];omega,hf6.push,by omega⟩
        case mstep =>
          rintro y c st5 _ hy ⟨rfl,pe5,hW5,hR5,hS5,hs5,hz5,hf5⟩
          refine wpS_bind (wpS_get ?_)
          have hp5:pendingOf st5=pe5:=hW5.pend
          rw [hp5]
          by_cases hz:pe5.size > 1
          · rw [if_pos hz,Array.getElem?_eq_getElem (show pe5.size - 2<pe5.size by omega)]
            dsimp only
            refine z0g (fun e6=>wpS_pure ⟨rfl,pe5,hW5,hR5,hS5,hs5,hz5,hf5⟩) (fun e6=>?_)
            refine wpS_bind (z7r o L hg hW5 hR5 hS5 hlo (by omega) fun pe7 st7 hW7 hR7 hS7 hsm7 hz7 hst7=>?_)
            refine wpS_pure ⟨rfl,pe7,hW7,hR7,hS7,hs5.same hsm7 (.inr (by omega)),by omega,?_⟩
            rcases hf5 with ⟨f1,f2⟩ | ⟨na,pw,f⟩
            · omega
            · exact .inr (hst7 0 na pw f)
          · rw [if_neg hz]
            exact wpS_pure ⟨rfl,pe5,hW5,hR5,hS5,hs5,hz5,hf5⟩
  case post =>
    rintro c st1 ⟨pe1,rfl,hW1,hR1,hS1,hz1,hf1⟩
    dsimp only
    refine wpS_bind (wpS_mono (wpS_forRange (I:=fun x c st'=>c=(none,())∧∃ pe,TWG kd a0 pe st'∧zaw pe a0.length∧RS R pe (arrOf st')∧(pe.size+x≤a0.length+1∨pe.size≤1)∧Fst pe a0.length) (Q:=fun c st'=>c=(none,())∧∃ pe,TWG kd a0 pe st'∧zaw pe a0.length∧RS R pe (arrOf st')∧pe.size≤1∧Fst pe a0.length) ?fstep ?ffin ⟨rfl,pe1,hW1,hR1,hS1,.inl (by omega),hf1⟩) ?fpost)
    case ffin =>
      rintro c st3 ⟨rfl,pe3,hW3,hR3,hS3,hz3,hf3⟩
      exact ⟨rfl,pe3,hW3,hR3,hS3,by omega,hf3⟩
    case fpost =>
      rintro c st3 ⟨rfl,pe3,hW3,hR3,hS3,hz3,hf3⟩
      refine wpS_pure (h st3 hW3.perm ?_ hW3.failed)
      rcases hf3 with ⟨f1,f2⟩ | ⟨na,pw,f⟩
      · have:(arrOf st3).toList=[]:=by
          have:=hW3.perm.length_eq
          exact List.length_eq_zero_iff.mp (by omega)
        rw [this];exact .nil
      · have hs:=hS3 0 0 na pw f
        have hn:=(hR3 0 0 na pw f).2.2.2 (by rw [Array.getElem?_eq_none_iff];omega)
        refine zqe ?_
        rw [hW3.size,← hn]
        exact hs
    case fstep =>
      rintro y c st3 _ hy ⟨rfl,pe3,hW3,hR3,hS3,hz3,hf3⟩
      refine wpS_bind (wpS_get ?_)
      have hp:pendingOf st3=pe3:=hW3.pend
      rw [hp]
      refine z0g (fun e6=>wpS_pure ⟨rfl,pe3,hW3,hR3,hS3,e6,hf3⟩) (fun e6=>?_)
      refine wpS_bind (z7r o L hg hW3 hR3 hS3 (Nat.le_refl _) ?_ fun pe4 st4 hW4 hR4 hS4 _ hz4 hst4=>?_)
      · repeat' (first | omega | split)
      · refine wpS_pure ⟨rfl,pe4,hW4,hR4,hS4,.inl (by omega),?_⟩
        rcases hf3 with ⟨f1,f2⟩ | ⟨na,pw,f⟩
        · omega
        · exact .inr (hst4 0 na pw f)
end
theorem z68 (vs:List Value):(pairsOf vs).toList=vs.map fun v=>(v,v):=by
  have:pairsOf vs=vs.toArray.zip vs.toArray:=rfl
  rw [this,Array.toList_zip]
  apply List.ext_getElem?
  intro i
  rw [List.getElem?_map]
  cases h:vs[i]? with
  | none =>
    have:vs.length≤i:=List.getElem?_eq_none_iff.mp h
    rw [List.getElem?_eq_none_iff.mpr (by simpa using this)]
    rfl
  | some v =>
    have e:(vs.zip vs)[i]?=some (v,v):=List.getElem?_zip_eq_some.mpr ⟨h,h⟩
    exact e
section
variable {prog:Program} {w:World} {A:Around} {E:Value→Shared→Prop} {s:Shared} {kd:SortKind} {Gd:Keyed→Prop} {R:Keyed→Keyed→Bool}
theorem zc5 (o:Od R) {a:Addr} {vs:List Value} {n:Nat} {P:PySem.Fin→Shared→Prop} (ho:s.heap.get? a=some (seqObj "list" vs.toArray n)) (hz:vs.length≤sizeLine) (hG:∀ v∈vs,Gd (v,v))
    (hS:∀ s6:Shared,(∀ b x,b≠a→s.heap.get? b=some x→s6.heap.get? b=some x)→(2≤vs.length→wpAny (model prog w) A (keyKind' vs.toArray) (fun k s'=>k=kd∧s'=s6) E s6)∧LtOk prog w A E s6 kd Gd R)
    (h:∀ out:Array Value,out.toList.Perm vs→(out.toList.map fun v=>((v,v):Keyed)).Pairwise (Le R)→P (.done (.ret .none)) { s with heap:=sortedHeap s.heap a vs out }) :
    wpAny (model prog w) A (Builtin.«list.sort» ⟨[.ref a],[]⟩) P E s:=by
  rw [list_sort_plain]
  have ha:a<s.heap.objs.size:=Heap.lt_size ho
  have hsz:vs.toArray.size=vs.length:=by simp
  refine wpAny_bind (listItems_at ho rfl ?_)
  refine wpAny_bind (listUpdate_at ho rfl ?_ (by rw [hsz];exact hz))
  obtain ⟨e1,ho1⟩:∃ e1,(s.heap.update a (Obj.mapSeq fun _=>#[])).get? a=some (seqObj "list" #[] e1):=⟨_,get?_update_seq ho (fun _=>#[])⟩
  refine wpAny_bind (seqEpoch_at ho1 rfl ?_)
  refine wpAny_bind (wpAny_newTuple ?_ (by simpa using hz))
  refine wpAny_bind (wpAny_newList ?_)
  refine wpAny_holding ?_
  have ho6:(((s.heap.update a (Obj.mapSeq fun _=>#[])).push (seqObj "tuple" vs.toArray 0)).push (seqObj "list" #[] 0)).get? a=some (seqObj "list" #[] e1):=by
    rw [Heap.get?_push_ne _ _ _ (by rw [size_push',Heap.size_update];exact Nat.ne_of_lt (Nat.lt_succ_of_lt ha)),Heap.get?_push_ne _ _ _ (by rw [Heap.size_update];exact Nat.ne_of_lt ha)]
    exact ho1
  have old6:∀ b x,b≠a→s.heap.get? b=some x→(((s.heap.update a (Obj.mapSeq fun _=>#[])).push (seqObj "tuple" vs.toArray 0)).push (seqObj "list" #[] 0)).get? b=some x:=fun b x hb hx=>by
    refine Heap.get?_push_of_some _ (Heap.get?_push_of_some _ ?_)
    rw [Heap.get?_update_ne _ _ _ _ hb]
    exact hx
  show wpAny (model prog w) A _ P E { s with heap:=((s.heap.update a (Obj.mapSeq fun _=>#[])).push (seqObj "tuple" vs.toArray 0)).push (seqObj "list" #[] 0) }
  dsimp only
  obtain ⟨hK,hL⟩:=hS { s with heap:=((s.heap.update a (Obj.mapSeq fun _=>#[])).push (seqObj "tuple" vs.toArray 0)).push (seqObj "list" #[] 0) } old6
  have fin:∀ (xs:Array Keyed),xs.toList.Perm (pairsOf vs).toList→xs.toList.Pairwise (Le R)→P (.done (.ret .none)) { s with heap:=sortedHeap s.heap a vs (xs.map (·.2)) }:=by
    intro xs hp hs
    rw [z68] at hp
    have e:((xs.map (·.2)).toList.map fun v=>((v,v):Keyed))=xs.toList:=by
      rw [Array.toList_map,List.map_map]
      conv=>rhs;rw [← List.map_id xs.toList]
      refine List.map_congr_left fun p hpm=>?_
      obtain ⟨v,_,rfl⟩:=List.mem_map.mp (hp.mem_iff.mp hpm)
      rfl
    refine h _ ?_ (by rw [e];exact hs)
    rw [Array.toList_map]
    have:=hp.map (·.2)
    rw [List.map_map] at this
    have e2:vs.map ((fun x:Keyed=>x.2) ∘ fun v=>(v,v))=vs:=by
      conv=>rhs;rw [← List.map_id vs]
      rfl
    rw [e2] at this
    exact this
  have hlenP:∀ (xs:Array Keyed),xs.toList.Perm (pairsOf vs).toList→xs.size=vs.length:=fun xs hp=>by
    have:=hp.length_eq
    rw [z68,List.length_map,Array.length_toList] at this
    exact this
  by_cases h2:vs.toArray.size<2
  · rw [if_pos h2,if_pos h2]
    refine wpAny_bind (wpAny_pure ?_)
    rw [StateT.run_pure]
    refine wpAny_bind (wpAny_pure ?_)
    dsimp only
    refine wpAny_bind (seqEpoch_at ho6 rfl ?_)
    refine wpAny_bind (listUpdate_at ho6 rfl ?_ (hsz2:=by rw [Array.size_map];show (pairsOf vs).size≤_;rw [pairsOf_size];omega))
    simp only [bne_self_eq_false,Bool.false_eq_true,if_false]
    refine wpAny_pure (fin (pairsOf vs) (List.Perm.refl _) ?_)
    rw [z68]
    match vs,hsz,h2 with
    | [],_,_=>exact .nil
    | [v],_,_=>simp
    | _::_::r,hs,h2=>simp at h2;omega
  · rw [if_neg h2,if_neg h2]
    refine wpAny_bind (wpAny_mono (hK (by omega)) ?_ fun _ _ e=>e)
    rintro k s' ⟨rfl,rfl⟩
    refine wpAny_bind (wpAny_mono (zn8 (a0:=(pairsOf vs).toList) (st:=SortSt.mk' k (vs.toArray.zip vs.toArray) #[] 7 none)
      (Q:=fun _ st'=>(arrOf st').toList.Perm (pairsOf vs).toList∧(arrOf st').toList.Pairwise (Le R)∧failedOf st'=none) o hL
      (fun p hp=>by rw [z68] at hp;obtain ⟨v,hv,rfl⟩:=List.mem_map.mp hp;exact hG v hv) ⟨List.Perm.refl _,rfl,rfl,rfl⟩ fun st' a b c=>⟨a,b,c⟩) ?_ fun _ _ e=>e)
    rintro ⟨⟨⟩,st'⟩ s' ⟨rfl,hp,hs,hf⟩
    dsimp only
    refine wpAny_bind (seqEpoch_at ho6 rfl ?_)
    refine wpAny_bind (listUpdate_at ho6 rfl ?_ (hsz2:=by rw [Array.size_map,hlenP _ hp];exact Nat.le_succ_of_le hz))
    rw [hf]
    simp only [bne_self_eq_false,Bool.false_eq_true,if_false]
    exact wpAny_pure (fin _ hp hs)
theorem sorted_gen (o:Od R) {l:Addr} {vs:List Value} {Q:Value→Shared→Prop} (hl:s.heap.IsList l vs.toArray) (hz:vs.length≤sizeLine) (hG:∀ v∈vs,Gd (v,v))
    (hS:∀ s6:Shared,(∀ b x,s.heap.get? b=some x→s6.heap.get? b=some x)→(2≤vs.length→wpAny (model prog w) A.in1.in1 (keyKind' vs.toArray) (fun k s'=>k=kd∧s'=s6) E s6)∧LtOk prog w A.in1.in1 E s6 kd Gd R)
    (h:∀ out:Array Value,out.toList.Perm vs→(out.toList.map fun v=>((v,v):Keyed)).Pairwise (Le R)→Q (.ref (s.heap.objs.size+1)) { s with heap:=sortedAll s.heap vs out }) :
    wpAny (model prog w) A (call (.builtin "sorted") [.ref l]) Q E s:=by
  refine Calls.call_function_entry kind_sorted plain_sorted entry_sorted (args_sorted1 _) ?_
  unfold Builtin.«sorted»
  refine wpAny_bind (m:=checkCount "sorted" 1 1 _) (wpAny_pure ?_)
  refine wpAny_bind (collect_list hl ?_ hz)
  refine wpAny_bind (wpAny_newList ?_ hz)
  have hsz:((s.heap.push (seqObj "list" #[] 0)).update s.heap.objs.size (Obj.mapSeq (·++vs.toArray))).objs.size=s.heap.objs.size+1:=by
    rw [Heap.size_update,size_push']
  have hoL:(((s.heap.push (seqObj "list" #[] 0)).update s.heap.objs.size (Obj.mapSeq (·++vs.toArray))).push (seqObj "list" vs.toArray 0)).get? (s.heap.objs.size+1)=some (seqObj "list" vs.toArray 0):=by
    rw [← hsz];exact Heap.get?_push_size _ rfl
  have old:∀ b x,s.heap.get? b=some x→(((s.heap.push (seqObj "list" #[] 0)).update s.heap.objs.size (Obj.mapSeq (·++vs.toArray))).push (seqObj "list" vs.toArray 0)).get? b=some x:=fun b x hx=>by
    refine Heap.get?_push_of_some _ ?_
    have hb:b≠s.heap.objs.size:=Nat.ne_of_lt (Heap.lt_size hx)
    rw [Heap.get?_update_ne _ _ _ _ hb]
    exact Heap.get?_push_of_some _ hx
  show wpAny _ _ _ _ _ { s with heap:=((s.heap.push (seqObj "list" #[] 0)).update s.heap.objs.size (Obj.mapSeq (·++vs.toArray))).push (seqObj "list" vs.toArray 0) }
  rw [hsz]
  refine wpAny_bind (wpAny_holding (wpAny_call_entry slot_list_sort ⟨_,hoL,rfl⟩ entry_list_sort (zc5 o hoL hz hG (fun s6 h6=>hS s6 fun b x hx=>h6 b x ?_ (old b x hx)) fun out a1 a2=>⟨_,rfl,?_⟩) (args_list_sort _)))
  · exact Nat.ne_of_lt (Nat.lt_succ_of_lt (Heap.lt_size hx))
  · exact wpAny_pure ⟨_,rfl,h out a1 a2⟩
end
end Ts
namespace L2
open PySem PyProof.Rows
noncomputable def lexLt:List Int→List Int→Bool
  | [],[]=>false
  | [],_::_=>true
  | _::_,[]=>false
  | x::xs,y::ys=>if x=y then lexLt xs ys else decide (x<y)
theorem rcLt_int (A:Around) (s:Shared) (a:Int) (t:Tok) (c:Int) (u:Tok) (prog:Program) (w:World) (E:Value→Shared→Prop) (Q:Value→Shared→Prop) (h:Q (.bool (decide (a<c))) s) :
    wpAny (model prog w) A (richCompare .Lt (.int a t) (.int c u)) Q E s :=
  (PyProof.Rows.lt_int h:wpAny (model prog w) A (compareOp .Lt (.int a t) (.int c u)) Q E s)
section
open PySem.SeqAt
open PySem.AutoSeq1 (wpAny_loadPart')
open PySem.MeetsSeq PySem.MeetsSeq2 PySem.MeetsSeq3
theorem zif (l b:Addr) (items items2:Array Value) (n n2:Nat) (dd dd2:Option Addr) (sl sl2:Array (Option Value)) (ns ms:List Int) (hi:IntsAre items.toList ns) (hj:IntsAre items2.toList ms) (k:Nat) :
    ∀ i:Nat,items.size - i=k→i≤items.size→i≤items2.size→Meets (Builtin.«list.__eq__.loop» ⟨[.ref l,.ref b,rawInt i,rawInt 0],[]⟩)
      (fun A R s=>s.heap.get? l=some { cls:=.type "list",dict:=dd,data:=.seq items n,slots:=sl }∧s.heap.get? b=some { cls:=.type "list",dict:=dd2,data:=.seq items2 n2,slots:=sl2 } ∧
        R (.ok (.ret (.bool (lexLt (ns.drop i) (ms.drop i))))) s):=by
  have z1:items.size=ns.length:=by rw [← hi.length];simp
  have z2:items2.size=ms.length:=by rw [← hj.length];simp
  induction k with
  | zero =>
    intro i hk h1 h2 prog w A R s h
    obtain ⟨hp,g,d,tk,os⟩:=s;obtain ⟨hl,hb,h⟩:=h
    wp_walk using wpAny_loadPart' hl,wpAny_loadPart' hb
    have hi1:items[((i:Nat):Int).toNat]?=none:=by simp;omega
    have e1:ns.drop i=[]:=by simp;omega
    rw [hi1]
    cases hq:items2[((i:Nat):Int).toNat]? <;> wp_walk using wpAny_loadPart' hl,wpAny_loadPart' hb
    all_goals
      show R (.ok (.ret (.bool (decide (items.size<items2.size))))) _
      have e2:decide (items.size<items2.size)=lexLt (ns.drop i) (ms.drop i):=by
        rw [e1]
        cases hm:ms.drop i with
        | nil =>
          have:ms.length≤i:=by simpa using hm
          simp [lexLt];omega
        | cons y ys =>
          have:i<ms.length:=by
            rcases Nat.lt_or_ge i ms.length with z | z
            · exact z
            · rw [List.drop_eq_nil_of_le z] at hm;cases hm
          simp [lexLt];omega
      rw [e2];exact h
  | succ k ih =>
    intro i hk h1 h2 prog w A R s h
    obtain ⟨hp,g,d,tk,os⟩:=s;obtain ⟨hl,hb,h⟩:=h
    wp_walk using wpAny_loadPart' hl,wpAny_loadPart' hb
    have hlt:i<items.size:=by omega
    have hi1:items[((i:Nat):Int).toNat]?=some items[i]:=by simp [hlt]
    have d1:ns.drop i=ns[i]'(by omega)::ns.drop (i+1):=List.drop_eq_getElem_cons _
    rw [hi1]
    by_cases hlt2:i<items2.size
    · have hi2:items2[((i:Nat):Int).toNat]?=some items2[i]:=by simp [hlt2]
      have d2:ms.drop i=ms[i]'(by omega)::ms.drop (i+1):=List.drop_eq_getElem_cons _
      have hc:((i:Int)+1)=((i+1:Nat):Int):=by push_cast;rfl
      obtain ⟨t,et⟩:=hi.int_at i items[i] (by simp [hlt])
      obtain ⟨u,eu⟩:=hj.int_at i items2[i] (by simp [hlt2])
      have g1:ns.getD i 0=ns[i]'(by omega):=by simp [List.getD_eq_getElem?_getD,List.getElem?_eq_getElem (show i<ns.length by omega)]
      have g2:ms.getD i 0=ms[i]'(by omega):=by simp [List.getD_eq_getElem?_getD,List.getElem?_eq_getElem (show i<ms.length by omega)]
      rw [g1] at et
      rw [g2] at eu
      rw [hi2,et,eu]
      rw [d1,d2,lexLt] at h
      refine bq fun bG=>?_
      obtain ⟨e,he,hiff⟩:=HT.eqAt_int A.in1 ⟨hp,g,d,tk,os⟩ (ns[i]'(by omega)) t (ms[i]'(by omega)) u
      refine bG (wpAny_bind (he prog w _ _ ?_))
      cases e with
      | true =>
        rw [if_pos (hiff.mp rfl)] at h
        wp_walk
        rw [hc]
        exact ⟨plainId_quiet plain_eq_loop _,codeAny_builtin entry_eq_loop (by
          rw [Around.under_plainId plain_eq_loop _]
          exact ih (i+1) (by omega) (by omega) (by omega) prog w A R _ ⟨hl,hb,h⟩)⟩
      | false =>
        rw [if_neg (fun q=>absurd (hiff.mpr q) Bool.false_ne_true)] at h
        have hri:=rcLt_int A.in1 ⟨hp,g,d,tk,os⟩ (ns[i]'(by omega)) t (ms[i]'(by omega)) u prog w
        wp_walk using wpAny_loadPart' hl,wpAny_loadPart' hb
        rw [hi1,hi2,et,eu]
        wp_walk using hri
        exact h
    · have hi2:items2[((i:Nat):Int).toNat]?=none:=by simp;omega
      have d2:ms.drop i=[]:=by simp;omega
      rw [hi2]
      wp_walk using wpAny_loadPart' hl,wpAny_loadPart' hb
      show R (.ok (.ret (.bool (decide (items.size<items2.size))))) _
      rw [d1,d2,lexLt] at h
      have e2:decide (items.size<items2.size)=false:=by simp;omega
      rw [e2];exact h
theorem zii (l b:Addr) (items items2:Array Value) (n n2:Nat) (dd dd2:Option Addr) (sl sl2:Array (Option Value)) (ns ms:List Int) (hi:IntsAre items.toList ns) (hj:IntsAre items2.toList ms) :
    Meets (Builtin.«list.__lt__» ⟨[.ref l,.ref b],[]⟩)
      (fun A R s=>s.heap.get? l=some { cls:=.type "list",dict:=dd,data:=.seq items n,slots:=sl }∧s.heap.get? b=some { cls:=.type "list",dict:=dd2,data:=.seq items2 n2,slots:=sl2 } ∧
        R (.ok (.ret (.bool (lexLt ns ms)))) s):=by
  intro prog w A R s h
  obtain ⟨hp,g,d,tk,os⟩:=s;obtain ⟨hl,hb,h⟩:=h
  have f3:=AutoSeq1.sub_list_list
  wp_walk using wpAny_loadPart' hl,wpAny_loadPart' hb
  exact ⟨plainId_quiet plain_eq_loop _,codeAny_builtin entry_eq_loop (by
    rw [Around.under_plainId plain_eq_loop _]
    exact zif l b items items2 n n2 dd dd2 sl sl2 ns ms hi hj _ 0 rfl (Nat.zero_le _) (Nat.zero_le _) prog w A R _ ⟨hl,hb,by simpa using h⟩)⟩
end
theorem z6a:∀ a b,lexLt a b=true→lexLt b a=false
  | [],[],h=>by cases h
  | [],_::_,_=>rfl
  | _::_,[],h=>by cases h
  | x::xs,y::ys,h=>by
    unfold lexLt at h ⊢
    by_cases e:x=y
    · subst e;rw [if_pos rfl] at h ⊢;exact z6a xs ys h
    · rw [if_neg e] at h;rw [if_neg (Ne.symm e)]
      simp at h ⊢;omega
theorem z79:∀ a b c,lexLt a b=false→lexLt b c=false→lexLt a c=false
  | [],[],c,_,h=>h
  | [],_::_,_,h,_=>by cases h
  | _::_,_,[],_,_=>rfl
  | _::_,[],_::_,_,h=>by cases h
  | x::xs,y::ys,z::zs,h1,h2=>by
    unfold lexLt at h1 h2 ⊢
    by_cases e1:x=y
    · subst e1
      rw [if_pos rfl] at h1
      by_cases e2:x=z
      · subst e2;rw [if_pos rfl] at h2 ⊢;exact z79 xs ys zs h1 h2
      · rw [if_neg e2] at h2 ⊢;exact h2
    · rw [if_neg e1] at h1
      by_cases e2:y=z
      · subst e2;rw [if_neg e1];exact h1
      · rw [if_neg e2] at h2
        simp at h1 h2
        rw [if_neg (by omega)]
        simp;omega
theorem zbf:∀ a b,lexLt a b=false→lexLt b a=false→a=b
  | [],[],_,_=>rfl
  | [],_::_,h,_=>by cases h
  | _::_,[],_,h=>by cases h
  | x::xs,y::ys,h1,h2=>by
    unfold lexLt at h1 h2
    by_cases e:x=y
    · subst e;rw [if_pos rfl] at h1 h2;rw [zbf xs ys h1 h2]
    · rw [if_neg e] at h1;rw [if_neg (Ne.symm e)] at h2
      simp at h1 h2;omega
noncomputable def zcf (h:Heap) (v:Value):List Int:=match v with
  | .ref a=>match h.get? a with
    | some ⟨_,_,.seq items _,_⟩=>items.toList.map numOf
    | _=>[]
  | _=>[]
theorem zfa {vs:List Value} {ns:List Int} (h:IntsAre vs ns):vs.map numOf=ns:=by
  induction h with
  | nil=>rfl
  | cons n t r ih=>simp [numOf,ih]
def GdL (h:Heap) (p:Keyed):Prop:=∃ a items ns,p.1=.ref a∧h.IsList a items∧IntsAre items.toList ns
noncomputable def RL' (h:Heap) (x y:Keyed):Bool:=lexLt (zcf h x.1) (zcf h y.1)
theorem zud (h:Heap):Ts.Od (RL' h):=⟨fun a b=>z6a _ _,fun a b c=>z79 _ _ _⟩
theorem zce {h:Heap} {a:Addr} {items:Array Value} {ns:List Int} (hl:h.IsList a items) (hi:IntsAre items.toList ns):zcf h (.ref a)=ns:=by
  obtain ⟨⟨cls,dd,data,sl⟩,ho,hc,n,hd⟩:=hl
  simp only at hd
  subst hd
  unfold zcf
  simp only [ho]
  exact zfa hi
section
variable {prog:Program} {w:World} {A:Around} {E:Value→Shared→Prop}
theorem za6 {h h':Heap} (k:∀ b x,h.get? b=some x→h'.get? b=some x) {a:Addr} {items:Array Value} (hl:h.IsList a items):h'.IsList a items:=by
  obtain ⟨o,ho,r⟩:=hl
  exact ⟨o,k _ _ ho,r⟩
theorem zg8 {s:Shared} {l b:Addr} {items items2:Array Value} {ns ms:List Int} {Q:Bool→Shared→Prop} (hl:s.heap.IsList l items) (hb:s.heap.IsList b items2) (hi:IntsAre items.toList ns) (hj:IntsAre items2.toList ms) (hu:A.units<cLine) (h:Q (lexLt ns ms) s) :
    wpAny (model prog w) A (oneLt' true (.ref l) (.ref b)) Q E s:=by
  obtain ⟨⟨cls,dd,data,sl⟩,ho,hc,n,hd⟩:=id hl
  obtain ⟨⟨cls2,dd2,data2,sl2⟩,ho2,hc2,n2,hd2⟩:=id hb
  simp only at hc hd hc2 hd2
  subst hc hd hc2 hd2
  rw [oneLt'_eq]
  simp only [if_true]
  refine wpAny_bind (wpAny_cRoomFor hu ?_)
  refine wpAny_bind (wpAny_callSpecialIfBound?_slot (T := "list") (id := "list.__lt__") ⟨_,ho,rfl⟩ PySem.F.slot_list_lt (call_meets PySem.F.slot_list_lt ⟨_,ho,rfl⟩ PySem.F.entry_list_lt (PySem.F.args_list_lt_2 _ _) (zii l b items items2 n n2 dd dd2 sl sl2 ns ms hi hj) ⟨ho,ho2,?_⟩))
  exact wpAny_truthy_bool h
theorem zb0 {α β:Type} {M:Model} {s:Shared} {f:α→Sem β} {g:α→β}:∀ {l:List α},(∀ v∈l,wpAny M A (f v) (fun r s'=>r=g v∧s'=s) E s)→∀ {Q:List β→Shared→Prop},Q (l.map g) s→wpAny M A (l.mapM f) Q E s
  | [],_,Q,h=>by rw [List.mapM_nil];exact wpAny_pure h
  | a::l,hl,Q,h=>by
    rw [List.mapM_cons]
    refine wpAny_bind (wpAny_mono (hl a (by simp)) ?_ fun _ _ e=>e)
    rintro r s' ⟨rfl,rfl⟩
    refine wpAny_bind (zb0 (g:=g) (fun v hv=>hl v (by simp [hv])) ?_)
    exact wpAny_pure h
theorem zb1 {α β:Type} {M:Model} {s:Shared} {f:α→Sem β} {g:α→β} {l:List α} (hl:∀ v∈l,wpAny M A (f v) (fun r s'=>r=g v∧s'=s) E s) {Q:Array β→Shared→Prop} (h:Q (l.map g).toArray s):wpAny M A (l.toArray.mapM f) Q E s:=by
  rw [List.mapM_toArray,map_eq_pure_bind]
  exact wpAny_bind (zb0 (g:=g) hl (wpAny_pure h))
theorem zc8 {s:Shared} {vs:List Value} (hv:∀ v∈vs,∃ a o,v=.ref a∧s.heap.get? a=some o∧o.cls=.type "list") (h2:2≤vs.length):wpAny (model prog w) A (keyKind' vs.toArray) (fun k s'=>k=oneType'∧s'=s) E s:=by
  obtain ⟨v₁,v₂,r,rfl⟩:∃ v₁ v₂ r,vs=v₁::v₂::r:=by
    match vs,h2 with
    | v₁::v₂::r,_=>exact ⟨v₁,v₂,r,rfl⟩
  rw [keyKind'_eq]
  refine wpAny_bind (zb1 (g:=fun _=>none) (fun v hm=>?_) ?_)
  · obtain ⟨a,o,rfl,ho,hc⟩:=hv v hm
    show wpAny _ _ (do
      if (← typeOf (.ref a)) != .type "tuple" then return none
      return (← Builtin.List.listItems (.ref a))[0]?) _ _ _
    refine wpAny_bind (wpAny_typeOf_ref ho ?_)
    rw [hc]
    exact wpAny_pure ⟨rfl,rfl⟩
  rw [if_neg (by simp),if_neg (by simp),oneTypeOnly'_eq]
  refine wpAny_bind (wpAny_bind (zb1 (g:=fun _=>Value.type "list") (fun v hm=>?_) ?_))
  · obtain ⟨a,o,rfl,ho,hc⟩:=hv v hm
    exact wpAny_typeOf_ref ho ⟨hc,rfl⟩
  have hall:((List.map (fun _=>Value.type "list") (v₁::v₂::r)).toArray.all fun x=>x==Value.type "list")=true:=by
    simp only [List.all_toArray,List.all_map,List.all_eq_true]
    intro _ _
    rfl
  have h0:(List.map (fun _=>Value.type "list") (v₁::v₂::r)).toArray[0]?=some (Value.type "list"):=by simp
  rw [h0]
  simp only [hall,if_true]
  exact wpAny_pure (wpAny_pure ⟨rfl,rfl⟩)
theorem zgd {s s6:Shared} (hu:A.units<cLine) (k:∀ b x,s.heap.get? b=some x→s6.heap.get? b=some x):Ts.LtOk prog w A E s6 oneType' (GdL s.heap) (RL' s.heap):=by
  intro st x y Q hk hx hy h
  obtain ⟨a,items,ns,e1,l1,i1⟩:=hx
  obtain ⟨b,items2,ms,e2,l2,i2⟩:=hy
  rw [lt'_eq]
  refine wpS_bind (wpS_get ?_)
  rw [hk,keyLt'_oneType,e1,e2]
  have er:RL' s.heap x y=lexLt ns ms:=by unfold RL';rw [e1,e2,zce l1 i1,zce l2 i2]
  rw [er] at h
  refine wpS_bind (wpS_lift (wpAny_attempt (zg8 (za6 k l1) (za6 k l2) i1 i2 hu ⟨rfl,?_⟩)))
  exact wpS_pure h
end
end L2
namespace L2
open PySem PySem.Spec PyProof.Rows
noncomputable def z43 (nss:List (List Int)):List (List Int):=nss.mergeSort (fun a b=>!lexLt b a)
theorem zcr {ms ns:List (List Int)} (h1:ms.Perm ns) (h2:ms.Pairwise (fun a b=>lexLt b a=false)):ms=z43 ns:=by
  have h3:(z43 ns).Pairwise (fun a b=>(!lexLt b a)=true):=List.pairwise_mergeSort (le:=fun a b=>!lexLt b a) (fun a b c x y=>by
    simp only [Bool.not_eq_true'] at *
    exact z79 c b a y x) (fun a b=>by
    cases h:lexLt b a with
    | false=>rfl
    | true=>rw [z6a b a h];rfl) ns
  have h3:(z43 ns).Pairwise (fun a b=>lexLt b a=false):=h3.imp fun h=>by simpa using h
  exact List.Perm.eq_of_pairwise (le:=fun a b=>lexLt b a=false) (fun a b _ _ h h'=>zbf a b h' h) h2 h3 (h1.trans (List.mergeSort_perm ns _).symm)
noncomputable def toV:Value→V
  | .ref a=>.ref a
  | _=>.non
section
variable {X:Cx}
theorem zeh {P:V→List Int→Prop} {c:Value→List Int}:∀ {vs:List V} {nss:List (List Int)} {us:List Value},Paired P vs nss→Vals vs us→(∀ v ns u,P v ns→RelV v u→u∈us→toV u=v∧c u=ns)→vs.zip nss=us.map fun u=>(toV u,c u)
  | _,_,_,.nil,.nil,_=>rfl
  | _,_,_,.cons p ps,.cons r rs,h=>by
    obtain ⟨h1,h2⟩:=h _ _ _ p r (by simp)
    rw [List.zip_cons_cons,List.map_cons,h1,h2,zeh ps rs fun v ns u a b m=>h v ns u a b (by simp [m])]
theorem zbc {α β:Type} {P:α→β→Prop}:∀ {xs:List α} {ys:List β},Paired P xs ys→∀ {y},y∈ys→∃ x∈xs,P x y
  | _,_,.nil,_,h=>by cases h
  | _,_,.cons p ps,y,h=>by
    rcases List.mem_cons.mp h with rfl | h
    · exact ⟨_,by simp,p⟩
    · obtain ⟨x,hx,q⟩:=zbc ps h
      exact ⟨x,by simp [hx],q⟩
theorem z9z {α β:Type} {P:α→β→Prop}:∀ {xs:List α} {ys:List β},Paired P xs ys→∀ {x},x∈xs→∃ y∈ys,P x y
  | _,_,.nil,_,h=>by cases h
  | _,_,.cons p ps,y,h=>by
    rcases List.mem_cons.mp h with rfl | h
    · exact ⟨_,by simp,p⟩
    · obtain ⟨x,hx,q⟩:=z9z ps h
      exact ⟨x,by simp [hx],q⟩
theorem zbd {α β:Type} {P:α→β→Prop} {f:β→α}:∀ {ys:List β},(∀ y∈ys,P (f y) y)→Paired P (ys.map f) ys
  | [],_=>.nil
  | y::ys,h=>.cons (h y (by simp)) (zbd fun z hz=>h z (by simp [hz]))
theorem zd9 (hu:X.A.units+2<cLine):zal X (.builtin "sorted") (fun xs H Q=>∃ (p:Addr) (vs:List V) (nss:List (List Int)),xs=[.ref p]∧SqL X.K H p vs∧Paired (fun v ns=>∃ a,v=.ref a∧SqL X.K H a (ns.map V.int)) vs nss ∧
    ∀ (l:Addr) (zs:List (V×List Int)),H l=none→zs.Perm (vs.zip nss)→zs.map (·.2)=z43 nss→Q (.ref l) (upd H l (.lst (zs.map (·.1))))):=by
  intro pins s σ H xs us Q I r h
  refine bq fun bG=>?_
  obtain ⟨p,vs,nss,rfl,hq,hn,q⟩:=h
  obtain ⟨u,rfl,ru⟩:=zco r
  cases ru
  obtain ⟨its,rv,pl,hz⟩:=I.list hq
  have good:∀ u∈its,∃ a items ns,u=.ref a∧s.heap.IsList a items∧IntsAre items.toList ns:=fun u hu=>by
    obtain ⟨v,hv,rel⟩:=zbc rv hu
    obtain ⟨ns,_,a,rfl,hs⟩:=z9z hn hv
    cases rel
    obtain ⟨its2,r2,p2,_⟩:=I.list hs
    exact ⟨a,its2.toArray,ns,rfl,p2.isList,by simpa using z88 r2⟩
  have hzip:vs.zip nss=its.map fun u=>(toV u,zcf s.heap u):=zeh hn rv fun v ns u ⟨a,e,hs⟩ rel hm=>by
    subst e
    cases rel
    obtain ⟨its2,r2,p2,_⟩:=I.list hs
    exact ⟨rfl,zce p2.isList (by simpa using z88 r2)⟩
  have hnss:nss=its.map (zcf s.heap):=by
    have:=congrArg (List.map (·.2)) hzip
    rw [List.map_map] at this
    have e:(vs.zip nss).map (·.2)=nss:=by
      have hl:nss.length≤vs.length:=by have:=Paired.length hn;omega
      exact List.map_snd_zip hl
    rw [e] at this
    exact this
  have hzl:its.length≤sizeLine:=by rw [← rv.length];exact hz
  refine bG (Ts.sorted_gen (kd:=oneType') (Gd:=GdL s.heap) (R:=RL' s.heap) (zud _) pl.isList hzl (fun v hv=>good v hv) (fun s6 k=>⟨fun h2=>zc8 (fun v hv=>?_) h2,zgd (by show X.A.units+1+1<cLine;omega) k⟩) fun out hp hs=>?_)
  · obtain ⟨a,items,ns,rfl,⟨o,ho,hc,_⟩,_⟩:=good v hv
    exact ⟨a,o,rfl,k _ _ ho,hc⟩
  obtain ⟨e,he⟩:=sortedAll_at s.heap its out
  have hb:H (s.heap.objs.size+1)=none:=I.hok.fresh (Nat.le_succ _)
  have hperm:(out.toList.map fun u=>(toV u,zcf s.heap u)).Perm (vs.zip nss):=by rw [hzip];exact hp.map _
  have hsort:(out.toList.map fun u=>(toV u,zcf s.heap u)).map (·.2)=z43 nss:=by
    rw [List.map_map]
    refine zcr ?_ ?_
    · rw [hnss];exact hp.map _
    · rw [List.pairwise_map] at hs ⊢
      exact hs.imp fun h=>h
  have hout:∀ u∈out.toList,∃ a,u=.ref a:=fun u hu=>let ⟨a,_,_,e,_⟩:=good u (hp.mem_iff.mp hu);⟨a,e⟩
  refine ⟨.ref (s.heap.objs.size+1),_,I.laid (t':=s.toks) (a:=s.heap.objs.size+1) (o:=.lst ((out.toList.map fun u=>(toV u,zcf s.heap u)).map (·.1))) (fun b o hb=>sortedAll_old hb) (Nat.le_succ _) ?_,rfl,q _ _ hb hperm hsort⟩
  refine ⟨by rw [List.length_map,List.length_map,hp.length_eq,← rv.length];exact hz,out.toList,e,?_,?_⟩
  · rw [List.map_map]
    exact zbd fun u hu=>by
      obtain ⟨a,rfl⟩:=hout u hu
      rfl
  · exact he
end
section
variable {X:Cx} {a:Expr} {ta:TE} {p pos:Pos}
theorem zs4 (K:PySem.W.Frag) (hu:X.A.units+2<cLine) (mm:X.mg "sorted" = none) (ha:PE X a ta) (hg:Gl X "sorted" := by rfl) (hs:starEach [a] X.env=[(false,eval a X.env)]:=by rfl) (hK:X.K=K:=by rfl) :
    PE X (.Call (.Name "sorted" p) [a] [] pos) (fun σ H Q=>ta σ H fun x H1=>∃ (q:Addr) (vs:List V) (nss:List (List Int)),[x]=[.ref q]∧SqL K H1 q vs∧Paired (fun v ns=>∃ a,v=.ref a∧SqL K H1 a (ns.map V.int)) vs nss ∧
      ∀ (l:Addr) (zs:List (V×List Int)),H1 l=none→zs.Perm (vs.zip nss)→zs.map (·.2)=z43 nss→Q (.ref l) (upd H1 l (.lst (zs.map (·.1))))):=by
  subst hK
  exact z72 (zd9 hu) hg mm rfl (z2p ha z4v hs) (he:=hs)
def GdI (p:Keyed):Prop:=∃ n t,p.1=.int n t
noncomputable def RI' (x y:Keyed):Bool:=decide (numOf x.1<numOf y.1)
theorem zue:Ts.Od RI':=⟨fun a b h=>by unfold RI' at *;simp at *;omega,fun a b c h g=>by unfold RI' at *;simp at *;omega⟩
theorem zih {prog:Program} {w:World} {A:Around} {E:Value→Shared→Prop} {s:Shared}:Ts.LtOk prog w A E s oneType' GdI RI':=by
  intro st x y Q hk hx hy h
  obtain ⟨a,t,e1⟩:=hx
  obtain ⟨b,u,e2⟩:=hy
  rw [lt'_eq]
  refine wpS_bind (wpS_get ?_)
  rw [hk,keyLt'_oneType,e1,e2]
  have er:RI' x y=decide (a<b):=by unfold RI';rw [e1,e2];rfl
  rw [er] at h
  refine wpS_bind (wpS_lift (wpAny_attempt (oneLt_int ⟨rfl,?_⟩)))
  exact wpS_pure h
theorem ints_of:∀ {l:List Value},(∀ v∈l,∃ n t,v=Value.int n t)→IntsAre l (l.map numOf)
  | [],_=>.nil
  | v::l,h=>by
    obtain ⟨n,t,rfl⟩:=h v (by simp)
    exact .cons n t (ints_of fun u hu=>h u (by simp [hu]))
theorem zfb {vs:List Value} {ns:List Int} (h:IntsAre vs ns):∀ v∈vs,∃ n t,v=Value.int n t:=by
  induction h with
  | nil=>intro v hv;cases hv
  | cons n t r ih =>
    intro v hv
    rcases List.mem_cons.mp hv with rfl | hv
    · exact ⟨n,t,rfl⟩
    · exact ih v hv
theorem zof {prog:Program} {w:World} {A:Around} {E:Value→Shared→Prop} {s:Shared} {its:List Value} {ns:List Int} (hI:IntsAre its ns) (h2:2≤its.length):wpAny (model prog w) A (keyKind' its.toArray) (fun k s'=>k=oneType'∧s'=s) E s:=by
  match its,h2,hI with
  | v₁::v₂::r,_,hI =>
    rw [keyKind_ints hI]
    exact wpAny_pure ⟨rfl,rfl⟩
theorem zda:zal X (.builtin "sorted") (fun xs H Q=>∃ (p:Addr) (ns:List Int),xs=[.ref p]∧SqL X.K H p (ns.map V.int)∧∀ (l:Addr),H l=none→Q (.ref l) (upd H l (.lst ((ns.mergeSort (fun a b=>decide (a≤b))).map V.int)))):=by
  intro pins s σ H xs us Q I r h
  refine bq fun bG=>?_
  obtain ⟨p,ns,rfl,hq,q⟩:=h
  obtain ⟨u,rfl,ru⟩:=zco r
  cases ru
  obtain ⟨its,rv,pl,hz⟩:=I.list hq
  have hI:=z88 rv
  have hl:=rv.length
  simp only [List.length_map] at hl hz
  refine bG (Ts.sorted_gen (kd:=oneType') (Gd:=GdI) (R:=RI') zue pl.isList (by omega) (fun v hv=>zfb hI v hv) (fun s6 k=>⟨fun h2=>?_,zih⟩) fun out hp hs=>?_)
  · exact zof hI h2
  obtain ⟨e,he⟩:=sortedAll_at s.heap its out
  have hb:H (s.heap.objs.size+1)=none:=I.hok.fresh (Nat.le_succ _)
  have ho:IntsAre out.toList (out.toList.map numOf):=ints_of fun v hv=>zfb hI v (hp.mem_iff.mp hv)
  have em:out.toList.map numOf=ns.mergeSort (fun a b=>decide (a≤b)):=by
    refine zkf ?_ ?_
    · have:=hp.map numOf
      rw [zfa hI] at this
      exact this
    · rw [List.pairwise_map] at hs ⊢
      refine hs.imp fun h=>?_
      have h:decide (numOf _<numOf _)=false:=h
      simp at h
      exact h
  refine ⟨.ref (s.heap.objs.size+1),_,I.laid (t':=s.toks) (a:=s.heap.objs.size+1) (o:=.lst ((out.toList.map numOf).map V.int)) (fun b o hb=>sortedAll_old hb) (Nat.le_succ _) ?_,rfl,by rw [em];exact q _ hb⟩
  refine ⟨by rw [List.length_map,List.length_map,hp.length_eq,← hl];exact hz,out.toList,e,z9p ho,?_⟩
  exact he
theorem zs5 (K:PySem.W.Frag) (mm:X.mg "sorted" = none) (ha:PE X a ta) (hg:Gl X "sorted" := by rfl) (hs:starEach [a] X.env=[(false,eval a X.env)]:=by rfl) (hK:X.K=K:=by rfl) :
    PE X (.Call (.Name "sorted" p) [a] [] pos) (fun σ H Q=>ta σ H fun x H1=>∃ (q:Addr) (ns:List Int),[x]=[.ref q]∧SqL K H1 q (ns.map V.int)∧∀ l,H1 l=none→Q (.ref l) (upd H1 l (.lst ((ns.mergeSort (fun a b=>decide (a≤b))).map V.int)))):=by
  subst hK
  exact z72 zda hg mm rfl (z2p ha z4v hs) (he:=hs)
end
end L2
namespace L3
open PySem PySem.Spec L2
section
variable {X:Cx} {K:PySem.W.Frag} {a:Expr} {ea:EV} {p pos:Pos} {k:Nat}
noncomputable def z7b (x:D) (μ:M):Option (D×M):=(z92 μ x).bind fun ds=>(optAll inI ds).bind fun ns=>some (.lst ((zdq ns).map D.int),μ)
theorem zck (mm:X.mg "sorted" = none) (ha:PE X a (tD K ea)) (hg:Gl X "sorted" := by rfl) (hs:starEach [a] X.env=[(false,eval a X.env)]:=by rfl) (hK:X.K=K:=by rfl):PE X (.Call (.Name "sorted" p) [a] [] pos) (tD K (v1 z7b ea)):=z0v (zs5 K mm ha hg hs hK) (z6i (by
  intro W x d z μ' Q ok r1 hf q
  refine z04 hf fun ds h1 hf=>?_
  refine z04 hf fun ns h2 hf=>?_
  cases hf
  obtain ⟨a,vs,rfl,hs,hv⟩:=z54 ok h1 r1
  have:=ze7 h2 hv
  subst this
  exact ⟨a,ns,rfl,hs,fun p hp=>q _ (W.lay p _) rfl (z5v ok hp) (z0w hp) (zac ok hp (z9j _))⟩))
noncomputable def zmh:D→Option (List Int)
  | .lst ds=>optAll inI ds
  | _=>none
noncomputable def dLI (ns:List Int):D:=.lst (ns.map D.int)
theorem zlb {ds:List D} {ns:List Int} (h:optAll inI ds=some ns):ds=ns.map D.int:=by
  induction ds generalizing ns with
  | nil=>cases h;rfl
  | cons d r ih =>
    refine z04 h fun u h1 h=>?_
    refine z04 h fun us h2 h=>?_
    cases h
    cases d <;> cases h1
    rw [ih h2];rfl
theorem zf7 {W:Wd}:∀ {ds:List D} {vs:List V} {nss:List (List Int)},optAll zmh ds=some nss→DRs K W ds vs→ds=nss.map dLI∧Paired (fun v ns=>(∃ a,v=.ref a∧SqL K W.H a (ns.map V.int))∧DR K W (dLI ns) v) vs nss
  | _,_,_,h,.nil=>by cases h;exact ⟨rfl,.nil⟩
  | d::_,_,_,h,.cons r t=>by
    refine bq fun bG=>?_
    obtain ⟨u,h1,h⟩:=bnd h
    obtain ⟨us,h2,h⟩:=bnd h
    cases h
    obtain ⟨e,ps⟩:=zf7 h2 t
    cases d with
    | lst ds =>
      have h1:optAll inI ds=some u:=h1
      have ed:=zlb h1
      refine bG ⟨by rw [e,List.map_cons];unfold dLI;rw [ed],.cons ⟨?_,?_⟩ ps⟩
      · cases r with
        | lst hr n hd =>
          have:=ze7 h1 hd
          subst this
          exact ⟨_,rfl,SqL.of hr⟩
      · unfold dLI;rw [← ed];exact r
    | _=>cases h1
noncomputable def z5c (x:D) (μ:M):Option (D×M):=(z92 μ x).bind fun ds=>(optAll zmh ds).bind fun nss=>some (.lst ((z43 nss).map dLI),μ)
theorem zmo {W:Wd}:∀ {zs:List (V×List Int)},(∀ z∈zs,DR K W (dLI z.2) z.1)→DRs K W ((zs.map (·.2)).map dLI) (zs.map (·.1))
  | [],_=>.nil
  | z::zs,h=>.cons (h z (by simp)) (zmo fun y hy=>h y (by simp [hy]))
theorem zbb {α β:Type} {P:α→β→Prop}:∀ {xs:List α} {ys:List β},Paired P xs ys→∀ z∈xs.zip ys,P z.1 z.2
  | _,_,.nil,z,h=>by cases h
  | _,_,.cons p ps,z,h=>by
    rw [List.zip_cons_cons] at h
    rcases List.mem_cons.mp h with rfl | h
    · exact p
    · exact zbb ps z h
theorem zcj (hr:Room k X.A) (mm:X.mg "sorted" = none) (ha:PE X a (tD K ea)) (hg:Gl X "sorted" := by rfl) (hs:starEach [a] X.env=[(false,eval a X.env)]:=by rfl) (hK:X.K=K:=by rfl):PE X (.Call (.Name "sorted" p) [a] [] pos) (tD K (v1 z5c ea)):=z0v (zs4 K (by have:=hr.units;omega) mm ha hg hs hK) (z6i (by
  intro W x d z μ' Q ok r1 hf q
  refine z04 hf fun ds h1 hf=>?_
  refine z04 hf fun nss h2 hf=>?_
  cases hf
  obtain ⟨a,vs,rfl,hs,hv⟩:=z54 ok h1 r1
  obtain ⟨e,ps⟩:=zf7 h2 hv
  refine ⟨a,vs,nss,rfl,hs,Paired.mapP ps fun _ _ h=>h.1,fun l zs hl hp he=>?_⟩
  refine q _ (W.lay l _) rfl (z5v ok hl) (z0w hl) (zac ok hl ?_)
  rw [← he]
  exact zmo fun z hz=>(zbb ps z (hp.mem_iff.mp hz)).2))
end
def Wp {α:Type} (r:Option (α×M)) (Q:α→M→Prop):Prop:=∃ a μ,r=some (a,μ)∧Q a μ
def Ws (r:Option (Out×G×M)) (Q:Out→G→M→Prop):Prop:=∃ o Γ μ,r=some (o,Γ,μ)∧Q o Γ μ
section
variable {α β:Type} {Γ:G} {μ:M} {ea eb ec:EV} {ba bb:BV} {el:LV} {sa sb:SV} {i j n m:Nat} {d x y:D} {ds es:List D} {b:Bool} {g:GV} {gs:GsV} {o:Option D} {iv:IV} {lo hi:OV}
theorem Wp.imp {r:Option (α×M)} {Q R:α→M→Prop} (h:Wp r Q) (f:∀ a μ,Q a μ→R a μ):Wp r R:=let ⟨a,μ,e,q⟩:=h;⟨a,μ,e,f a μ q⟩
theorem Ws.imp {r:Option (Out×G×M)} {Q R:Out→G→M→Prop} (h:Ws r Q) (f:∀ o Γ μ,Q o Γ μ→R o Γ μ):Ws r R:=let ⟨a,Γ,μ,e,q⟩:=h;⟨a,Γ,μ,e,f a Γ μ q⟩
theorem wp_some {a:α} {Q:α→M→Prop}:Wp (some (a,μ)) Q↔Q a μ:=⟨fun ⟨_,_,e,q⟩=>by cases e;exact q,fun q=>⟨_,_,rfl,q⟩⟩
theorem ws_some {out:Out} {Q:Out→G→M→Prop}:Ws (some (out,Γ,μ)) Q↔Q out Γ μ:=⟨fun ⟨_,_,_,e,q⟩=>by cases e;exact q,fun q=>⟨_,_,_,rfl,q⟩⟩
theorem wp_bind {r:Option (α×M)} {f:α×M→Option (β×M)} {Q:β→M→Prop}:Wp (r.bind f) Q↔Wp r fun a μ=>Wp (f (a,μ)) Q:=by
  cases r with
  | none=>exact ⟨fun ⟨_,_,e,_⟩=>(by cases e),fun ⟨_,_,e,_⟩=>(by cases e)⟩
  | some p=>exact ⟨fun h=>⟨p.1,p.2,rfl,h⟩,fun ⟨_,_,e,h⟩=>by cases e;exact h⟩
theorem ws_bind {r:Option (α×M)} {f:α×M→Option (Out×G×M)} {Q:Out→G→M→Prop}:Ws (r.bind f) Q↔Wp r fun a μ=>Ws (f (a,μ)) Q:=by
  cases r with
  | none=>exact ⟨fun ⟨_,_,_,e,_⟩=>(by cases e),fun ⟨_,_,e,_⟩=>(by cases e)⟩
  | some p=>exact ⟨fun h=>⟨p.1,p.2,rfl,h⟩,fun ⟨_,_,e,h⟩=>by cases e;exact h⟩
theorem wss_bind {r:Option (Out×G×M)} {f:Out×G×M→Option (Out×G×M)} {Q:Out→G→M→Prop}:Ws (r.bind f) Q↔Ws r fun o Γ μ=>Ws (f (o,Γ,μ)) Q:=by
  cases r with
  | none=>exact ⟨fun ⟨_,_,_,e,_⟩=>(by cases e),fun ⟨_,_,_,e,_⟩=>(by cases e)⟩
  | some p=>exact ⟨fun h=>⟨p.1,p.2.1,p.2.2,rfl,h⟩,fun ⟨_,_,_,e,h⟩=>by cases e;exact h⟩
theorem wps_bind {r:Option (Out×G×M)} {f:Out×G×M→Option (β×M)} {Q:β→M→Prop}:Wp (r.bind f) Q↔Ws r fun o Γ μ=>Wp (f (o,Γ,μ)) Q:=by
  cases r with
  | none=>exact ⟨fun ⟨_,_,e,_⟩=>(by cases e),fun ⟨_,_,_,e,_⟩=>(by cases e)⟩
  | some p=>exact ⟨fun h=>⟨p.1,p.2.1,p.2.2,rfl,h⟩,fun ⟨_,_,_,e,h⟩=>by cases e;exact h⟩
theorem wpo_bind {r:Option α} {f:α→Option (β×M)} {Q:β→M→Prop}:Wp (r.bind f) Q↔∃ a,r=some a∧Wp (f a) Q:=by
  cases r with
  | none=>exact ⟨fun ⟨_,_,e,_⟩=>(by cases e),fun ⟨_,e,_⟩=>(by cases e)⟩
  | some p=>exact ⟨fun h=>⟨p,rfl,h⟩,fun ⟨_,e,h⟩=>by cases e;exact h⟩
theorem zk1 {r:Option (α×M)} {a:α} {Q:α→M→Prop} (e:r=some (a,μ)) (h:Q a μ):Wp r Q:=⟨_,_,e,h⟩
variable {R:D→M→Prop} {RL:List D→M→Prop} {RB:Bool→M→Prop} {RG:G→M→Prop} {RI:List D×Ck→M→Prop} {RO:Option Int→M→Prop} {Q:Out→G→M→Prop}
theorem z18:Wp (z05 0 (some d::Γ) μ) R↔R d μ:=wp_some
theorem z17:Wp (z05 (i+1) (o::Γ) μ) R↔Wp (z05 i Γ μ) R:=Iff.rfl
theorem zt3 (h:Γ[i]?=some (some d)):Wp (z05 i Γ μ) R↔R d μ:=by rw [zu8 h];exact wp_some
theorem w_c:Wp (vC d Γ μ) R↔R d μ:=wp_some
def q1 (f:D→M→Option (D×M)) (R:D→M→Prop):D→M→Prop:=fun x μ=>Wp (f x μ) R
theorem q1_ {f:D→M→Option (D×M)}:q1 f R x μ↔Wp (f x μ) R:=Iff.rfl
theorem z7e {f:D→M→Option (D×M)}:Wp (v1 f ea Γ μ) R↔Wp (ea Γ μ) (q1 f R):=wp_bind
def q2b (f:D→D→M→Option (D×M)) (x:D) (R:D→M→Prop):D→M→Prop:=fun y μ=>Wp (f x y μ) R
theorem z7f {f:D→D→M→Option (D×M)}:q2b f x R y μ↔Wp (f x y μ) R:=Iff.rfl
def q2 (f:D→D→M→Option (D×M)) (eb:EV) (Γ:G) (R:D→M→Prop):D→M→Prop:=fun x μ=>Wp (eb Γ μ) (q2b f x R)
theorem q2_ {f:D→D→M→Option (D×M)}:q2 f eb Γ R x μ↔Wp (eb Γ μ) (q2b f x R):=Iff.rfl
theorem z7m {f:D→D→M→Option (D×M)}:Wp (v2 f ea eb Γ μ) R↔Wp (ea Γ μ) (q2 f eb Γ R):=wp_bind.trans ⟨fun h=>h.imp fun _ _ q=>wp_bind.mp q,fun h=>h.imp fun _ _ q=>wp_bind.mpr q⟩
def qL (f:List D→M→Option (D×M)) (R:D→M→Prop):List D→M→Prop:=fun ds μ=>Wp (f ds μ) R
theorem qL_ {f:List D→M→Option (D×M)}:qL f R ds μ↔Wp (f ds μ) R:=Iff.rfl
theorem z7l {f:List D→M→Option (D×M)}:Wp (vL f el Γ μ) R↔Wp (el Γ μ) (qL f R):=wp_bind
theorem z38:Wp (z1f Γ μ) RL↔RL [] μ:=wp_some
def qc2 (x:D) (RL:List D→M→Prop):List D→M→Prop:=fun ds μ=>RL (x::ds) μ
theorem z7z:qc2 x RL ds μ↔RL (x::ds) μ:=Iff.rfl
def qc (el:LV) (Γ:G) (RL:List D→M→Prop):D→M→Prop:=fun x μ=>Wp (el Γ μ) (qc2 x RL)
theorem qc_:qc el Γ RL x μ↔Wp (el Γ μ) (qc2 x RL):=Iff.rfl
theorem z1e:Wp (z03 ea el Γ μ) RL↔Wp (ea Γ μ) (qc el Γ RL):=wp_bind.trans ⟨fun h=>h.imp fun _ _ q=>(wp_bind.mp q).imp fun _ _ q=>(wp_some (Q:=RL)).mp q,fun h=>h.imp fun _ _ q=>wp_bind.mpr (q.imp fun _ _ q=>(wp_some (Q:=RL)).mpr q)⟩
def qT (RB:Bool→M→Prop):D→M→Prop:=fun d μ=>∃ b,d=.bl b∧RB b μ
theorem qT_:qT RB (.bl b) μ↔RB b μ:=⟨fun ⟨_,e,q⟩=>by cases e;exact q,fun q=>⟨_,rfl,q⟩⟩
theorem w_T:Wp (vT ea Γ μ) RB↔Wp (ea Γ μ) (qT RB):=wp_bind.trans ⟨fun h=>h.imp fun d μ q=>by
    obtain ⟨b,μ',e,q⟩:=q
    cases d <;> cases e
    exact ⟨_,rfl,q⟩,fun h=>h.imp fun d μ q=>by obtain ⟨b,rfl,q⟩:=q;exact wp_some.mpr q⟩
def qTr (RB:Bool→M→Prop):D→M→Prop:=fun d μ=>∃ b,tru μ d=some b∧RB b μ
theorem z1u:qTr RB (.bl b) μ↔RB b μ:=⟨fun ⟨_,e,q⟩=>by cases e;exact q,fun q=>⟨_,rfl,q⟩⟩
theorem z3z:Wp (zgp ea Γ μ) RB↔Wp (ea Γ μ) (qTr RB):=wp_bind.trans ⟨fun h=>h.imp fun d μ q=>by
    obtain ⟨b,e,q⟩:=wpo_bind.mp q
    exact ⟨b,e,wp_some.mp q⟩,fun h=>h.imp fun d μ ⟨b,e,q⟩=>wpo_bind.mpr ⟨b,e,wp_some.mpr q⟩⟩
def zus (RB:Bool→M→Prop):Bool→M→Prop:=fun b μ=>RB (!b) μ
theorem z4a:zus RB b μ↔RB (!b) μ:=Iff.rfl
theorem z40:Wp (zjv ba Γ μ) RB↔Wp (ba Γ μ) (zus RB):=wp_bind.trans ⟨fun h=>h.imp fun _ _ q=>(wp_some (Q:=RB)).mp q,fun h=>h.imp fun _ _ q=>(wp_some (Q:=RB)).mpr q⟩
def zti (bb:BV) (Γ:G) (RB:Bool→M→Prop):Bool→M→Prop:=fun b μ=>if b=true then Wp (bb Γ μ) RB else RB false μ
theorem z28:zti bb Γ RB true μ↔Wp (bb Γ μ) RB:=Iff.rfl
theorem z29:zti bb Γ RB false μ↔RB false μ:=Iff.rfl
theorem z41:Wp (zms ba bb Γ μ) RB↔Wp (ba Γ μ) (zti bb Γ RB):=wp_bind.trans ⟨fun h=>h.imp fun b _ q=>by cases b;exact (wp_some (Q:=RB)).mp q;exact q,fun h=>h.imp fun b _ q=>by cases b;exact (wp_some (Q:=RB)).mpr q;exact q⟩
def qOr (bb:BV) (Γ:G) (RB:Bool→M→Prop):Bool→M→Prop:=fun b μ=>if b=true then RB true μ else Wp (bb Γ μ) RB
theorem z47:qOr bb Γ RB true μ↔RB true μ:=Iff.rfl
theorem z48:qOr bb Γ RB false μ↔Wp (bb Γ μ) RB:=Iff.rfl
theorem z8k:Wp (bOr ba bb Γ μ) RB↔Wp (ba Γ μ) (qOr bb Γ RB):=wp_bind.trans ⟨fun h=>h.imp fun b _ q=>by cases b;exact q;exact (wp_some (Q:=RB)).mp q,fun h=>h.imp fun b _ q=>by cases b;exact q;exact (wp_some (Q:=RB)).mpr q⟩
theorem w_Yes:Wp (z96 Γ μ) RB↔RB true μ:=wp_some
def qIf (ea eb:EV) (Γ:G) (R:D→M→Prop):Bool→M→Prop:=fun b μ=>if b=true then Wp (ea Γ μ) R else Wp (eb Γ μ) R
theorem z4c:qIf ea eb Γ R true μ↔Wp (ea Γ μ) R:=Iff.rfl
theorem z4d:qIf ea eb Γ R false μ↔Wp (eb Γ μ) R:=Iff.rfl
noncomputable def kVA (eb:EV) (Γ:G) (d:D) (μ:M):Option (D×M):=match d with
  | .bl true=>eb Γ μ
  | .bl false=>some (.bl false,μ)
  | _=>none
def qVA (eb:EV) (Γ:G) (R:D→M→Prop):D→M→Prop:=fun d μ=>Wp (kVA eb Γ d μ) R
theorem z46:qVA eb Γ R (.bl true) μ↔Wp (eb Γ μ) R:=Iff.rfl
theorem z1j:Wp (zsl ea eb Γ μ) R↔Wp (ea Γ μ) (qVA eb Γ R):=wp_bind
noncomputable def zvr (eb:EV) (Γ:G) (d:D) (μ:M):Option (D×M):=match d with
  | .bl true=>some (.bl true,μ)
  | .bl false=>eb Γ μ
  | _=>none
def qVO (eb:EV) (Γ:G) (R:D→M→Prop):D→M→Prop:=fun d μ=>Wp (zvr eb Γ d μ) R
theorem z44:qVO eb Γ R (.bl true) μ↔R (.bl true) μ:=wp_some
theorem z45:qVO eb Γ R (.bl false) μ↔Wp (eb Γ μ) R:=Iff.rfl
theorem z3n:Wp (vOr ea eb Γ μ) R↔Wp (ea Γ μ) (qVO eb Γ R):=wp_bind
def qm2 (f:D→D→M→Option (D×M)) (eb:EV) (Γ:G) (R:D→M→Prop):D→M→Prop:=fun x μ=>(∃ l,z92 μ x=some l)∧Wp (eb Γ μ) (q2b f x R)
theorem z3p {f:D→D→M→Option (D×M)}:Wp (v2l f ea eb Γ μ) R↔Wp (ea Γ μ) (qm2 f eb Γ R):=wp_bind.trans ⟨fun h=>h.imp fun _ _ q=>by obtain ⟨l,e,q⟩:=wpo_bind.mp q;exact ⟨⟨l,e⟩,wp_bind.mp q⟩,fun h=>h.imp fun _ _ ⟨⟨l,e⟩,q⟩=>wpo_bind.mpr ⟨l,e,wp_bind.mpr q⟩⟩
theorem z5u {f:D→D→M→Option (D×M)} {k:Nat} (h:μ[k]?=some (some (.lst ds))):qm2 f eb Γ R (.ref k) μ↔Wp (eb Γ μ) (q2b f (.ref k) R):=⟨fun q=>q.2,fun q=>⟨⟨_,z50 h⟩,q⟩⟩
def qm1 (f:D→M→Option (D×M)) (R:D→M→Prop):D→M→Prop:=fun x μ=>(∃ l,z92 μ x=some l)∧Wp (f x μ) R
theorem z3q {f:D→M→Option (D×M)}:Wp (v1l f ea Γ μ) R↔Wp (ea Γ μ) (qm1 f R):=wp_bind.trans ⟨fun h=>h.imp fun _ _ q=>by obtain ⟨l,e,q⟩:=wpo_bind.mp q;exact ⟨⟨l,e⟩,q⟩,fun h=>h.imp fun _ _ ⟨⟨l,e⟩,q⟩=>wpo_bind.mpr ⟨l,e,q⟩⟩
theorem z7o:Wp (zc1 Γ μ) RO↔RO none μ:=wp_some
def qoS (RO:Option Int→M→Prop):D→M→Prop:=fun d μ=>∃ k,d=.int k∧RO (some k) μ
theorem z7y {k:Int}:qoS RO (.int k) μ↔RO (some k) μ:=⟨fun ⟨_,e,q⟩=>by cases e;exact q,fun q=>⟨_,rfl,q⟩⟩
theorem z7n:Wp (zcz ea Γ μ) RO↔Wp (ea Γ μ) (qoS RO):=wp_bind.trans ⟨fun h=>h.imp fun d μ q=>by
    obtain ⟨b,μ',e,q⟩:=q
    cases d <;> cases e
    exact ⟨_,rfl,q⟩,fun h=>h.imp fun d μ q=>by obtain ⟨b,rfl,q⟩:=q;exact wp_some.mpr q⟩
def qs3 (x:D) (l:Option Int) (R:D→M→Prop):Option Int→M→Prop:=fun h μ=>Wp (fSl x l h μ) R
theorem z7v {l h:Option Int}:qs3 x l R h μ↔Wp (fSl x l h μ) R:=Iff.rfl
def qs2 (hi:OV) (Γ:G) (x:D) (R:D→M→Prop):Option Int→M→Prop:=fun l μ=>Wp (hi Γ μ) (qs3 x l R)
theorem z7w {l:Option Int}:qs2 hi Γ x R l μ↔Wp (hi Γ μ) (qs3 x l R):=Iff.rfl
def qs1 (lo hi:OV) (Γ:G) (R:D→M→Prop):D→M→Prop:=fun x μ=>Wp (lo Γ μ) (qs2 hi Γ x R)
theorem z7x:qs1 lo hi Γ R x μ↔Wp (lo Γ μ) (qs2 hi Γ x R):=Iff.rfl
theorem z7q:Wp (vSl ea lo hi Γ μ) R↔Wp (ea Γ μ) (qs1 lo hi Γ R):=wp_bind.trans ⟨fun h=>h.imp fun _ _ q=>(wp_bind.mp q).imp fun _ _ q=>wp_bind.mp q,fun h=>h.imp fun _ _ q=>wp_bind.mpr (q.imp fun _ _ q=>wp_bind.mpr q)⟩
theorem z1a:Wp (z02 i d Γ μ) RG↔RG (Γ.set i (some d)) μ:=wp_some
theorem z1l:Wp (zc9 [] Γ μ) RG↔RG Γ μ:=wp_some
def qgc (gs:GsV) (ds:List D) (RG:G→M→Prop):G→M→Prop:=fun Γ μ=>Wp (gs ds Γ μ) RG
theorem z8p:qgc gs ds RG Γ μ↔Wp (gs ds Γ μ) RG:=Iff.rfl
theorem z0l:Wp (z32 g gs (d::ds) Γ μ) RG↔Wp (g d Γ μ) (qgc gs ds RG):=wp_bind
theorem zb2 (h:ds.length=n):Wp (z7a n gs (.tup ds) Γ μ) RG↔Wp (gs ds Γ μ) RG:=by
  show Wp (if ds.length=n then gs ds Γ μ else none) RG↔_
  rw [if_pos h]
def qSq (sb:SV) (Q:Out→G→M→Prop):Out→G→M→Prop:=fun o Γ μ=>match o with
  | .nx=>Ws (sb Γ μ) Q
  | o=>Q o Γ μ
theorem z10:qSq sb Q .nx Γ μ↔Ws (sb Γ μ) Q:=Iff.rfl
theorem z1w:qSq sb Q (.rt d) Γ μ↔Q (.rt d) Γ μ:=Iff.rfl
theorem z1y:qSq sb Q .bk Γ μ↔Q .bk Γ μ:=Iff.rfl
theorem z1x:qSq sb Q .ct Γ μ↔Q .ct Γ μ:=Iff.rfl
theorem z2w:Ws (z1i sa sb Γ μ) Q↔Ws (sa Γ μ) (qSq sb Q):=wss_bind.trans ⟨fun h=>h.imp fun o _ _ q=>by cases o <;> first | exact q | exact (ws_some (Q:=Q)).mp q,fun h=>h.imp fun o _ _ q=>by cases o <;> first | exact q | exact (ws_some (Q:=Q)).mpr q⟩
theorem z7p:Ws (sNx Γ μ) Q↔Q .nx Γ μ:=ws_some
def qEx (Γ:G) (Q:Out→G→M→Prop):D→M→Prop:=fun _ μ=>Q .nx Γ μ
theorem z8x:qEx Γ Q d μ↔Q .nx Γ μ:=Iff.rfl
theorem z1n:Ws (zbs ea Γ μ) Q↔Wp (ea Γ μ) (qEx Γ Q):=ws_bind.trans ⟨fun h=>h.imp fun _ _ q=>ws_some.mp q,fun h=>h.imp fun _ _ q=>ws_some.mpr q⟩
def qRt (Γ:G) (Q:Out→G→M→Prop):D→M→Prop:=fun d μ=>Q (.rt d) Γ μ
theorem z8r:qRt Γ Q d μ↔Q (.rt d) Γ μ:=Iff.rfl
theorem z3u:Ws (z67 ea Γ μ) Q↔Wp (ea Γ μ) (qRt Γ Q):=ws_bind.trans ⟨fun h=>h.imp fun _ _ q=>ws_some.mp q,fun h=>h.imp fun _ _ q=>ws_some.mpr q⟩
def qSI (sa sb:SV) (Γ:G) (Q:Out→G→M→Prop):Bool→M→Prop:=fun b μ=>if b=true then Ws (sa Γ μ) Q else Ws (sb Γ μ) Q
theorem z39:qSI sa sb Γ Q true μ↔Ws (sa Γ μ) Q:=Iff.rfl
theorem z3a:qSI sa sb Γ Q false μ↔Ws (sb Γ μ) Q:=Iff.rfl
theorem z8j:Ws (sIf ba sa sb Γ μ) Q↔Wp (ba Γ μ) (qSI sa sb Γ Q):=ws_bind.trans ⟨fun h=>h.imp fun b _ q=>by cases b <;> exact q,fun h=>h.imp fun b _ q=>by cases b <;> exact q⟩
def qNx (Q:Out→G→M→Prop):G→M→Prop:=fun Γ μ=>Q .nx Γ μ
theorem z71:qNx Q Γ μ↔Q .nx Γ μ:=Iff.rfl
def qAs (g:GV) (Γ:G) (Q:Out→G→M→Prop):D→M→Prop:=fun d μ=>Wp (g d Γ μ) (qNx Q)
theorem z6u:qAs g Γ Q d μ↔Wp (g d Γ μ) (qNx Q):=Iff.rfl
theorem z2x:Ws (z36 ea g Γ μ) Q↔Wp (ea Γ μ) (qAs g Γ Q):=ws_bind.trans ⟨fun h=>h.imp fun _ _ q=>(ws_bind.mp q).imp fun _ _ q=>ws_some.mp q,fun h=>h.imp fun _ _ q=>ws_bind.mpr (q.imp fun _ _ q=>ws_some.mpr q)⟩
def qFo (g:GV) (sb:SV) (Γ:G) (Q:Out→G→M→Prop):List D×Ck→M→Prop:=fun s μ=>Ws (zmi s.2 g sb s.1 Γ μ) Q
theorem z8u {c:Ck}:qFo g sb Γ Q (ds,c) μ↔Ws (zmi c g sb ds Γ μ) Q:=Iff.rfl
theorem z3y:Ws (zjq iv g sb Γ μ) Q↔Wp (iv Γ μ) (qFo g sb Γ Q):=ws_bind
def qIL (RI:List D×Ck→M→Prop):D→M→Prop:=fun d μ=>∃ s,lsC μ d=some s∧RI s μ
theorem z3w:Wp (ivL ea Γ μ) RI↔Wp (ea Γ μ) (qIL RI):=wp_bind.trans ⟨fun h=>h.imp fun d μ q=>by
    obtain ⟨b,e,q⟩:=wpo_bind.mp q
    exact ⟨b,e,wp_some.mp q⟩,fun h=>h.imp fun d μ ⟨b,e,q⟩=>wpo_bind.mpr ⟨b,e,wp_some.mpr q⟩⟩
theorem z0u:qIL RI (.lst ds) μ↔RI (ds,none) μ:=⟨fun ⟨_,e,q⟩=>by cases e;exact q,fun q=>⟨_,rfl,q⟩⟩
theorem zdt {k:Nat} (h:μ[k]?=some (some (.lst ds))):qIL RI (.ref k) μ↔RI (ds,some (k,ds)) μ:=by
  have e:lsC μ (.ref k)=some (ds,some (k,ds)):=by simp [lsC,h]
  exact ⟨fun ⟨_,e',q⟩=>by rw [e] at e';cases e';exact q,fun q=>⟨_,e,q⟩⟩
def qIR (RI:List D×Ck→M→Prop):D→M→Prop:=fun d μ=>∃ k,d=.int k∧Wp (ivR (vC (.int k)) [] μ) RI
theorem z3v:Wp (ivR ea Γ μ) RI↔Wp (ea Γ μ) (qIR RI):=by
  refine wp_bind.trans ⟨fun h=>h.imp fun d μ q=>?_,fun h=>h.imp fun d μ q=>?_⟩
  · obtain ⟨b,μ',e,q⟩:=q
    cases d with
    | int k=>exact ⟨_,rfl,_,_,e,q⟩
    | _=>cases e
  · obtain ⟨b,rfl,q⟩:=q
    exact q
theorem za9 {c:Ck} (I:List D→G→M→Prop) (ds:List D) (h0:I ds Γ μ)
    (hs:∀ d r Γ μ,I (d::r) Γ μ→Wp (g d Γ μ) fun Γ1 μ1=>Ws (sb Γ1 μ1) fun o Γ2 μ2=>match o with
      | .nx=>z95 c μ2∧I r Γ2 μ2
      | .ct=>z95 c μ2∧I r Γ2 μ2
      | .bk=>Q .nx Γ2 μ2
      | .rt d=>Q (.rt d) Γ2 μ2)
    (hq:∀ Γ μ,I [] Γ μ→Q .nx Γ μ):Ws (zmi c g sb ds Γ μ) Q:=by
  induction ds generalizing Γ μ with
  | nil=>exact ws_some.mpr (hq _ _ h0)
  | cons d r ih =>
    refine ws_bind.mpr ((hs d r Γ μ h0).imp fun Γ1 μ1 h=>wss_bind.mpr (h.imp fun o Γ2 μ2 h=>?_))
    cases o with
    | nx=>show Ws (chk _ _) Q;rw [z8c h.1];exact ih h.2
    | ct=>show Ws (chk _ _) Q;rw [z8c h.1];exact ih h.2
    | bk=>exact ws_some.mpr h
    | rt d=>exact ws_some.mpr h
def qCo (own:List Str) (cap:List (Str×Nat)) (g:GV) (tc:BV) (te:EV) (Γ:G) (R:D→M→Prop):List D×Ck→M→Prop:=fun s μ=>s.1.length≤1000000∧Wp (z2h s.2 g tc te s.1 (zfn own cap Γ) μ) fun rs μ=>R (.lst rs) μ
theorem zcw {own:List Str} {cap:List (Str×Nat)} {c:Ck} {tc:BV} {te:EV}:qCo own cap g tc te Γ R (ds,c) μ↔ds.length≤1000000∧Wp (z2h c g tc te ds (zfn own cap Γ) μ) fun rs μ=>R (.lst rs) μ:=Iff.rfl
theorem z1o {own:List Str} {cap:List (Str×Nat)} {tc:BV} {te:EV}:Wp (z4u own cap iv g tc te Γ μ) R↔Wp (iv Γ μ) (qCo own cap g tc te Γ R):=by
  rw [zk2]
  cases h:iv Γ μ with
  | none=>exact ⟨fun ⟨_,_,e,_⟩=>(by cases e),fun ⟨_,_,e,_⟩=>(by cases e)⟩
  | some p =>
    obtain ⟨⟨its,c⟩,μ1⟩:=p
    rw [wp_some,zog,zcw]
    by_cases hl:its.length≤1000000
    · rw [if_pos hl]
      cases e:z2h c g tc te its (zfn own cap Γ) μ1 with
      | none=>exact ⟨fun ⟨_,_,e,_⟩=>(by cases e),fun ⟨_,_,_,e,_⟩=>(by cases e)⟩
      | some q=>exact ⟨fun ⟨_,_,e,h⟩=>by cases e;exact ⟨hl,_,_,rfl,h⟩,fun ⟨_,_,_,e,h⟩=>by cases e;exact ⟨_,_,rfl,h⟩⟩
    · rw [if_neg hl]
      exact ⟨fun ⟨_,_,e,_⟩=>(by cases e),fun h=>absurd h.1 hl⟩
theorem comp_inv {c:Ck} {tc:BV} {te:EV} (I:List D→List D→G→M→Prop) (ds:List D) {R:List D→M→Prop} (h0:I [] ds Γ μ)
    (hs:∀ done d r Γ μ,I done (d::r) Γ μ→Wp (g d Γ μ) fun Γ1 μ1=>Wp (tc Γ1 μ1) fun b μ2=>if b=true then Wp (te Γ1 μ2) fun x μ3=>z95 c μ3∧I (done++[x]) r Γ1 μ3 else z95 c μ2∧I done r Γ1 μ2)
    (hq:∀ done Γ μ,I done [] Γ μ→R done μ):Wp (z2h c g tc te ds Γ μ) R:=by
  suffices H:∀ (ds done:List D) (Γ:G) (μ:M),I done ds Γ μ→Wp (z2h c g tc te ds Γ μ) fun rs μ=>R (done++rs) μ from (H ds [] Γ μ h0).imp fun rs μ h=>h
  intro ds
  induction ds with
  | nil=>intro done Γ μ h;exact wp_some.mpr (by simpa using hq _ _ _ h)
  | cons d r ih =>
    intro done Γ μ h
    refine wp_bind.mpr ((hs done d r Γ μ h).imp fun Γ1 μ1 h=>wp_bind.mpr (h.imp fun b μ2 h=>?_))
    cases b with
    | true =>
      refine wp_bind.mpr (Wp.imp h fun x μ3 h=>?_)
      show Wp (chk _ _) _
      rw [z8c h.1]
      refine wp_bind.mpr ((ih (done++[x]) Γ1 μ3 h.2).imp fun rs μ4 h=>wp_some.mpr ?_)
      simpa using h
    | false =>
      show Wp (chk _ _) _
      have h:z95 c μ2∧I done r Γ1 μ2:=h
      rw [z8c h.1]
      exact ih done Γ1 μ2 h.2
def ztg (R:D→M→Prop):Out→G→M→Prop:=fun o _ μ=>match o with
  | .rt d=>R d μ
  | .nx=>R .non μ
  | _=>False
theorem z0s:ztg R (.rt d) Γ μ↔R d μ:=Iff.rfl
theorem z0t:ztg R .nx Γ μ↔R .non μ:=Iff.rfl
theorem z6h (h:ds.length=m):Wp (zb7 n m sa ds μ) R↔Ws (sa (ds.map some++List.replicate (n - ds.length) none) μ) (ztg R):=by
  unfold zb7
  rw [if_pos h]
  refine wps_bind.trans ⟨fun h=>h.imp fun o _ _ q=>?_,fun h=>h.imp fun o _ _ q=>?_⟩
  · cases o with
    | rt d=>exact (wp_some (Q:=R)).mp q
    | nx=>exact (wp_some (Q:=R)).mp q
    | bk=>obtain ⟨_,_,e,_⟩:=q;cases e
    | ct=>obtain ⟨_,_,e,_⟩:=q;cases e
  · cases o with
    | rt d=>exact (wp_some (Q:=R)).mpr q
    | nx=>exact (wp_some (Q:=R)).mpr q
    | bk=>exact absurd q id
    | ct=>exact absurd q id
theorem z9v {k:Nat} (h:k≤1000000000):qIR RI (.int (k:Int)) μ↔RI (z4l 0 k,none) μ:=by
  have e:ivR (vC (.int (k:Int))) [] μ=some ((z4l 0 k,none),μ):=by
    show (if -1000000000≤(k:Int)∧(k:Int)≤1000000000 then some ((z4l 0 ((k:Int).toNat),(none:Ck)),μ) else none)=_
    rw [if_pos (by omega)];rfl
  constructor
  · rintro ⟨_,e',q⟩
    cases e'
    rw [e] at q
    exact wp_some.mp q
  · intro q
    exact ⟨_,rfl,by rw [e];exact wp_some.mpr q⟩
theorem z9e {k m:Nat} (h:k<m):(z4l 0 m).drop k=.int (k:Int)::(z4l 0 m).drop (k+1):=by
  have hl:(z4l 0 m).length=m:=by simp [z4l]
  rw [List.drop_eq_getElem_cons (by omega)]
  congr 1
  simp [z4l]
theorem zca (I:Nat→G→M→Prop) {m:Nat} (h0:I 0 Γ μ)
    (hs:∀ k Γ μ,k<m→I k Γ μ→Wp (g (.int (k:Int)) Γ μ) fun Γ1 μ1=>Ws (sb Γ1 μ1) fun o Γ2 μ2=>match o with
      | .nx=>I (k+1) Γ2 μ2
      | .ct=>I (k+1) Γ2 μ2
      | .bk=>Q .nx Γ2 μ2
      | .rt d=>Q (.rt d) Γ2 μ2)
    (hq:∀ Γ μ,I m Γ μ→Q .nx Γ μ):Ws (zmi none g sb (z4l 0 m) Γ μ) Q:=by
  have hl:(z4l 0 m).length=m:=by simp [z4l]
  refine za9 (fun r Γ μ=>∃ k,k≤m∧r=(z4l 0 m).drop k∧I k Γ μ) _ ⟨0,by omega,rfl,h0⟩ ?_ ?_
  · rintro d r Γ μ ⟨k,hk,e,h⟩
    have hk':k<m:=by
      rcases Nat.lt_or_ge k m with z | z
      · exact z
      · rw [List.drop_eq_nil_of_le (by omega)] at e;cases e
    rw [z9e hk'] at e
    cases e
    refine (hs k Γ μ hk' h).imp fun Γ1 μ1 h=>h.imp fun o Γ2 μ2 h=>?_
    cases o with
    | nx=>exact ⟨trivial,k+1,hk',rfl,h⟩
    | ct=>exact ⟨trivial,k+1,hk',rfl,h⟩
    | bk=>exact h
    | rt d=>exact h
  · rintro Γ μ ⟨k,hk,e,h⟩
    have:k=m:=by
      rcases Nat.lt_or_ge k m with z | z
      · rw [z9e z] at e;cases e
      · omega
    subst this
    exact hq _ _ h
theorem zfh {te:EV} (I:Nat→List D→G→M→Prop) {m:Nat} {R:List D→M→Prop} (h0:I 0 [] Γ μ)
    (hs:∀ k done Γ μ,k<m→I k done Γ μ→Wp (g (.int (k:Int)) Γ μ) fun Γ1 μ1=>Wp (te Γ1 μ1) fun x μ3=>I (k+1) (done++[x]) Γ1 μ3)
    (hq:∀ done Γ μ,I m done Γ μ→R done μ):Wp (z2h none g z96 te (z4l 0 m) Γ μ) R:=by
  have hl:(z4l 0 m).length=m:=by simp [z4l]
  refine comp_inv (fun done r Γ μ=>∃ k,k≤m∧r=(z4l 0 m).drop k∧I k done Γ μ) _ ⟨0,by omega,rfl,h0⟩ ?_ ?_
  · rintro done d r Γ μ ⟨k,hk,e,h⟩
    have hk':k<m:=by
      rcases Nat.lt_or_ge k m with z | z
      · exact z
      · rw [List.drop_eq_nil_of_le (by omega)] at e;cases e
    rw [z9e hk'] at e
    cases e
    refine (hs k done Γ μ hk' h).imp fun Γ1 μ1 h=>?_
    refine w_Yes.mpr ?_
    show Wp _ _
    exact h.imp fun x μ3 h=>⟨trivial,k+1,hk',rfl,h⟩
  · rintro done Γ μ ⟨k,hk,e,h⟩
    have:k=m:=by
      rcases Nat.lt_or_ge k m with z | z
      · rw [z9e z] at e;cases e
      · omega
    subst this
    exact hq _ _ _ h
theorem z2c {i j:Int}:z3e (.int i) (.int j) μ=some (.int (i+j),μ):=rfl
theorem z4g {i j:Int}:zrw (.int i) (.int j) μ=some (.int (i - j),μ):=rfl
theorem z8z {i j:Int}:fGt (.int i) (.int j) μ=some (.bl (decide (j<i)),μ):=rfl
theorem z80 {i j:Int}:fLt (.int i) (.int j) μ=some (.bl (decide (i<j)),μ):=rfl
theorem z90 {i j:Int}:fGe (.int i) (.int j) μ=some (.bl (decide (j≤i)),μ):=rfl
theorem z81 {i j:Int}:fLe (.int i) (.int j) μ=some (.bl (decide (i≤j)),μ):=rfl
theorem z82 {i j:Int}:fEq (.int i) (.int j) μ=some (.bl (decide (i=j)),μ):=by unfold fEq;rw [zj4];rfl
theorem z8y {i j:Int}:fNe (.int i) (.int j) μ=some (.bl (!decide (i=j)),μ):=by unfold fNe;rw [zj4];rfl
theorem z4k {i j:Bool}:fEq (.bl i) (.bl j) μ=some (.bl (decide (i=j)),μ):=by rfl
theorem z4h {i j:Bool}:fNe (.bl i) (.bl j) μ=some (.bl (!decide (i=j)),μ):=by rfl
theorem ztr {i j:Int} (h:0<j):zjt (.int i) (.int j) μ=some (.int (i % j),μ):=by exact if_pos (c:=zdh i j) h
theorem zts {i j:Int} (h:0<j) (h2:j<2 ^ 200):zry (.int i) (.int j) μ=some (.int (i / j),μ):=by exact if_pos (c:=zci i j) ⟨h,h2⟩
theorem z4i {i j:Int}:zvx (.int i) (.int j) μ=some (.int (if j<i then j else i),μ):=rfl
theorem z4j {i j:Int}:zsy (.int i) (.int j) μ=some (.int (if j > i then j else i),μ):=rfl
theorem z3c {i:Int}:zmk (.int i) μ=some (.int (-i),μ):=rfl
theorem z3b {b:Bool}:zol (.bl b) μ=some (.bl (!b),μ):=rfl
theorem z2d {b:Bool}:zgl (.bl b) μ=some (.int (if b=true then 1 else 0),μ):=zlf
theorem zg7 (h:ds.length≤1000):ziz ds μ=some (.tup ds,μ):=if_pos h
theorem z73 (h:ds.length≤1000):zav ds μ=some (.lst ds,μ):=if_pos h
theorem zi1 (h:ds.length≤1000):zd4 ds μ=some (.ref μ.length,μ++[some (.lst ds)]):=if_pos h
end
section
variable {Γ:G} {μ:M} {ea eb eo ei ev:EV} {el:LV} {k n:Nat} {d x y:D} {ds:List D} {o:Option D} {C:Addr} {f m:Str} {fs:List (Str×D)} {g:List D→M→Option (D×M)}
variable {R:D→M→Prop} {RI:List D×Ck→M→Prop} {Q:Out→G→M→Prop}
def zvj (g:List D→M→Option (D×M)) (d:D) (R:D→M→Prop):List D→M→Prop:=fun ds μ=>Wp (g (d::ds) μ) R
theorem z4b:zvj g d R ds μ↔Wp (g (d::ds) μ) R:=Iff.rfl
def qF2 (C:Addr) (f:Str) (x:D) (Γ:G) (Q:Out→G→M→Prop):D→M→Prop:=fun d μ=>Ws (match d with
  | .ref k=>match μ[k]? with
    | some (some (.ins C' fs))=>if C'=C∧fs.length<1000 then some (.nx,Γ,μ.set k (some (.ins C (zqf f x fs)))) else none
    | _=>none
  | _=>none) Q
def qF1 (C:Addr) (f:Str) (eo:EV) (Γ:G) (Q:Out→G→M→Prop):D→M→Prop:=fun x μ=>Wp (eo Γ μ) (qF2 C f x Γ Q)
theorem z8w:qF1 C f eo Γ Q x μ↔Wp (eo Γ μ) (qF2 C f x Γ Q):=Iff.rfl
def qN3 (v o:D) (Γ:G) (Q:Out→G→M→Prop):D→M→Prop:=fun y μ=>Ws ((zvp y).bind fun k=>(zw6 μ o).bind fun kvs=>match o with
  | .ref n=>if kvs.length<16000000 then some (.nx,Γ,μ.set n (some (.dN (zvk kvs k v)))) else none
  | _=>none) Q
def qN2 (ei:EV) (v:D) (Γ:G) (Q:Out→G→M→Prop):D→M→Prop:=fun o μ=>Wp (ei Γ μ) (qN3 v o Γ Q)
theorem z8s:qN2 ei x Γ Q d μ↔Wp (ei Γ μ) (qN3 x d Γ Q):=Iff.rfl
def qN1 (eo ei:EV) (Γ:G) (Q:Out→G→M→Prop):D→M→Prop:=fun v μ=>Wp (eo Γ μ) (qN2 ei v Γ Q)
theorem z8t:qN1 eo ei Γ Q x μ↔Wp (eo Γ μ) (qN2 ei x Γ Q):=Iff.rfl
end
def Wt (r:Option (OutX×G×M)) (Q:OutX→G→M→Prop):Prop:=∃ o Γ μ,r=some (o,Γ,μ)∧Q o Γ μ
section
variable {α β:Type} {Γ:G} {μ:M} {ea eb:EV} {ex ey:EX} {bx:BX} {bv:BV} {el:LV} {lx:LX} {sx sy:SX} {sv:SV} {C:Addr} {d:D} {ds:List D} {b:Bool} {g:GV} {f:FX} {fn:List D→M→Option (D×M)} {n m i:Nat} {iv:IV}
variable {R:Rs D→M→Prop} {RB:Rs Bool→M→Prop} {RL:Rs (List D)→M→Prop} {Q:OutX→G→M→Prop} {QS:Out→G→M→Prop}
theorem Wt.imp {r:Option (OutX×G×M)} {Q R:OutX→G→M→Prop} (h:Wt r Q) (f:∀ o Γ μ,Q o Γ μ→R o Γ μ):Wt r R:=let ⟨a,Γ,μ,e,q⟩:=h;⟨a,Γ,μ,e,f a Γ μ q⟩
theorem wt_some {o:OutX}:Wt (some (o,Γ,μ)) Q↔Q o Γ μ:=⟨fun ⟨_,_,_,e,q⟩=>by cases e;exact q,fun q=>⟨_,_,_,rfl,q⟩⟩
theorem wtp_bind {r:Option (α×M)} {f:α×M→Option (OutX×G×M)}:Wt (r.bind f) Q↔Wp r fun a μ=>Wt (f (a,μ)) Q:=by
  cases r with
  | none=>exact ⟨fun ⟨_,_,_,e,_⟩=>(by cases e),fun ⟨_,_,e,_⟩=>(by cases e)⟩
  | some p=>exact ⟨fun h=>⟨p.1,p.2,rfl,h⟩,fun ⟨_,_,e,h⟩=>by cases e;exact h⟩
theorem wtt_bind {r:Option (OutX×G×M)} {f:OutX×G×M→Option (OutX×G×M)}:Wt (r.bind f) Q↔Wt r fun o Γ μ=>Wt (f (o,Γ,μ)) Q:=by
  cases r with
  | none=>exact ⟨fun ⟨_,_,_,e,_⟩=>(by cases e),fun ⟨_,_,_,e,_⟩=>(by cases e)⟩
  | some p=>exact ⟨fun h=>⟨p.1,p.2.1,p.2.2,rfl,h⟩,fun ⟨_,_,_,e,h⟩=>by cases e;exact h⟩
theorem wts_bind {r:Option (Out×G×M)} {f:Out×G×M→Option (OutX×G×M)}:Wt (r.bind f) Q↔Ws r fun o Γ μ=>Wt (f (o,Γ,μ)) Q:=by
  cases r with
  | none=>exact ⟨fun ⟨_,_,_,e,_⟩=>(by cases e),fun ⟨_,_,_,e,_⟩=>(by cases e)⟩
  | some p=>exact ⟨fun h=>⟨p.1,p.2.1,p.2.2,rfl,h⟩,fun ⟨_,_,_,e,h⟩=>by cases e;exact h⟩
theorem wpt_bind {r:Option (OutX×G×M)} {f:OutX×G×M→Option (β×M)} {R:β→M→Prop}:Wp (r.bind f) R↔Wt r fun o Γ μ=>Wp (f (o,Γ,μ)) R:=by
  cases r with
  | none=>exact ⟨fun ⟨_,_,e,_⟩=>(by cases e),fun ⟨_,_,_,e,_⟩=>(by cases e)⟩
  | some p=>exact ⟨fun h=>⟨p.1,p.2.1,p.2.2,rfl,h⟩,fun ⟨_,_,_,e,h⟩=>by cases e;exact h⟩
def qUp (R:Rs α→M→Prop):α→M→Prop:=fun a μ=>R (.ok a) μ
theorem z8q {a:α} {R:Rs α→M→Prop}:qUp R a μ↔R (.ok a) μ:=Iff.rfl
theorem z3t:Wp (upB bv Γ μ) RB↔Wp (bv Γ μ) (qUp RB):=wp_bind.trans ⟨fun h=>h.imp fun _ _ q=>(wp_some (Q:=RB)).mp q,fun h=>h.imp fun _ _ q=>(wp_some (Q:=RB)).mpr q⟩
theorem z3s:Wp (upL el Γ μ) RL↔Wp (el Γ μ) (qUp RL):=wp_bind.trans ⟨fun h=>h.imp fun _ _ q=>(wp_some (Q:=RL)).mp q,fun h=>h.imp fun _ _ q=>(wp_some (Q:=RL)).mpr q⟩
def qUS (Q:OutX→G→M→Prop):Out→G→M→Prop:=fun o Γ μ=>Q (upO o) Γ μ
theorem z1t:qUS Q .nx Γ μ↔Q .nx Γ μ:=Iff.rfl
theorem z1s:qUS Q (.rt d) Γ μ↔Q (.rt d) Γ μ:=Iff.rfl
theorem z3r:Wt (upS sv Γ μ) Q↔Ws (sv Γ μ) (qUS Q):=wts_bind.trans ⟨fun h=>h.imp fun _ _ _ q=>(wt_some (Q:=Q)).mp q,fun h=>h.imp fun _ _ _ q=>(wt_some (Q:=Q)).mpr q⟩
def qLX (f:FX) (R:Rs D→M→Prop):Rs (List D)→M→Prop:=fun r μ=>match r with
  | .ok ds=>Wp (f ds μ) R
  | .ex C=>R (.ex C) μ
theorem z23:qLX f R (.ok ds) μ↔Wp (f ds μ) R:=Iff.rfl
theorem z24:qLX f R (.ex C) μ↔R (.ex C) μ:=Iff.rfl
theorem z3o:Wp (vLX f lx Γ μ) R↔Wp (lx Γ μ) (qLX f R):=wp_bind.trans ⟨fun h=>h.imp fun r _ q=>by cases r;exact q;exact (wp_some (Q:=R)).mp q,fun h=>h.imp fun r _ q=>by cases r;exact q;exact (wp_some (Q:=R)).mpr q⟩
def zso (d:D) (RL:Rs (List D)→M→Prop):Rs (List D)→M→Prop:=fun r μ=>match r with
  | .ok ds=>RL (.ok (d::ds)) μ
  | .ex C=>RL (.ex C) μ
theorem z0n:zso d RL (.ok ds) μ↔RL (.ok (d::ds)) μ:=Iff.rfl
theorem z0o:zso d RL (.ex C) μ↔RL (.ex C) μ:=Iff.rfl
def qcX (lx:LX) (Γ:G) (RL:Rs (List D)→M→Prop):Rs D→M→Prop:=fun r μ=>match r with
  | .ok d=>Wp (lx Γ μ) (zso d RL)
  | .ex C=>RL (.ex C) μ
theorem z1q:qcX lx Γ RL (.ok d) μ↔Wp (lx Γ μ) (zso d RL):=Iff.rfl
theorem z1r:qcX lx Γ RL (.ex C) μ↔RL (.ex C) μ:=Iff.rfl
def qNX (RB:Rs Bool→M→Prop):Rs Bool→M→Prop:=fun r μ=>match r with
  | .ok b=>RB (.ok (!b)) μ
  | .ex C=>RB (.ex C) μ
theorem z21:qNX RB (.ok b) μ↔RB (.ok (!b)) μ:=Iff.rfl
theorem z22:qNX RB (.ex C) μ↔RB (.ex C) μ:=Iff.rfl
def qTX (RB:Rs Bool→M→Prop):Rs D→M→Prop:=fun r μ=>match r with
  | .ok d=>∃ b,d=.bl b∧RB (.ok b) μ
  | .ex C=>RB (.ex C) μ
theorem z1v:qTX RB (.ex C) μ↔RB (.ex C) μ:=Iff.rfl
def zsp (sy:SX) (Q:OutX→G→M→Prop):OutX→G→M→Prop:=fun o Γ μ=>match o with
  | .nx=>Wt (sy Γ μ) Q
  | o=>Q o Γ μ
theorem z0q:zsp sy Q .nx Γ μ↔Wt (sy Γ μ) Q:=Iff.rfl
theorem z0p:zsp sy Q (.rt d) Γ μ↔Q (.rt d) Γ μ:=Iff.rfl
theorem z0r:zsp sy Q (.ex C) Γ μ↔Q (.ex C) Γ μ:=Iff.rfl
theorem z1k:Wt (z6l sx sy Γ μ) Q↔Wt (sx Γ μ) (zsp sy Q):=wtt_bind.trans ⟨fun h=>h.imp fun o _ _ q=>by cases o <;> first | exact q | exact (wt_some (Q:=Q)).mp q,fun h=>h.imp fun o _ _ q=>by cases o <;> first | exact q | exact (wt_some (Q:=Q)).mpr q⟩
def qEX (Γ:G) (Q:OutX→G→M→Prop):Rs D→M→Prop:=fun r μ=>match r with
  | .ok _=>Q .nx Γ μ
  | .ex C=>Q (.ex C) Γ μ
theorem z26:qEX Γ Q (.ok d) μ↔Q .nx Γ μ:=Iff.rfl
theorem z27:qEX Γ Q (.ex C) μ↔Q (.ex C) Γ μ:=Iff.rfl
theorem z0m:Wt (zeu ex Γ μ) Q↔Wp (ex Γ μ) (qEX Γ Q):=wtp_bind.trans ⟨fun h=>h.imp fun r _ q=>by cases r <;> exact (wt_some (Q:=Q)).mp q,fun h=>h.imp fun r _ q=>by cases r <;> exact (wt_some (Q:=Q)).mpr q⟩
def qRX (Γ:G) (Q:OutX→G→M→Prop):Rs D→M→Prop:=fun r μ=>match r with
  | .ok d=>Q (.rt d) Γ μ
  | .ex C=>Q (.ex C) Γ μ
theorem z1z:qRX Γ Q (.ok d) μ↔Q (.rt d) Γ μ:=Iff.rfl
theorem z20:qRX Γ Q (.ex C) μ↔Q (.ex C) Γ μ:=Iff.rfl
def qIX (sx sy:SX) (Γ:G) (Q:OutX→G→M→Prop):Rs Bool→M→Prop:=fun r μ=>match r with
  | .ok c=>if c=true then Wt (sx Γ μ) Q else Wt (sy Γ μ) Q
  | .ex C=>Q (.ex C) Γ μ
theorem z4e:qIX sx sy Γ Q (.ok true) μ↔Wt (sx Γ μ) Q:=Iff.rfl
theorem z4f:qIX sx sy Γ Q (.ok false) μ↔Wt (sy Γ μ) Q:=Iff.rfl
theorem z25:qIX sx sy Γ Q (.ex C) μ↔Q (.ex C) Γ μ:=Iff.rfl
theorem z3x:Wt (zkm bx sx sy Γ μ) Q↔Wp (bx Γ μ) (qIX sx sy Γ Q):=wtp_bind.trans ⟨fun h=>h.imp fun r _ q=>by
    cases r with
    | ok c=>cases c <;> exact q
    | ex C=>exact (wt_some (Q:=Q)).mp q,fun h=>h.imp fun r _ q=>by
    cases r with
    | ok c=>cases c <;> exact q
    | ex C=>exact (wt_some (Q:=Q)).mpr q⟩
def zth (Q:OutX→G→M→Prop):G→M→Prop:=fun Γ μ=>Q .nx Γ μ
theorem z49:zth Q Γ μ↔Q .nx Γ μ:=Iff.rfl
def qAX (g:GV) (Γ:G) (Q:OutX→G→M→Prop):Rs D→M→Prop:=fun r μ=>match r with
  | .ok d=>Wp (g d Γ μ) (zth Q)
  | .ex C=>Q (.ex C) Γ μ
theorem z2a:qAX g Γ Q (.ok d) μ↔Wp (g d Γ μ) (zth Q):=Iff.rfl
theorem z2b:qAX g Γ Q (.ex C) μ↔Q (.ex C) Γ μ:=Iff.rfl
theorem z1p:Wt (znf ex g Γ μ) Q↔Wp (ex Γ μ) (qAX g Γ Q):=by
  refine wtp_bind.trans ⟨fun h=>h.imp fun r μ q=>?_,fun h=>h.imp fun r μ q=>?_⟩
  · cases r with
    | ok d=>exact (wtp_bind.mp q).imp fun _ _ q=>(wt_some (Q:=Q)).mp q
    | ex C=>exact (wt_some (Q:=Q)).mp q
  · cases r with
    | ok d=>exact wtp_bind.mpr (Wp.imp q fun _ _ q=>(wt_some (Q:=Q)).mpr q)
    | ex C=>exact (wt_some (Q:=Q)).mpr q
theorem z63 {l:List EV} {μ':M} (h:znj l Γ μ=some μ') (hQ:Q (.ex C) Γ μ'):Wt (z5s C l Γ μ) Q:=by
  unfold z5s;rw [h];exact wt_some.mpr hQ
theorem z0k:Wt (zet C ea Γ μ) Q↔Wp (ea Γ μ) fun _ μ'=>Q (.ex C) Γ μ':=wtp_bind.trans ⟨fun h=>h.imp fun _ _ q=>(wt_some (Q:=Q)).mp q,fun h=>h.imp fun _ _ q=>(wt_some (Q:=Q)).mpr q⟩
def zkv (R:Rs D→M→Prop):OutX→G→M→Prop:=fun o _ μ=>match o with
  | .rt d=>R (.ok d) μ
  | .nx=>R (.ok .non) μ
  | .ex C=>R (.ex C) μ
  | _=>False
theorem z0d:zkv R (.rt d) Γ μ↔R (.ok d) μ:=Iff.rfl
theorem z0e:zkv R .nx Γ μ↔R (.ok .non) μ:=Iff.rfl
theorem z0f:zkv R (.ex C) Γ μ↔R (.ex C) μ:=Iff.rfl
theorem zcn (h:ds.length=m):Wp (zjr n m sx ds μ) R↔Wt (sx (ds.map some++List.replicate (n - ds.length) none) μ) (zkv R):=by
  unfold zjr
  rw [if_pos h]
  refine wpt_bind.trans ⟨fun h=>h.imp fun o _ _ q=>?_,fun h=>h.imp fun o _ _ q=>?_⟩
  · cases o with
    | rt d=>exact (wp_some (Q:=R)).mp q
    | nx=>exact (wp_some (Q:=R)).mp q
    | ex C=>exact (wp_some (Q:=R)).mp q
    | bk=>obtain ⟨_,_,e,_⟩:=q;cases e
    | ct=>obtain ⟨_,_,e,_⟩:=q;cases e
  · cases o with
    | rt d=>exact (wp_some (Q:=R)).mpr q
    | nx=>exact (wp_some (Q:=R)).mpr q
    | ex C=>exact (wp_some (Q:=R)).mpr q
    | bk=>exact absurd q id
    | ct=>exact absurd q id
theorem zsk {R:D→M→Prop} (h:Wp (f ds μ) fun r μ=>∃ d,r=.ok d∧R d μ):Wp (dn f ds μ) R:=by
  obtain ⟨_,μ',e,d,rfl,q⟩:=h
  unfold dn
  rw [e]
  exact wp_some.mpr q
theorem forX_inv {c:Ck} (I:List D→G→M→Prop) (ds:List D) (h0:I ds Γ μ)
    (hs:∀ d r Γ μ,I (d::r) Γ μ→Wp (g d Γ μ) fun Γ1 μ1=>Wt (sx Γ1 μ1) fun o Γ2 μ2=>match o with
      | .nx=>z95 c μ2∧I r Γ2 μ2
      | .ct=>z95 c μ2∧I r Γ2 μ2
      | .bk=>Q .nx Γ2 μ2
      | .rt d=>Q (.rt d) Γ2 μ2
      | .ex C=>Q (.ex C) Γ2 μ2)
    (hq:∀ Γ μ,I [] Γ μ→Q .nx Γ μ):Wt (zoj c g sx ds Γ μ) Q:=by
  induction ds generalizing Γ μ with
  | nil=>exact wt_some.mpr (hq _ _ h0)
  | cons d r ih =>
    refine wtp_bind.mpr ((hs d r Γ μ h0).imp fun Γ1 μ1 h=>wtt_bind.mpr (h.imp fun o Γ2 μ2 h=>?_))
    cases o with
    | nx=>show Wt (chk _ _) Q;rw [z8c h.1];exact ih h.2
    | ct=>show Wt (chk _ _) Q;rw [z8c h.1];exact ih h.2
    | bk=>exact wt_some.mpr h
    | rt d=>exact wt_some.mpr h
    | ex C=>exact wt_some.mpr h
def qFX (g:GV) (sx:SX) (Γ:G) (Q:OutX→G→M→Prop):List D×Ck→M→Prop:=fun s μ=>Wt (zoj s.2 g sx s.1 Γ μ) Q
theorem z8v {c:Ck}:qFX g sx Γ Q (ds,c) μ↔Wt (zoj c g sx ds Γ μ) Q:=Iff.rfl
theorem z1m:Wt (zne iv g sx Γ μ) Q↔Wp (iv Γ μ) (qFX g sx Γ Q):=wtp_bind
end
end L3
namespace Law
open PySem L2 L3
noncomputable def top (i:Nat):Stmt:=PySem.Challenge.pw_morethanhalf_k39_whole_tellers.main.body.getD i (.Pass ⟨0,0,0,0⟩)
section
variable {P:Program} {w:World} {K:PySem.W.Frag} {mg:Str→Option Value} {base:Heap} {f:Addr} {fd:FuncData}
theorem sc_check_things:FnScope ["many", "answers", "i", "j", "alike"] ["many", "answers"] (z06 (top 6)):=⟨rfl,rfl,rfl,by decide +kernel,rfl,by decide +kernel,by decide +kernel⟩
noncomputable def z4w (C_NoThing:Addr):SX :=
    (z6l (zkm (upB (vT (v2 fLt (z05 0) (vC (.int 0)))))
      (z5s C_NoThing ((z05 0)::[]))
      (upS sNx))
    (zne (ivL (z05 1)) (z7a 3 (z32 (z02 2) (z32 (z02 3) (z32 (z02 4) zc9))))
      (z6l (zkm (upB (zjv (zms (vT (z6x fLe fLt (vC (.int 0)) (z05 2) (z05 0))) (vT (z6x fLe fLt (vC (.int 0)) (z05 3) (z05 0))))))
        (z5s C_NoThing ((z05 2)::((z05 3)::((z05 0)::[]))))
        (upS sNx))
      (zkm (upB (vT (v2 fEq (z05 2) (z05 3))))
        (z5s C_NoThing ((z05 2)::[]))
        (upS sNx)))))
noncomputable def z1h (C_NoThing:Addr):FX:=zjr 5 2 (z4w C_NoThing)
theorem za0 {k:Nat} {C_NoThing:Addr} (F:Fun K "check_things" "check_things" (top 6) f fd) (e_NoThing:mg "NoThing" = some (.ref C_NoThing)∧z4n K C_NoThing):FnOk P w K mg base (CXr P w) (k+1) f fd ["many", "answers"] (spX K (z1h C_NoThing)):=by
  unfold z1h z4w
  exact zru F sc_check_things fun cdv A outer s H E hr =>
    (z5o (zdk (zdj (zh2 (z01 0) z09))
      (z6g (z5n (zh1 (zgr (by decide) (zky (z01 0) (zgr (by decide) pj0)))) e_NoThing.1 e_NoThing.2))
      z9m)
    (z6g (zp3 (zok ⟨rfl,rfl⟩) rfl (zsf (z2z (z01 1))) (zsg (zax (n:=3) (z19 (z0b (i:=2) sc_check_things.nd rfl (Or.inl rfl)) (z19 (z0b (i:=3) sc_check_things.nd rfl (Or.inl rfl)) (z19 (z0b (i:=4) sc_check_things.nd rfl (Or.inl rfl)) z7k)))))
      (z5o (zdk (zdj (z8i (PW.pt (zgv (zbm zr3 zq7 zi3 zku z09 (z01 2) (z01 0)) (zdl (zbm zr3 zq7 zi3 zku z09 (z01 3) (z01 0)))))))
        (z6g (z5n (zh1 (zgr (by decide) (zky (z01 2) (zgr (by decide) (zky (z01 3) (zgr (by decide) (zky (z01 0) (zgr (by decide) pj0)))))))) e_NoThing.1 e_NoThing.2))
        z9m)
      (z6g (zdk (zdj (zh4 hr (z01 2) (z01 3)))
        (z6g (z5n (zh1 (zgr (by decide) (zky (z01 2) (zgr (by decide) pj0)))) e_NoThing.1 e_NoThing.2))
        z9m))))))
theorem zbr:FnScope ["many", "least", "greatest"] ["many", "least", "greatest"] (z06 (top 8)):=⟨rfl,rfl,rfl,by decide +kernel,rfl,by decide +kernel,by decide +kernel⟩
noncomputable def z5i (C_NoThing:Addr) (C_TooMany:Addr):SX :=
    (z6l (zkm (upB (vT (v2 fLt (z05 0) (z05 1))))
      (z5s C_NoThing ((z05 1)::((z05 0)::[])))
      (upS sNx))
    (zkm (upB (vT (v2 fGt (z05 0) (z05 2))))
      (z5s C_TooMany ((z05 2)::((z05 0)::[])))
      (upS sNx)))
noncomputable def z31 (C_NoThing:Addr) (C_TooMany:Addr):FX:=zjr 3 3 (z5i C_NoThing C_TooMany)
theorem zc0 {k:Nat} {C_NoThing:Addr} {C_TooMany:Addr} (F:Fun K "check_many" "check_many" (top 8) f fd) (e_NoThing:mg "NoThing" = some (.ref C_NoThing)∧z4n K C_NoThing) (e_TooMany:mg "TooMany" = some (.ref C_TooMany)∧z4n K C_TooMany):FnOk P w K mg base (CXr P w) (k+1) f fd ["many", "least", "greatest"] (spX K (z31 C_NoThing C_TooMany)):=by
  unfold z31 z5i
  exact zru F zbr fun cdv A outer s H E hr =>
    (z5o (zdk (zdj (zh2 (z01 0) (z01 1)))
      (z6g (z5n (zh1 (zgr (by decide) (zky (z01 1) (zgr (by decide) (zky (z01 0) pj0))))) e_NoThing.1 e_NoThing.2))
      z9m)
    (z6g (zdk (zdj (zp8 (z01 0) (z01 2)))
      (z6g (z5n (zh1 (zgr (by decide) (zky (z01 2) (zgr (by decide) (zky (z01 0) pj0))))) e_TooMany.1 e_TooMany.2))
      z9m)))
theorem sc_lists_of_liars:FnScope ["many", "lists", "teller"] ["many"] (z06 (top 11)):=⟨rfl,rfl,rfl,by decide +kernel,rfl,by decide +kernel,by decide +kernel⟩
theorem z6o:((["liars"]:List Str)++([("teller",2),("many",0)]:List (Str×Nat)).map (·.1)).Nodup:=by decide +kernel
noncomputable def z3h:SV :=
    (z1i (z36 (vL zav (z03 (vL zav z1f) z1f)) (z02 1))
    (z1i (zjq (ivR (z05 0)) (z02 2)
      (z36 (v2 z3e (z05 1) (z4u ["liars"] [("teller",2),("many",0)] (ivL (z05 1)) (z02 0) (vT (v2 fLt (v2 z1g (vC (.int 2)) (v2 z3e (v1 z5m (z05 0)) (vC (.int 1)))) (z05 2))) (v2 z3e (z05 0) (vL zav (z03 (z05 1) z1f))))) (z02 1)))
    (z67 (v1 z5c (z05 1)))))
noncomputable def z12:List D→M→Option (D×M):=zb7 3 1 (z3h)
theorem z85 {k:Nat} (F:Fun K "lists_of_liars" "lists_of_liars" (top 11) f fd) (m_range:mg "range" = none) (m_len:mg "len" = none) (m_sorted:mg "sorted" = none):FnOk P w K mg base CX0 (k+1) f fd ["many"] (spM K (z12)):=by
  unfold z12 z3h
  exact zgi F sc_lists_of_liars fun cdv A outer s H E hr =>
    (z07 (z0h (i:=1) sc_lists_of_liars.nd rfl (Or.inl rfl) (z6v (z00 (z6v z08) z08)))
    (z07 (z8h PassesOwn.never rfl (z2y m_range (z01 0)) (z0b (i:=2) sc_lists_of_liars.nd rfl (Or.inr rfl))
      (z0c (z0h (i:=1) sc_lists_of_liars.nd rfl (Or.inl rfl) (z3m (z01 1) (z5p (own:=["liars"]) (cap:=[("teller",2),("many",0)]) (z4o rfl) (z2z (z01 1))
      (fun _ _ _ _ _=>(z0b (i:=0) z6o rfl (Or.inl rfl))) (fun _ _ _ _ _=>(z7j (zh2 (z2o z09 (z3m (z5l m_len (z01 0)) z09)) (z01 2))))
      (fun _ _ _ _ _=>(z3m (z01 0) (z6v (z00 (z01 1) z08)))))))))
    (z0c (z16 (zcj hr m_sorted (z01 1))))))
theorem sc_fits_liars:FnScope ["liars", "sayings", "i", "j", "true"] ["liars", "sayings"] (z06 (top 12)):=⟨rfl,rfl,rfl,by decide +kernel,rfl,by decide +kernel,by decide +kernel⟩
noncomputable def z5h:SV :=
    (z1i (zjq (ivL (z05 1)) (z7a 3 (z32 (z02 2) (z32 (z02 3) (z32 (z02 4) zc9))))
      (sIf (zms (vT (v2 (fIn true) (z05 2) (z05 0))) (vT (v2 fNe (v2 (fIn true) (z05 3) (z05 0)) (z05 4))))
        (z67 (vC (.bl false)))
        sNx))
    (z67 (vC (.bl true))))
noncomputable def z2n:List D→M→Option (D×M):=zb7 5 2 (z5h)
theorem zbz {k:Nat} (F:Fun K "fits_liars" "fits_liars" (top 12) f fd):FnOk P w K mg base CX0 (k+1) f fd ["liars", "sayings"] (spM K (z2n)):=by
  unfold z2n z5h
  exact zgi F sc_fits_liars fun cdv A outer s H E hr =>
    (z07 (z8h PassesOwn.never rfl (z2z (z01 1)) (zax (n:=3) (z19 (z0b (i:=2) sc_fits_liars.nd rfl (Or.inl rfl)) (z19 (z0b (i:=3) sc_fits_liars.nd rfl (Or.inl rfl)) (z19 (z0b (i:=4) sc_fits_liars.nd rfl (Or.inl rfl)) z7k))))
      (z0c (z58 (PW.pt (zgv (zjw (z01 2) (z01 0)) (zdl (zh0 hr (zgz (z01 3) (z01 0)) (z01 4)))))
        (z0c (z16 zaz))
        z2t)))
    (z0c (z16 zaz)))
theorem z7u:FnScope ["many", "sayings"] ["many", "sayings"] (z06 (top 13)):=⟨rfl,rfl,rfl,by decide +kernel,rfl,by decide +kernel,by decide +kernel⟩
theorem z6p:((["liars"]:List Str)++([("sayings",1)]:List (Str×Nat)).map (·.1)).Nodup:=by decide +kernel
noncomputable def z3i (f_lists_of_liars:List D→M→Option (D×M)) (f_fits_liars:List D→M→Option (D×M)) (f_check_things:FX) (f_check_many:FX) (c_MOST_TELLERS:D):SX :=
    (z6l (zeu (vLX f_check_things (upL (z03 (z05 0) (z03 (z05 1) z1f)))))
    (z6l (zeu (vLX f_check_many (upL (z03 (z05 0) (z03 (vC (.int 1)) (z03 (vC c_MOST_TELLERS) z1f))))))
    (upS (z67 (z4u ["liars"] [("sayings",1)] (ivL (vL f_lists_of_liars (z03 (z05 0) z1f))) (z02 0) (zgp (vL f_fits_liars (z03 (z05 0) (z03 (z05 1) z1f)))) (z05 0))))))
noncomputable def z2l (f_lists_of_liars:List D→M→Option (D×M)) (f_fits_liars:List D→M→Option (D×M)) (f_check_things:FX) (f_check_many:FX) (c_MOST_TELLERS:D):FX:=zjr 2 2 (z3i f_lists_of_liars f_fits_liars f_check_things f_check_many c_MOST_TELLERS)
theorem z86 {f_lists_of_liars f_fits_liars:List D→M→Option (D×M)} {f_check_things f_check_many:FX} {k_lists_of_liars k_fits_liars k_check_things k_check_many k:Nat} {c_MOST_TELLERS:D} {v_MOST_TELLERS:V} {u_MOST_TELLERS:Value} (F:Fun K "liars_that_fit" "liars_that_fit" (top 13) f fd) (D_lists_of_liars:Df P w K mg base k_lists_of_liars "lists_of_liars" ["many"] (spM K f_lists_of_liars)) (h_lists_of_liars:k_lists_of_liars≤k) (D_fits_liars:Df P w K mg base k_fits_liars "fits_liars" ["liars", "sayings"] (spM K f_fits_liars)) (h_fits_liars:k_fits_liars≤k) (D_check_things:DfX P w K mg base k_check_things "check_things" ["many", "answers"] (spX K f_check_things)) (h_check_things:k_check_things≤k) (D_check_many:DfX P w K mg base k_check_many "check_many" ["many", "least", "greatest"] (spX K f_check_many)) (h_check_many:k_check_many≤k) (g_MOST_TELLERS:mg "MOST_TELLERS" = some u_MOST_TELLERS∧RelV v_MOST_TELLERS u_MOST_TELLERS∧∀ W,DR K W c_MOST_TELLERS v_MOST_TELLERS):FnOk P w K mg base (CXr P w) (k+1) f fd ["many", "sayings"] (spX K (z2l f_lists_of_liars f_fits_liars f_check_things f_check_many c_MOST_TELLERS)):=by
  unfold z2l z3i
  exact zru F z7u fun cdv A outer s H E hr =>
    (z5o (zgt (zmz D_check_things (hr.mono h_check_things) (zmy (z00 (z01 0) (z00 (z01 1) z08)))))
    (z5o (zgt (zmz D_check_many (hr.mono h_check_many) (zmy (z00 (z01 0) (z00 z09 (z00 (zp9 g_MOST_TELLERS.1 g_MOST_TELLERS.2.1 g_MOST_TELLERS.2.2) z08))))))
    (zgs (z0c (z16 (z5p (own:=["liars"]) (cap:=[("sayings",1)]) (z4o rfl) (z2z (z53 D_lists_of_liars (hr.mono h_lists_of_liars) (z00 (z01 0) z08)))
      (fun _ _ _ _ _=>(z0b (i:=0) z6p rfl (Or.inl rfl))) (fun _ _ _ _ _=>(z7j (z4t (z53 D_fits_liars (hr.mono h_fits_liars) (z00 (z01 0) (z00 (z01 1) z08))))))
      (fun _ _ _ _ _=>(z01 0))))))))
theorem sc_surely_true:FnScope ["many", "sayings", "lists"] ["many", "sayings"] (z06 (top 14)):=⟨rfl,rfl,rfl,by decide +kernel,rfl,by decide +kernel,by decide +kernel⟩
theorem z9a:((["teller"]:List Str)++([("lists",2)]:List (Str×Nat)).map (·.1)).Nodup:=by decide +kernel
theorem z99:((["liars"]:List Str)++([("teller",0)]:List (Str×Nat)).map (·.1)).Nodup:=by decide +kernel
noncomputable def z55 (f_liars_that_fit:FX) (C_NoFit:Addr):SX :=
    (z6l (znf (vLX f_liars_that_fit (upL (z03 (z05 0) (z03 (z05 1) z1f)))) (z02 2))
    (z6l (zkm (upB (zjv (zgp (z05 2))))
      (zet C_NoFit (vC (.str "no list of liars fits the sayings")))
      (upS sNx))
    (upS (z67 (z4u ["teller"] [("lists",2)] (ivR (z05 0)) (z02 0) (zgp (v1 zrz (z4u ["liars"] [("teller",0)] (ivL (z05 1)) (z02 0) z96 (v2 (fIn true) (z05 1) (z05 0))))) (z05 0))))))
noncomputable def z3j (f_liars_that_fit:FX) (C_NoFit:Addr):FX:=zjr 3 2 (z55 f_liars_that_fit C_NoFit)
theorem zar {f_liars_that_fit:FX} {k_liars_that_fit k:Nat} {C_NoFit:Addr} (F:Fun K "surely_true" "surely_true" (top 14) f fd) (D_liars_that_fit:DfX P w K mg base k_liars_that_fit "liars_that_fit" ["many", "sayings"] (spX K f_liars_that_fit)) (h_liars_that_fit:k_liars_that_fit≤k) (e_NoFit:mg "NoFit" = some (.ref C_NoFit)∧z4n K C_NoFit) (m_range:mg "range" = none) (m_all:mg "all" = none):FnOk P w K mg base (CXr P w) (k+1) f fd ["many", "sayings"] (spX K (z3j f_liars_that_fit C_NoFit)):=by
  unfold z3j z55
  exact zru F sc_surely_true fun cdv A outer s H E hr =>
    (z5o (zp2 (i:=2) sc_surely_true.nd rfl (Or.inr rfl) (zmz D_liars_that_fit (hr.mono h_liars_that_fit) (zmy (z00 (z01 0) (z00 (z01 1) z08)))))
    (z5o (zdk (zdj (z8i (z4t (z01 2))))
      (z6g (zei zp5 e_NoFit.1 e_NoFit.2))
      z9m)
    (zgs (z0c (z16 (z5p (own:=["teller"]) (cap:=[("lists",2)]) (z4o rfl) (z2y m_range (z01 0))
      (fun _ _ _ _ _=>(z0b (i:=0) z9a rfl (Or.inr rfl))) (fun _ _ _ _ _=>(z7j (z4t (zpb m_all (z5p (own:=["liars"]) (cap:=[("teller",0)]) (z4o rfl) (z2z (z01 1))
      (fun _ _ _ _ _=>(z0b (i:=0) z99 rfl (Or.inl rfl))) (fun _ _ _ _ _=>z52)
      (fun _ _ _ _ _=>(zgz (z01 1) (z01 0))))))))
      (fun _ _ _ _ _=>(z01 0))))))))
theorem sc_says_true:FnScope ["truths", "sayings", "i", "j", "true"] ["truths", "sayings", "i", "j"] (z06 (top 15)):=⟨rfl,rfl,rfl,by decide +kernel,rfl,by decide +kernel,by decide +kernel⟩
noncomputable def z62:SV :=
    (z1i (z36 (v2 fEq (v2 fIx (z05 0) (z05 2)) (v2 fIx (z05 0) (z05 3))) (z02 4))
    (z1i (zbs (v2l zea (z05 1) (vL ziz (z03 (z05 2) (z03 (z05 3) (z03 (z05 4) z1f))))))
    (z67 (z05 4))))
noncomputable def z1b:List D→M→Option (D×M):=zb7 5 4 (z62)
theorem zcy {k:Nat} (F:Fun K "says_true" "says_true" (top 15) f fd):FnOk P w K mg base CX0 (k+1) f fd ["truths", "sayings", "i", "j"] (spM K (z1b)):=by
  unfold z1b z62
  exact zgi F sc_says_true fun cdv A outer s H E hr =>
    (z07 (z0h (i:=4) sc_says_true.nd rfl (Or.inl rfl) (zlq hr (z6w (z01 0) (z01 2)) (z6w (z01 0) (z01 3))))
    (z07 (z7g (zh5 (z01 1) (zgx (z00 (z01 2) (z00 (z01 3) (z00 (z01 4) z08))))))
    (z0c (z16 (z01 4)))))
theorem sc_upmost_at_last:FnScope ["truths", "sayings", "pile", "teller"] ["truths", "sayings"] (z06 (top 16)):=⟨rfl,rfl,rfl,by decide +kernel,rfl,by decide +kernel,by decide +kernel⟩
noncomputable def z3g (f_says_true:List D→M→Option (D×M)):SV :=
    (z1i (z36 (vL zd4 z1f) (z02 2))
    (z1i (zjq (ivR (v1 z5m (z05 0))) (z02 3)
      (sIf (bOr (zjv (zgp (z05 2))) (zgp (vL f_says_true (z03 (z05 0) (z03 (z05 1) (z03 (v2 fIx (z05 2) (v1 zmk (vC (.int 1)))) (z03 (z05 3) z1f)))))))
        (zbs (v2l zea (z05 2) (z05 3)))
        (zbs (v1l zsx (z05 2)))))
    (z67 (v2 fIx (z05 2) (v1 zmk (vC (.int 1)))))))
noncomputable def z11 (f_says_true:List D→M→Option (D×M)):List D→M→Option (D×M):=zb7 4 2 (z3g f_says_true)
theorem z84 {f_says_true:List D→M→Option (D×M)} {k_says_true k:Nat} (F:Fun K "upmost_at_last" "upmost_at_last" (top 16) f fd) (D_says_true:Df P w K mg base k_says_true "says_true" ["truths", "sayings", "i", "j"] (spM K f_says_true)) (h_says_true:k_says_true≤k) (m_len:mg "len" = none) (m_range:mg "range" = none):FnOk P w K mg base CX0 (k+1) f fd ["truths", "sayings"] (spM K (z11 f_says_true)):=by
  unfold z11 z3g
  exact zgi F sc_upmost_at_last fun cdv A outer s H E hr =>
    (z07 (z0h (i:=2) sc_upmost_at_last.nd rfl (Or.inl rfl) (zcl z08))
    (z07 (z8h PassesOwn.never rfl (z2y m_range (z5l m_len (z01 0))) (z0b (i:=3) sc_upmost_at_last.nd rfl (Or.inl rfl))
      (z0c (z58 (PW.pt (zn0 (z8i (z4t (z01 2))) (zgu (z4t (z53 D_says_true (hr.mono h_says_true) (z00 (z01 0) (z00 (z01 1) (z00 (z6w (z01 2) (zjx z09)) (z00 (z01 3) z08)))))))))
        (z0c (z7g (zh5 (z01 2) (z01 3))))
        (z0c (z7g (zt2 (z01 2)))))))
    (z0c (z16 (z6w (z01 2) (zjx z09))))))
theorem sc_in_a_chain:FnScope ["truths", "sayings", "known", "upmost", "teller"] ["truths"] (z06 (top 17)):=⟨rfl,rfl,rfl,by decide +kernel,rfl,by decide +kernel,by decide +kernel⟩
noncomputable def z5g (f_upmost_at_last:List D→M→Option (D×M)) (f_says_true:List D→M→Option (D×M)) (C_NoFit:Addr):SX :=
    (z6l (zkm (upB (vT (v2 fGe (v2 z1g (vC (.int 2)) (v2l z61 (z05 0) (vC (.bl false)))) (v1 z5m (z05 0)))))
      (zet C_NoFit (vC (.str "fewer than half must lie")))
      (upS sNx))
    (upS (z1i (zpw 1 2 (z03 (vL zd4 z1f) (z03 (vL zd4 z1f) z1f)))
    (z1i (z36 (vL f_upmost_at_last (z03 (z05 0) (z03 (z05 1) z1f))) (z02 3))
    (z1i (zjq (ivR (v1 z5m (z05 0))) (z02 4)
      (zbs (v2l zea (z05 2) (vOr (v2 fEq (z05 4) (z05 3)) (vL f_says_true (z03 (z05 0) (z03 (z05 1) (z03 (z05 3) (z03 (z05 4) z1f)))))))))
    (z67 (vL ziz (z03 (z05 1) (z03 (z05 2) z1f)))))))))
noncomputable def z4p (f_upmost_at_last:List D→M→Option (D×M)) (f_says_true:List D→M→Option (D×M)) (C_NoFit:Addr):FX:=zjr 5 1 (z5g f_upmost_at_last f_says_true C_NoFit)
theorem zby {f_upmost_at_last f_says_true:List D→M→Option (D×M)} {k_upmost_at_last k_says_true k:Nat} {C_NoFit:Addr} (F:Fun K "in_a_chain" "in_a_chain" (top 17) f fd) (D_upmost_at_last:Df P w K mg base k_upmost_at_last "upmost_at_last" ["truths", "sayings"] (spM K f_upmost_at_last)) (h_upmost_at_last:k_upmost_at_last≤k) (D_says_true:Df P w K mg base k_says_true "says_true" ["truths", "sayings", "i", "j"] (spM K f_says_true)) (h_says_true:k_says_true≤k) (e_NoFit:mg "NoFit" = some (.ref C_NoFit)∧z4n K C_NoFit) (m_len:mg "len" = none) (m_range:mg "range" = none):FnOk P w K mg base (CXr P w) (k+1) f fd ["truths"] (spX K (z4p f_upmost_at_last f_says_true C_NoFit)):=by
  unfold z4p z5g
  exact zru F sc_in_a_chain fun cdv A outer s H E hr =>
    (z5o (zdk (zdj (zjz (z2o z09 (z9o (z01 0) zaz)) (z5l m_len (z01 0))))
      (z6g (zei zp5 e_NoFit.1 e_NoFit.2))
      z9m)
    (zgs (z07 (zp4 (i:=1) (j:=2) sc_in_a_chain.nd rfl rfl (by decide) (z00 (zcl z08) (z00 (zcl z08) z08)))
    (z07 (z0h (i:=3) sc_in_a_chain.nd rfl (Or.inl rfl) (z53 D_upmost_at_last (hr.mono h_upmost_at_last) (z00 (z01 0) (z00 (z01 1) z08))))
    (z07 (z8h PassesOwn.never rfl (z2y m_range (z5l m_len (z01 0))) (z0b (i:=4) sc_in_a_chain.nd rfl (Or.inl rfl))
      (z0c (z7g (zh5 (z01 2) (zv4 (zlq hr (z01 4) (z01 3)) (zn2 (z53 D_says_true (hr.mono h_says_true) (z00 (z01 0) (z00 (z01 1) (z00 (z01 3) (z00 (z01 4) z08)))))))))))
    (z0c (z16 (zgx (z00 (z01 1) (z00 (z01 2) z08))))))))))
end
section
variable {P:Program} {w:World} {K:PySem.W.Frag} {mg:Str→Option Value} {base:Heap} {f:Addr} {fd:FuncData}
theorem zap:FnScope ["script", "k"] ["script", "k"] (z06 (top 19)):=⟨rfl,rfl,rfl,by decide +kernel,rfl,by decide +kernel,by decide +kernel⟩
noncomputable def z3l:SV :=
    (z1i (sIf (vT (v2 fLt (z05 1) (v1 z5m (z05 0))))
      (z67 (v2 fIx (z05 0) (z05 1)))
      sNx)
    (z67 (vC (.int 0))))
noncomputable def z1d:List D→M→Option (D×M):=zb7 2 2 (z3l)
theorem zat {k:Nat} (F:Fun K "_law_cell_at" "_law_cell_at" (top 19) f fd) (m_len:mg "len" = none):FnOk P w K mg base CX0 (k+1) f fd ["script", "k"] (spM K (z1d)):=by
  unfold z1d z3l
  exact zgi F zap fun cdv A outer s H E hr =>
    (z07 (z58 (zh2 (z01 1) (z5l m_len (z01 0)))
      (z0c (z16 (z6w (z01 0) (z01 1))))
      z2t)
    (z0c (z16 z09)))
theorem zdr:FnScope ["cell"] ["cell"] (z06 (top 20)):=⟨rfl,rfl,rfl,by decide +kernel,rfl,by decide +kernel,by decide +kernel⟩
noncomputable def z6r:SV :=
    (z67 (vL zd4 (z03 (v2 zsy (vC (.int 0)) (v2 zrw (z05 0) (v2 zuz (vC (.int 10)) (vC (.int 18))))) (z03 (v2 zjt (z05 0) (vC (.int 2147483629))) (z03 (vC (.int 0)) z1f)))))
noncomputable def z3d:List D→M→Option (D×M):=zb7 1 1 (z6r)
theorem zdx {k:Nat} (F:Fun K "_law_deck" "_law_deck" (top 20) f fd) (m_max:mg "max" = none):FnOk P w K mg base CX0 (k+1) f fd ["cell"] (spM K (z3d)):=by
  unfold z3d z6r
  exact zgi F zdr fun cdv A outer s H E hr =>
    (z0c (z16 (zcl (z00 (zp7 m_max z09 (zn1 (z01 0) (zt1 z09 z09))) (z00 (zcm (z01 0) z09) (z00 z09 z08))))))
theorem sc_law_take:FnScope ["deck", "many", "digit", "stir"] ["deck", "many"] (z06 (top 21)):=⟨rfl,rfl,rfl,by decide +kernel,rfl,by decide +kernel,by decide +kernel⟩
noncomputable def z5f:SV :=
    (z1i (z36 (v2 z3e (v2 fIx (z05 0) (vC (.int 2))) (vC (.int 1))) (zir (z05 0) (vC (.int 2))))
    (z1i (sIf (vT (v2 fGt (v2 fIx (z05 0) (vC (.int 0))) (vC (.int 0))))
      (z1i (z36 (v2 zjt (v2 fIx (z05 0) (vC (.int 0))) (vC (.int 65536))) (z02 2))
      (z1i (z36 (v2 zry (v2 fIx (z05 0) (vC (.int 0))) (vC (.int 65536))) (zir (z05 0) (vC (.int 0))))
      (z67 (v2 zjt (z05 2) (z05 1)))))
      sNx)
    (z1i (z36 (v2 zjt (v2 z1g (v2 z3e (v2 fIx (z05 0) (vC (.int 1))) (v2 z1g (vC (.int 7919)) (v2 fIx (z05 0) (vC (.int 2))))) (vC (.int 48271))) (vC (.int 2147483647))) (z02 3))
    (z1i (z36 (v2 zjt (v2 z1g (z05 3) (z05 3)) (vC (.int 2147483629))) (z02 3))
    (z67 (v2 zjt (v2 zry (v2 zjt (v2 z1g (v2 z3e (z05 3) (v2 z1g (vC (.int 40692)) (v2 fIx (z05 0) (vC (.int 2))))) (vC (.int 69621))) (vC (.int 2147483563))) (vC (.int 8))) (z05 1)))))))
noncomputable def z0a:List D→M→Option (D×M):=zb7 4 2 (z5f)
theorem zdw {k:Nat} (F:Fun K "_law_take" "_law_take" (top 21) f fd):FnOk P w K mg base CX0 (k+1) f fd ["deck", "many"] (spM K (z0a)):=by
  unfold z0a z5f
  exact zgi F sc_law_take fun cdv A outer s H E hr =>
    (z07 (zgw (z3m (z6w (z01 0) z09) z09) (zlo (z01 0) z09))
    (z07 (z58 (zp8 (z6w (z01 0) z09) z09)
      (z07 (z0h (i:=2) sc_law_take.nd rfl (Or.inl rfl) (zcm (z6w (z01 0) z09) z09))
      (z07 (zgw (zh3 (z6w (z01 0) z09) z09) (zlo (z01 0) z09))
      (z0c (z16 (zcm (z01 2) (z01 1))))))
      z2t)
    (z07 (z0h (i:=3) sc_law_take.nd rfl (Or.inl rfl) (zcm (z2o (z3m (z6w (z01 0) z09) (z2o z09 (z6w (z01 0) z09))) z09) z09))
    (z07 (z0h (i:=3) sc_law_take.nd rfl (Or.inl rfl) (zcm (z2o (z01 3) (z01 3)) z09))
    (z0c (z16 (zcm (zh3 (zcm (z2o (z3m (z01 3) (z2o z09 (z6w (z01 0) z09))) z09) z09) z09) (z01 1))))))))
theorem sc_law_sayings:FnScope ["deck", "many", "truths", "way", "found", "turn", "i", "j", "said"] ["deck", "many"] (z06 (top 22)):=⟨rfl,rfl,rfl,by decide +kernel,rfl,by decide +kernel,by decide +kernel⟩
theorem z9b:((["teller"]:List Str)++([("deck",0)]:List (Str×Nat)).map (·.1)).Nodup:=by decide +kernel
noncomputable def z56 (f_law_take:List D→M→Option (D×M)):SV :=
    (z1i (z36 (z4u ["teller"] [("deck",0)] (ivR (z05 1)) (z02 0) z96 (v2 fGt (vL f_law_take (z03 (z05 1) (z03 (vC (.int 3)) z1f))) (vC (.int 0)))) (z02 2))
    (z1i (z36 (vL f_law_take (z03 (z05 0) (z03 (vC (.int 3)) z1f))) (z02 3))
    (z1i (z36 (vL zd4 z1f) (z02 4))
    (z1i (zjq (ivR (v2 z1g (vL f_law_take (z03 (z05 0) (z03 (v2 fIx (vL zav (z03 (vC (.int 6)) (z03 (vC (.int 31)) z1f))) (vL f_law_take (z03 (z05 0) (z03 (vC (.int 2)) z1f)))) z1f))) (v1 zgl (v2 fGt (z05 1) (vC (.int 1)))))) (z02 5)
      (z1i (z36 (vL f_law_take (z03 (z05 0) (z03 (z05 1) z1f))) (z02 6))
      (z1i (z36 (v2 zjt (v2 z3e (v2 z3e (z05 6) (vC (.int 1))) (vL f_law_take (z03 (z05 0) (z03 (v2 zrw (z05 1) (vC (.int 1))) z1f)))) (z05 1)) (z02 7))
      (z1i (z36 (v2 fIx (z05 2) (z05 7)) (z02 8))
      (z1i (sIf (zjv (zgp (v2 fIx (z05 2) (z05 6))))
        (z36 (v2 fIx (vL zav (z03 (v1 zol (z05 8)) (z03 (v2 fEq (vL f_law_take (z03 (z05 0) (z03 (vC (.int 2)) z1f))) (vC (.int 0))) (z03 (z05 8) z1f)))) (z05 3)) (z02 8))
        sNx)
      (z1i (sIf (vT (v2 fEq (vL f_law_take (z03 (z05 0) (z03 (vC (.int 30)) z1f))) (vC (.int 0))))
        (z36 (v1 zol (z05 8)) (z02 8))
        sNx)
      (zbs (v2l zea (z05 4) (vL ziz (z03 (z05 6) (z03 (z05 7) (z03 (z05 8) z1f))))))))))))
    (z67 (z05 4))))))
noncomputable def z1c (f_law_take:List D→M→Option (D×M)):List D→M→Option (D×M):=zb7 9 2 (z56 f_law_take)
theorem zas {f_law_take:List D→M→Option (D×M)} {k_law_take k:Nat} (F:Fun K "_law_sayings" "_law_sayings" (top 22) f fd) (D_law_take:Df P w K mg base k_law_take "_law_take" ["deck", "many"] (spM K f_law_take)) (h_law_take:k_law_take≤k) (m_range:mg "range" = none) (m_int:mg "int" = none):FnOk P w K mg base CX0 (k+1) f fd ["deck", "many"] (spM K (z1c f_law_take)):=by
  unfold z1c z56
  exact zgi F sc_law_sayings fun cdv A outer s H E hr =>
    (z07 (z57 (i:=2) sc_law_sayings.nd rfl rfl (own:=["teller"]) (cap:=[("deck",0)]) (z4o rfl) (z2y m_range (z01 1))
      (fun _ _ _ _ _=>(z0b (i:=0) z9b rfl (Or.inl rfl))) (fun _ _ _ _ _=>z52)
      (fun _ _ _ _ _=>(zug (z53 D_law_take (hr.mono h_law_take) (z00 (z01 1) (z00 z09 z08))) z09)))
    (z07 (z0h (i:=3) sc_law_sayings.nd rfl (Or.inl rfl) (z53 D_law_take (hr.mono h_law_take) (z00 (z01 0) (z00 z09 z08))))
    (z07 (z0h (i:=4) sc_law_sayings.nd rfl (Or.inl rfl) (zcl z08))
    (z07 (z8h PassesOwn.never rfl (z2y m_range (z2o (z53 D_law_take (hr.mono h_law_take) (z00 (z01 0) (z00 (z6w (z6v (z00 z09 (z00 z09 z08))) (z53 D_law_take (hr.mono h_law_take) (z00 (z01 0) (z00 z09 z08)))) z08))) (zlp m_int (zug (z01 1) z09)))) (z0b (i:=5) sc_law_sayings.nd rfl (Or.inl rfl))
      (z07 (z0h (i:=6) sc_law_sayings.nd rfl (Or.inl rfl) (z53 D_law_take (hr.mono h_law_take) (z00 (z01 0) (z00 (z01 1) z08))))
      (z07 (z0h (i:=7) sc_law_sayings.nd rfl (Or.inl rfl) (zcm (z3m (z3m (z01 6) z09) (z53 D_law_take (hr.mono h_law_take) (z00 (z01 0) (z00 (zn1 (z01 1) z09) z08)))) (z01 1)))
      (z07 (z0h (i:=8) sc_law_sayings.nd rfl (Or.inl rfl) (z6w (z01 2) (z01 7)))
      (z07 (z58 (z8i (z4t (z6w (z01 2) (z01 6))))
        (z0c (z0h (i:=8) sc_law_sayings.nd rfl (Or.inl rfl) (z6w (z6v (z00 (zp6 (z01 8)) (z00 (zlq hr (z53 D_law_take (hr.mono h_law_take) (z00 (z01 0) (z00 z09 z08))) z09) (z00 (z01 8) z08)))) (z01 3))))
        z2t)
      (z07 (z58 (zh4 hr (z53 D_law_take (hr.mono h_law_take) (z00 (z01 0) (z00 z09 z08))) z09)
        (z0c (z0h (i:=8) sc_law_sayings.nd rfl (Or.inl rfl) (zp6 (z01 8))))
        z2t)
      (z0c (z7g (zh5 (z01 4) (zgx (z00 (z01 6) (z00 (z01 7) (z00 (z01 8) z08)))))))))))))
    (z0c (z16 (z01 4)))))))
theorem sc_law_truths:FnScope ["deck", "most", "size", "many", "half", "liars", "found", "way", "left"] ["deck", "most"] (z06 (top 24)):=⟨rfl,rfl,rfl,by decide +kernel,rfl,by decide +kernel,by decide +kernel⟩
theorem za2:((["k"]:List Str)++([("liars",5)]:List (Str×Nat)).map (·.1)).Nodup:=by decide +kernel
theorem za1:((["k"]:List Str)++([("left",8),("deck",0)]:List (Str×Nat)).map (·.1)).Nodup:=by decide +kernel
noncomputable def z5e (f_law_take:List D→M→Option (D×M)):SV :=
    (z1i (z36 (v2 fIx (vL zav (z03 (vC (.int 0)) (z03 (vC (.int 0)) (z03 (vC (.int 0)) (z03 (vC (.int 0)) (z03 (vC (.int 0)) (z03 (vC (.int 1)) (z03 (vC (.int 1)) (z03 (vC (.int 2)) z1f))))))))) (vL f_law_take (z03 (z05 0) (z03 (vC (.int 8)) z1f)))) (z02 2))
    (z1i (z36 (v2 fIx (vL zav (z03 (vL f_law_take (z03 (z05 0) (z03 (vC (.int 8)) z1f))) (z03 (vL f_law_take (z03 (z05 0) (z03 (vC (.int 41)) z1f))) (z03 (z05 1) z1f)))) (z05 2)) (z02 3))
    (z1i (z36 (v2 zsy (vC (.int 0)) (v2 zry (v2 zrw (z05 3) (vC (.int 1))) (vC (.int 2)))) (z02 4))
    (z1i (z36 (v2 fIx (vL zav (z03 (vL f_law_take (z03 (z05 0) (z03 (v2 z3e (z05 4) (vC (.int 1))) z1f))) (z03 (z05 4) (z03 (v2 z3e (z05 4) (vC (.int 1))) (z03 (vL f_law_take (z03 (z05 0) (z03 (v2 z3e (z05 3) (vC (.int 1))) z1f))) z1f))))) (vL f_law_take (z03 (z05 0) (z03 (vC (.int 4)) z1f)))) (z02 5))
    (z1i (z36 (z4u ["k"] [("liars",5)] (ivR (z05 3)) (z02 0) z96 (v2 fGe (z05 0) (z05 1))) (z02 6))
    (z1i (z36 (vL f_law_take (z03 (z05 0) (z03 (vC (.int 4)) z1f))) (z02 7))
    (z1i (sIf (vT (v2 fEq (z05 7) (vC (.int 0))))
      (z67 (z05 6))
      sNx)
    (z1i (sIf (vT (v2 fEq (z05 7) (vC (.int 1))))
      (z67 (v1 zrx (z05 6)))
      sNx)
    (z1i (z36 (v1 zfe (z05 6)) (z02 8))
    (z67 (z4u ["k"] [("left",8),("deck",0)] (ivR (z05 3)) (z02 0) z96 (v2l zaa (z05 1) (vL f_law_take (z03 (z05 2) (z03 (v1 z5m (z05 1)) z1f)))))))))))))))
noncomputable def z2m (f_law_take:List D→M→Option (D×M)):List D→M→Option (D×M):=zb7 9 2 (z5e f_law_take)
theorem zbx {f_law_take:List D→M→Option (D×M)} {k_law_take k:Nat} (F:Fun K "_law_truths" "_law_truths" (top 24) f fd) (D_law_take:Df P w K mg base k_law_take "_law_take" ["deck", "many"] (spM K f_law_take)) (h_law_take:k_law_take≤k) (m_max:mg "max" = none) (m_range:mg "range" = none) (m_list:mg "list" = none) (m_len:mg "len" = none):FnOk P w K mg base CX0 (k+1) f fd ["deck", "most"] (spM K (z2m f_law_take)):=by
  unfold z2m z5e
  exact zgi F sc_law_truths fun cdv A outer s H E hr =>
    (z07 (z0h (i:=2) sc_law_truths.nd rfl (Or.inl rfl) (z6w (z6v (z00 z09 (z00 z09 (z00 z09 (z00 z09 (z00 z09 (z00 z09 (z00 z09 (z00 z09 z08))))))))) (z53 D_law_take (hr.mono h_law_take) (z00 (z01 0) (z00 z09 z08)))))
    (z07 (z0h (i:=3) sc_law_truths.nd rfl (Or.inl rfl) (z6w (z6v (z00 (z53 D_law_take (hr.mono h_law_take) (z00 (z01 0) (z00 z09 z08))) (z00 (z53 D_law_take (hr.mono h_law_take) (z00 (z01 0) (z00 z09 z08))) (z00 (z01 1) z08)))) (z01 2)))
    (z07 (z0h (i:=4) sc_law_truths.nd rfl (Or.inl rfl) (zp7 m_max z09 (zh3 (zn1 (z01 3) z09) z09)))
    (z07 (z0h (i:=5) sc_law_truths.nd rfl (Or.inr rfl) (z6w (z6v (z00 (z53 D_law_take (hr.mono h_law_take) (z00 (z01 0) (z00 (z3m (z01 4) z09) z08))) (z00 (z01 4) (z00 (z3m (z01 4) z09) (z00 (z53 D_law_take (hr.mono h_law_take) (z00 (z01 0) (z00 (z3m (z01 3) z09) z08))) z08))))) (z53 D_law_take (hr.mono h_law_take) (z00 (z01 0) (z00 z09 z08)))))
    (z07 (z57 (i:=6) sc_law_truths.nd rfl rfl (own:=["k"]) (cap:=[("liars",5)]) (z4o rfl) (z2y m_range (z01 3))
      (fun _ _ _ _ _=>(z0b (i:=0) za2 rfl (Or.inl rfl))) (fun _ _ _ _ _=>z52)
      (fun _ _ _ _ _=>(zuh (z01 0) (z01 1))))
    (z07 (z0h (i:=7) sc_law_truths.nd rfl (Or.inl rfl) (z53 D_law_take (hr.mono h_law_take) (z00 (z01 0) (z00 z09 z08))))
    (z07 (z58 (zh4 hr (z01 7) z09)
      (z0c (z16 (z01 6)))
      z2t)
    (z07 (z58 (zh4 hr (z01 7) z09)
      (z0c (z16 (zt0 (z01 6))))
      z2t)
    (z07 (z0h (i:=8) sc_law_truths.nd rfl (Or.inr rfl) (zn3 m_list (z01 6)))
    (z0c (z16 (z5p (own:=["k"]) (cap:=[("left",8),("deck",0)]) (z4o rfl) (z2y m_range (z01 3))
      (fun _ _ _ _ _=>(z0b (i:=0) za1 rfl (Or.inl rfl))) (fun _ _ _ _ _=>z52)
      (fun _ _ _ _ _=>(zgy (z01 1) (z53 D_law_take (hr.mono h_law_take) (z00 (z01 2) (z00 (z5l m_len (z01 1)) z08)))))))))))))))))
theorem sc_law_chain_right:FnScope ["truths", "sayings", "known"] ["truths"] (z06 (top 25)):=⟨rfl,rfl,rfl,by decide +kernel,rfl,by decide +kernel,by decide +kernel⟩
theorem z2r:((["i", "j", "said"]:List Str)++([("truths",0)]:List (Str×Nat)).map (·.1)).Nodup:=by decide +kernel
noncomputable def z34 (f_in_a_chain:List D→M→Option (D×M)):SV :=
    (z1i (z36 (vL f_in_a_chain (z03 (z05 0) z1f)) (z7a 2 (z32 (z02 1) (z32 (z02 2) zc9))))
    (z1i (sIf (bOr (vT (v2 fNe (z05 2) (z05 0))) (vT (v2 fGe (v1 z5m (z05 1)) (v2 z1g (vC (.int 2)) (v1 z5m (z05 0))))))
      (z67 (vC (.bl false)))
      sNx)
    (z67 (v1 zrz (z4u ["i", "j", "said"] [("truths",0)] (ivL (z05 1)) (z7a 3 (z32 (z02 0) (z32 (z02 1) (z32 (z02 2) zc9)))) z96 (zsl (v2 fNe (z05 0) (z05 1)) (v2 fEq (z05 2) (v2 fEq (v2 fIx (z05 3) (z05 0)) (v2 fIx (z05 3) (z05 1))))))))))
noncomputable def z0y (f_in_a_chain:List D→M→Option (D×M)):List D→M→Option (D×M):=zb7 3 1 (z34 f_in_a_chain)
theorem z75 {f_in_a_chain:List D→M→Option (D×M)} {k_in_a_chain k:Nat} (F:Fun K "_law_chain_right" "_law_chain_right" (top 25) f fd) (D_in_a_chain:Df P w K mg base k_in_a_chain "in_a_chain" ["truths"] (spM K f_in_a_chain)) (h_in_a_chain:k_in_a_chain≤k) (m_len:mg "len" = none) (m_all:mg "all" = none):FnOk P w K mg base CX0 (k+1) f fd ["truths"] (spM K (z0y f_in_a_chain)):=by
  unfold z0y z34
  exact zgi F sc_law_chain_right fun cdv A outer s H E hr =>
    (z07 (zgw (z53 D_in_a_chain (hr.mono h_in_a_chain) (z00 (z01 0) z08)) (zax (n:=2) (z19 (z0b (i:=1) sc_law_chain_right.nd rfl (Or.inl rfl)) (z19 (z0b (i:=2) sc_law_chain_right.nd rfl (Or.inl rfl)) z7k))))
    (z07 (z58 (PW.pt (zn0 (zh0 hr (z01 2) (z01 0)) (zgu (zjz (z5l m_len (z01 1)) (z2o z09 (z5l m_len (z01 0)))))))
      (z0c (z16 zaz))
      z2t)
    (z0c (z16 (zpb m_all (z5p (own:=["i", "j", "said"]) (cap:=[("truths",0)]) (z4o rfl) (z2z (z01 1))
      (fun _ _ _ _ _=>(zax (n:=3) (z19 (z0b (i:=0) z2r rfl (Or.inl rfl)) (z19 (z0b (i:=1) z2r rfl (Or.inl rfl)) (z19 (z0b (i:=2) z2r rfl (Or.inl rfl)) z7k))))) (fun _ _ _ _ _=>z52)
      (fun _ _ _ _ _=>(zpa (zuf hr (z01 0) (z01 1)) (zn2 (zlq hr (z01 2) (zlq hr (z6w (z01 3) (z01 0)) (z6w (z01 3) (z01 1)))))))))))))
theorem sc_law_small_right:FnScope ["deck", "truths", "many", "sayings", "liars", "some", "lists", "more", "one", "turned"] ["deck", "truths"] (z06 (top 26)):=⟨rfl,rfl,rfl,by decide +kernel,rfl,by decide +kernel,by decide +kernel⟩
theorem z6e:((["teller"]:List Str)++([("truths",1)]:List (Str×Nat)).map (·.1)).Nodup:=by decide +kernel
theorem z6d:((["teller"]:List Str)++([("truths",1)]:List (Str×Nat)).map (·.1)).Nodup:=by decide +kernel
theorem z6c:((["one"]:List Str)++([("lists",6)]:List (Str×Nat)).map (·.1)).Nodup:=by decide +kernel
theorem z2q:((["i", "j", "said"]:List Str)++([("one",8)]:List (Str×Nat)).map (·.1)).Nodup:=by decide +kernel
noncomputable def z33 (f_in_a_chain:List D→M→Option (D×M)) (f_liars_that_fit:List D→M→Option (D×M)) (f_surely_true:List D→M→Option (D×M)) (f_law_sayings:List D→M→Option (D×M)):SV :=
    (z1i (z36 (v1 z5m (z05 1)) (z02 2))
    (z1i (z36 (v2 fIx (vL f_in_a_chain (z03 (z05 1) z1f)) (vC (.int 0))) (z02 3))
    (z1i (z36 (z4u ["teller"] [("truths",1)] (ivR (z05 2)) (z02 0) (zjv (zgp (v2 fIx (z05 1) (z05 0)))) (z05 0)) (z02 4))
    (z1i (sIf (vT (v2 z3f (z05 4) (vL f_liars_that_fit (z03 (z05 2) (z03 (z05 3) z1f)))))
      (z67 (vC (.bl false)))
      sNx)
    (z1i (sIf (vT (v2 fNe (vL f_surely_true (z03 (z05 2) (z03 (z05 3) z1f))) (z4u ["teller"] [("truths",1)] (ivR (z05 2)) (z02 0) (zgp (v2 fIx (z05 1) (z05 0))) (z05 0))))
      (z67 (vC (.bl false)))
      sNx)
    (z1i (z36 (vL f_law_sayings (z03 (z05 0) (z03 (z05 2) z1f))) (z02 5))
    (z1i (z36 (vL f_liars_that_fit (z03 (z05 2) (z03 (z05 5) z1f))) (z02 6))
    (z1i (z36 (vL f_liars_that_fit (z03 (z05 2) (z03 (v2 z3e (z05 5) (vSl (z05 3) zc1 (zcz (vC (.int 1))))) z1f))) (z02 7))
    (z1i (sIf (vT (v2 fNe (z4u ["one"] [("lists",6)] (ivL (z05 7)) (z02 0) (vT (v2 z3f (z05 0) (z05 1))) (z05 0)) (vL zav z1f)))
      (z67 (vC (.bl false)))
      sNx)
    (z1i (zjq (ivL (v2 z3e (vSl (z05 6) zc1 (zcz (vC (.int 1)))) (vSl (z05 6) (zcz (v1 zmk (vC (.int 1)))) zc1))) (z02 8)
      (z1i (z36 (z4u ["i", "j", "said"] [("one",8)] (ivL (z05 5)) (z7a 3 (z32 (z02 0) (z32 (z02 1) (z32 (z02 2) zc9)))) z96 (vL ziz (z03 (z05 0) (z03 (z05 1) (z03 (v2 fNe (z05 2) (v2 (fIn false) (z05 0) (z05 3))) z1f))))) (z02 9))
      (sIf (vT (v2 z3f (z05 8) (vL f_liars_that_fit (z03 (z05 2) (z03 (z05 9) z1f)))))
        (z67 (vC (.bl false)))
        sNx)))
    (z67 (vC (.bl true)))))))))))))
noncomputable def z2g (f_in_a_chain:List D→M→Option (D×M)) (f_liars_that_fit:List D→M→Option (D×M)) (f_surely_true:List D→M→Option (D×M)) (f_law_sayings:List D→M→Option (D×M)):List D→M→Option (D×M):=zb7 10 2 (z33 f_in_a_chain f_liars_that_fit f_surely_true f_law_sayings)
theorem z74 {f_in_a_chain f_liars_that_fit f_surely_true f_law_sayings:List D→M→Option (D×M)} {k_in_a_chain k_liars_that_fit k_surely_true k_law_sayings k:Nat} (F:Fun K "_law_small_right" "_law_small_right" (top 26) f fd) (D_in_a_chain:Df P w K mg base k_in_a_chain "in_a_chain" ["truths"] (spM K f_in_a_chain)) (h_in_a_chain:k_in_a_chain≤k) (D_liars_that_fit:Df P w K mg base k_liars_that_fit "liars_that_fit" ["many", "sayings"] (spM K f_liars_that_fit)) (h_liars_that_fit:k_liars_that_fit≤k) (D_surely_true:Df P w K mg base k_surely_true "surely_true" ["many", "sayings"] (spM K f_surely_true)) (h_surely_true:k_surely_true≤k) (D_law_sayings:Df P w K mg base k_law_sayings "_law_sayings" ["deck", "many"] (spM K f_law_sayings)) (h_law_sayings:k_law_sayings≤k) (m_len:mg "len" = none) (m_range:mg "range" = none):FnOk P w K mg base CX0 (k+1) f fd ["deck", "truths"] (spM K (z2g f_in_a_chain f_liars_that_fit f_surely_true f_law_sayings)):=by
  unfold z2g z33
  exact zgi F sc_law_small_right fun cdv A outer s H E hr =>
    (z07 (z0h (i:=2) sc_law_small_right.nd rfl (Or.inl rfl) (z5l m_len (z01 1)))
    (z07 (z0h (i:=3) sc_law_small_right.nd rfl (Or.inl rfl) (z6w (z53 D_in_a_chain (hr.mono h_in_a_chain) (z00 (z01 1) z08)) z09))
    (z07 (z57 (i:=4) sc_law_small_right.nd rfl rfl (own:=["teller"]) (cap:=[("truths",1)]) (z4o rfl) (z2y m_range (z01 2))
      (fun _ _ _ _ _=>(z0b (i:=0) z6e rfl (Or.inl rfl))) (fun _ _ _ _ _=>(z7j (z8i (z4t (z6w (z01 1) (z01 0))))))
      (fun _ _ _ _ _=>(z01 0)))
    (z07 (z58 (z9n hr (z01 4) (z53 D_liars_that_fit (hr.mono h_liars_that_fit) (z00 (z01 2) (z00 (z01 3) z08))))
      (z0c (z16 zaz))
      z2t)
    (z07 (z58 (zh0 hr (z53 D_surely_true (hr.mono h_surely_true) (z00 (z01 2) (z00 (z01 3) z08))) (z5p (own:=["teller"]) (cap:=[("truths",1)]) (z4o rfl) (z2y m_range (z01 2))
      (fun _ _ _ _ _=>(z0b (i:=0) z6d rfl (Or.inl rfl))) (fun _ _ _ _ _=>(z7j (z4t (z6w (z01 1) (z01 0)))))
      (fun _ _ _ _ _=>(z01 0))))
      (z0c (z16 zaz))
      z2t)
    (z07 (z0h (i:=5) sc_law_small_right.nd rfl (Or.inl rfl) (z53 D_law_sayings (hr.mono h_law_sayings) (z00 (z01 0) (z00 (z01 2) z08))))
    (z07 (z0h (i:=6) sc_law_small_right.nd rfl (Or.inr rfl) (z53 D_liars_that_fit (hr.mono h_liars_that_fit) (z00 (z01 2) (z00 (z01 5) z08))))
    (z07 (z0h (i:=7) sc_law_small_right.nd rfl (Or.inl rfl) (z53 D_liars_that_fit (hr.mono h_liars_that_fit) (z00 (z01 2) (z00 (z3m (z01 5) (zox (z01 3) z7i (z7h z09))) z08))))
    (z07 (z58 (zh0 hr (z5p (own:=["one"]) (cap:=[("lists",6)]) (z4o rfl) (z2z (z01 7))
      (fun _ _ _ _ _=>(z0b (i:=0) z6c rfl (Or.inl rfl))) (fun _ _ _ _ _=>(z7j (z9n hr (z01 0) (z01 1))))
      (fun _ _ _ _ _=>(z01 0))) (z6v z08))
      (z0c (z16 zaz))
      z2t)
    (z07 (z8h PassesOwn.never rfl (z2z (z3m (zox (z01 6) z7i (z7h z09)) (zox (z01 6) (z7h (zjx z09)) z7i))) (z0b (i:=8) sc_law_small_right.nd rfl (Or.inr rfl))
      (z07 (z57 (i:=9) sc_law_small_right.nd rfl rfl (own:=["i", "j", "said"]) (cap:=[("one",8)]) (z4o rfl) (z2z (z01 5))
      (fun _ _ _ _ _=>(zax (n:=3) (z19 (z0b (i:=0) z2q rfl (Or.inl rfl)) (z19 (z0b (i:=1) z2q rfl (Or.inl rfl)) (z19 (z0b (i:=2) z2q rfl (Or.inl rfl)) z7k))))) (fun _ _ _ _ _=>z52)
      (fun _ _ _ _ _=>(zgx (z00 (z01 0) (z00 (z01 1) (z00 (zuf hr (z01 2) (zv5 (z01 0) (z01 3))) z08))))))
      (z0c (z58 (z9n hr (z01 8) (z53 D_liars_that_fit (hr.mono h_liars_that_fit) (z00 (z01 2) (z00 (z01 9) z08))))
        (z0c (z16 zaz))
        z2t))))
    (z0c (z16 zaz))))))))))))
theorem sc_law_called_right:FnScope ["deck", "many", "sayings", "left", "order", "called", "due", "liars", "sure"] ["deck", "many", "sayings"] (z06 (top 27)):=⟨rfl,rfl,rfl,by decide +kernel,rfl,by decide +kernel,by decide +kernel⟩
theorem z5y:((["k"]:List Str)++([("left",3),("deck",0)]:List (Str×Nat)).map (·.1)).Nodup:=by decide +kernel
theorem z2i:((["i", "j", "said"]:List Str)++([("order",4)]:List (Str×Nat)).map (·.1)).Nodup:=by decide +kernel
theorem z5x:((["teller"]:List Str)++([("order",4)]:List (Str×Nat)).map (·.1)).Nodup:=by decide +kernel
theorem z5w:((["teller"]:List Str)++([("order",4)]:List (Str×Nat)).map (·.1)).Nodup:=by decide +kernel
noncomputable def z2s (f_law_take:List D→M→Option (D×M)) (f_liars_that_fit:List D→M→Option (D×M)) (f_surely_true:List D→M→Option (D×M)):SV :=
    (z1i (z36 (v1 zcb (z05 1)) (z02 3))
    (z1i (z36 (z4u ["k"] [("left",3),("deck",0)] (ivR (z05 1)) (z02 0) z96 (v2l zaa (z05 1) (vL f_law_take (z03 (z05 2) (z03 (v1 z5m (z05 1)) z1f))))) (z02 4))
    (z1i (z36 (z4u ["i", "j", "said"] [("order",4)] (ivL (z05 2)) (z7a 3 (z32 (z02 0) (z32 (z02 1) (z32 (z02 2) zc9)))) z96 (vL ziz (z03 (v2 fIx (z05 3) (z05 0)) (z03 (v2 fIx (z05 3) (z05 1)) (z03 (z05 2) z1f))))) (z02 5))
    (z1i (z36 (vL zd4 z1f) (z02 6))
    (z1i (zjq (ivL (vL f_liars_that_fit (z03 (z05 1) (z03 (z05 2) z1f)))) (z02 7)
      (zbs (v2l zea (z05 6) (v1 z7b (z4u ["teller"] [("order",4)] (ivL (z05 7)) (z02 0) z96 (v2 fIx (z05 1) (z05 0)))))))
    (z1i (z36 (v1 z5c (z05 6)) (z02 6))
    (z1i (sIf (bOr (vT (v2 fNe (vL f_liars_that_fit (z03 (z05 1) (z03 (z05 5) z1f))) (z05 6))) (vT (v2 fEq (z05 6) (vL zd4 z1f))))
      (z67 (zsl (v2 fEq (z05 6) (vL zd4 z1f)) (v2 fEq (vL f_liars_that_fit (z03 (z05 1) (z03 (z05 5) z1f))) (z05 6))))
      sNx)
    (z1i (z36 (v1 z7b (z4u ["teller"] [("order",4)] (ivL (vL f_surely_true (z03 (z05 1) (z03 (z05 2) z1f)))) (z02 0) z96 (v2 fIx (z05 1) (z05 0)))) (z02 8))
    (z67 (v2 fEq (vL f_surely_true (z03 (z05 1) (z03 (z05 5) z1f))) (z05 8)))))))))))
noncomputable def z2e (f_law_take:List D→M→Option (D×M)) (f_liars_that_fit:List D→M→Option (D×M)) (f_surely_true:List D→M→Option (D×M)):List D→M→Option (D×M):=zb7 9 3 (z2s f_law_take f_liars_that_fit f_surely_true)
theorem z6m {f_law_take f_liars_that_fit f_surely_true:List D→M→Option (D×M)} {k_law_take k_liars_that_fit k_surely_true k:Nat} (F:Fun K "_law_called_right" "_law_called_right" (top 27) f fd) (D_law_take:Df P w K mg base k_law_take "_law_take" ["deck", "many"] (spM K f_law_take)) (h_law_take:k_law_take≤k) (D_liars_that_fit:Df P w K mg base k_liars_that_fit "liars_that_fit" ["many", "sayings"] (spM K f_liars_that_fit)) (h_liars_that_fit:k_liars_that_fit≤k) (D_surely_true:Df P w K mg base k_surely_true "surely_true" ["many", "sayings"] (spM K f_surely_true)) (h_surely_true:k_surely_true≤k) (m_list:mg "list" = none) (m_range:mg "range" = none) (m_len:mg "len" = none) (m_sorted:mg "sorted" = none):FnOk P w K mg base CX0 (k+1) f fd ["deck", "many", "sayings"] (spM K (z2e f_law_take f_liars_that_fit f_surely_true)):=by
  unfold z2e z2s
  exact zgi F sc_law_called_right fun cdv A outer s H E hr =>
    (z07 (z0h (i:=3) sc_law_called_right.nd rfl (Or.inr rfl) (zjy m_list m_range (z01 1)))
    (z07 (z0h (i:=4) sc_law_called_right.nd rfl (Or.inr rfl) (z5p (own:=["k"]) (cap:=[("left",3),("deck",0)]) (z4o rfl) (z2y m_range (z01 1))
      (fun _ _ _ _ _=>(z0b (i:=0) z5y rfl (Or.inl rfl))) (fun _ _ _ _ _=>z52)
      (fun _ _ _ _ _=>(zgy (z01 1) (z53 D_law_take (hr.mono h_law_take) (z00 (z01 2) (z00 (z5l m_len (z01 1)) z08)))))))
    (z07 (z57 (i:=5) sc_law_called_right.nd rfl rfl (own:=["i", "j", "said"]) (cap:=[("order",4)]) (z4o rfl) (z2z (z01 2))
      (fun _ _ _ _ _=>(zax (n:=3) (z19 (z0b (i:=0) z2i rfl (Or.inl rfl)) (z19 (z0b (i:=1) z2i rfl (Or.inl rfl)) (z19 (z0b (i:=2) z2i rfl (Or.inl rfl)) z7k))))) (fun _ _ _ _ _=>z52)
      (fun _ _ _ _ _=>(zgx (z00 (z6w (z01 3) (z01 0)) (z00 (z6w (z01 3) (z01 1)) (z00 (z01 2) z08))))))
    (z07 (z0h (i:=6) sc_law_called_right.nd rfl (Or.inl rfl) (zcl z08))
    (z07 (z8h PassesOwn.never rfl (z2z (z53 D_liars_that_fit (hr.mono h_liars_that_fit) (z00 (z01 1) (z00 (z01 2) z08)))) (z0b (i:=7) sc_law_called_right.nd rfl (Or.inl rfl))
      (z0c (z7g (zh5 (z01 6) (zck m_sorted (z5p (own:=["teller"]) (cap:=[("order",4)]) (z4o rfl) (z2z (z01 7))
      (fun _ _ _ _ _=>(z0b (i:=0) z5x rfl (Or.inl rfl))) (fun _ _ _ _ _=>z52)
      (fun _ _ _ _ _=>(z6w (z01 1) (z01 0)))))))))
    (z07 (z0h (i:=6) sc_law_called_right.nd rfl (Or.inl rfl) (zcj hr m_sorted (z01 6)))
    (z07 (z58 (PW.pt (zn0 (zh0 hr (z53 D_liars_that_fit (hr.mono h_liars_that_fit) (z00 (z01 1) (z00 (z01 5) z08))) (z01 6)) (zgu (zh4 hr (z01 6) (zcl z08)))))
      (z0c (z16 (zpa (zlq hr (z01 6) (zcl z08)) (zn2 (zlq hr (z53 D_liars_that_fit (hr.mono h_liars_that_fit) (z00 (z01 1) (z00 (z01 5) z08))) (z01 6))))))
      z2t)
    (z07 (z0h (i:=8) sc_law_called_right.nd rfl (Or.inl rfl) (zck m_sorted (z5p (own:=["teller"]) (cap:=[("order",4)]) (z4o rfl) (z2z (z53 D_surely_true (hr.mono h_surely_true) (z00 (z01 1) (z00 (z01 2) z08))))
      (fun _ _ _ _ _=>(z0b (i:=0) z5w rfl (Or.inl rfl))) (fun _ _ _ _ _=>z52)
      (fun _ _ _ _ _=>(z6w (z01 1) (z01 0))))))
    (z0c (z16 (zlq hr (z53 D_surely_true (hr.mono h_surely_true) (z00 (z01 1) (z00 (z01 5) z08))) (z01 8))))))))))))
theorem sc_law:FnScope ["script", "cell", "deck", "truths", "small"] ["script"] (z06 (top 28)):=⟨rfl,rfl,rfl,by decide +kernel,rfl,by decide +kernel,by decide +kernel⟩
noncomputable def zj1 (f_law_cell_at:List D→M→Option (D×M)) (f_law_deck:List D→M→Option (D×M)) (f_law_truths:List D→M→Option (D×M)) (f_law_chain_right:List D→M→Option (D×M)) (f_law_take:List D→M→Option (D×M)) (f_law_small_right:List D→M→Option (D×M)) (f_law_sayings:List D→M→Option (D×M)) (f_law_called_right:List D→M→Option (D×M)):SV :=
    (z1i (zjq (ivL (v2 z3e (vSl (z05 0) zc1 (zcz (vC (.int 4)))) (vL zav (z03 (vL f_law_cell_at (z03 (z05 0) (z03 (vC (.int 0)) z1f))) z1f)))) (z02 1)
      (z1i (z36 (vL f_law_deck (z03 (z05 1) z1f)) (z02 2))
      (z1i (z36 (vL f_law_truths (z03 (z05 2) (z03 (vC (.int 200)) z1f))) (z02 3))
      (z1i (sIf (vT (v2 fGe (v2 z1g (vC (.int 2)) (v2l z61 (z05 3) (vC (.bl false)))) (v1 z5m (z05 3))))
        (z36 (v2 z3e (z05 3) (v2 z1g (vL zav (z03 (vC (.bl true)) z1f)) (v2 z3e (v1 z5m (z05 3)) (vC (.int 1))))) (z02 3))
        sNx)
      (z1i (z36 (vSl (z05 3) (zcz (v1 zmk (vC (.int 200)))) zc1) (z02 3))
      (z1i (sIf (vT (v2 fGe (v2 z1g (vC (.int 2)) (v2l z61 (z05 3) (vC (.bl false)))) (v1 z5m (z05 3))))
        (z36 (v2 z1g (vL zav (z03 (vC (.bl true)) z1f)) (vC (.int 200))) (z02 3))
        sNx)
      (z1i (sIf (zjv (zgp (vL f_law_chain_right (z03 (z05 3) z1f))))
        (z67 (vC (.bl false)))
        sNx)
      (z1i (z36 (vSl (z05 3) zc1 (zcz (v2 fIx (vL zav (z03 (vC (.int 3)) (z03 (vC (.int 7)) (z03 (vC (.int 10)) z1f)))) (vL f_law_take (z03 (z05 2) (z03 (vC (.int 3)) z1f)))))) (z02 4))
      (z1i (z36 (v2 z3e (z05 4) (v2 z1g (vL zav (z03 (vC (.bl true)) z1f)) (v1 zgl (v2 fGe (v2 z1g (vC (.int 2)) (v2l z61 (z05 4) (vC (.bl false)))) (v1 z5m (z05 4)))))) (z02 4))
      (sIf (zms (vT (z6x fLt fLt (vC (.int 0)) (v1 z5m (z05 4)) (vC (.int 11)))) (vT (v2 fLt (v2 z1g (vC (.int 2)) (v2l z61 (z05 4) (vC (.bl false)))) (v1 z5m (z05 4)))))
        (z1i (sIf (zjv (zgp (vL f_law_small_right (z03 (z05 2) (z03 (z05 4) z1f)))))
          (z67 (vC (.bl false)))
          sNx)
        (sIf (zjv (zgp (vL f_law_called_right (z03 (z05 2) (z03 (v1 z5m (z05 4)) (z03 (vL f_law_sayings (z03 (z05 2) (z03 (v1 z5m (z05 4)) z1f))) z1f))))))
          (z67 (vC (.bl false)))
          sNx))
        sNx))))))))))
    (z67 (vC (.bl true))))
noncomputable def zf4 (f_law_cell_at:List D→M→Option (D×M)) (f_law_deck:List D→M→Option (D×M)) (f_law_truths:List D→M→Option (D×M)) (f_law_chain_right:List D→M→Option (D×M)) (f_law_take:List D→M→Option (D×M)) (f_law_small_right:List D→M→Option (D×M)) (f_law_sayings:List D→M→Option (D×M)) (f_law_called_right:List D→M→Option (D×M)):List D→M→Option (D×M):=zb7 5 1 (zj1 f_law_cell_at f_law_deck f_law_truths f_law_chain_right f_law_take f_law_small_right f_law_sayings f_law_called_right)
theorem zr7 {f_law_cell_at f_law_deck f_law_truths f_law_chain_right f_law_take f_law_small_right f_law_sayings f_law_called_right:List D→M→Option (D×M)} {k_law_cell_at k_law_deck k_law_truths k_law_chain_right k_law_take k_law_small_right k_law_sayings k_law_called_right k:Nat} (F:Fun K "law" "law" (top 28) f fd) (D_law_cell_at:Df P w K mg base k_law_cell_at "_law_cell_at" ["script", "k"] (spM K f_law_cell_at)) (h_law_cell_at:k_law_cell_at≤k) (D_law_deck:Df P w K mg base k_law_deck "_law_deck" ["cell"] (spM K f_law_deck)) (h_law_deck:k_law_deck≤k) (D_law_truths:Df P w K mg base k_law_truths "_law_truths" ["deck", "most"] (spM K f_law_truths)) (h_law_truths:k_law_truths≤k) (D_law_chain_right:Df P w K mg base k_law_chain_right "_law_chain_right" ["truths"] (spM K f_law_chain_right)) (h_law_chain_right:k_law_chain_right≤k) (D_law_take:Df P w K mg base k_law_take "_law_take" ["deck", "many"] (spM K f_law_take)) (h_law_take:k_law_take≤k) (D_law_small_right:Df P w K mg base k_law_small_right "_law_small_right" ["deck", "truths"] (spM K f_law_small_right)) (h_law_small_right:k_law_small_right≤k) (D_law_sayings:Df P w K mg base k_law_sayings "_law_sayings" ["deck", "many"] (spM K f_law_sayings)) (h_law_sayings:k_law_sayings≤k) (D_law_called_right:Df P w K mg base k_law_called_right "_law_called_right" ["deck", "many", "sayings"] (spM K f_law_called_right)) (h_law_called_right:k_law_called_right≤k) (m_len:mg "len" = none) (m_int:mg "int" = none):FnOk P w K mg base CX0 (k+1) f fd ["script"] (spM K (zf4 f_law_cell_at f_law_deck f_law_truths f_law_chain_right f_law_take f_law_small_right f_law_sayings f_law_called_right)):=by
  unfold zf4 zj1
  exact zgi F sc_law fun cdv A outer s H E hr =>
    (z07 (z8h PassesOwn.never rfl (z2z (z3m (zox (z01 0) z7i (z7h z09)) (z6v (z00 (z53 D_law_cell_at (hr.mono h_law_cell_at) (z00 (z01 0) (z00 z09 z08))) z08)))) (z0b (i:=1) sc_law.nd rfl (Or.inl rfl))
      (z07 (z0h (i:=2) sc_law.nd rfl (Or.inl rfl) (z53 D_law_deck (hr.mono h_law_deck) (z00 (z01 1) z08)))
      (z07 (z0h (i:=3) sc_law.nd rfl (Or.inl rfl) (z53 D_law_truths (hr.mono h_law_truths) (z00 (z01 2) (z00 z09 z08))))
      (z07 (z58 (zjz (z2o z09 (z9o (z01 3) zaz)) (z5l m_len (z01 3)))
        (z0c (z0h (i:=3) sc_law.nd rfl (Or.inl rfl) (z3m (z01 3) (z2o (z6v (z00 zaz z08)) (z3m (z5l m_len (z01 3)) z09)))))
        z2t)
      (z07 (z0h (i:=3) sc_law.nd rfl (Or.inl rfl) (zox (z01 3) (z7h (zjx z09)) z7i))
      (z07 (z58 (zjz (z2o z09 (z9o (z01 3) zaz)) (z5l m_len (z01 3)))
        (z0c (z0h (i:=3) sc_law.nd rfl (Or.inl rfl) (z2o (z6v (z00 zaz z08)) z09)))
        z2t)
      (z07 (z58 (z8i (z4t (z53 D_law_chain_right (hr.mono h_law_chain_right) (z00 (z01 3) z08))))
        (z0c (z16 zaz))
        z2t)
      (z07 (z0h (i:=4) sc_law.nd rfl (Or.inl rfl) (zox (z01 3) z7i (z7h (z6w (z6v (z00 z09 (z00 z09 (z00 z09 z08)))) (z53 D_law_take (hr.mono h_law_take) (z00 (z01 2) (z00 z09 z08)))))))
      (z07 (z0h (i:=4) sc_law.nd rfl (Or.inl rfl) (z3m (z01 4) (z2o (z6v (z00 zaz z08)) (zlp m_int (zuh (z2o z09 (z9o (z01 4) zaz)) (z5l m_len (z01 4)))))))
      (z0c (z58 (PW.pt (zgv (zbm zi3 zku zi3 zku z09 (z5l m_len (z01 4)) z09) (zdl (zh2 (z2o z09 (z9o (z01 4) zaz)) (z5l m_len (z01 4))))))
        (z07 (z58 (z8i (z4t (z53 D_law_small_right (hr.mono h_law_small_right) (z00 (z01 2) (z00 (z01 4) z08)))))
          (z0c (z16 zaz))
          z2t)
        (z0c (z58 (z8i (z4t (z53 D_law_called_right (hr.mono h_law_called_right) (z00 (z01 2) (z00 (z5l m_len (z01 4)) (z00 (z53 D_law_sayings (hr.mono h_law_sayings) (z00 (z01 2) (z00 (z5l m_len (z01 4)) z08))) z08))))))
          (z0c (z16 zaz))
          z2t)))
        z2t)))))))))))
    (z0c (z16 zaz)))
end
theorem wpA:type_of% (And.intro @z2w (And.intro @z2x (And.intro @z8j (And.intro @z3u (And.intro @z1n (And.intro @z7p (And.intro @z3y (And.intro @z3w (And.intro @z3v (And.intro @z1o (And.intro @z7e (And.intro @z7m (And.intro @z7l (And.intro @z38 (And.intro @z1e (And.intro @w_c (And.intro @z18 (And.intro @z17 (And.intro @w_T (And.intro @z3z (And.intro @z40 (And.intro @z41 (And.intro @z8k (And.intro @w_Yes (And.intro @z1j (And.intro @z3n (And.intro @z3p (And.intro @z3q (And.intro @z7o (And.intro @z7n (And.intro @z7q (And.intro @z1a (And.intro @z1l (And.intro @z0l (And.intro @q1_ (And.intro @q2_ (And.intro @z7f (And.intro @qL_ (And.intro @qc_ (And.intro @z7z (And.intro @qT_ (And.intro @z1u (And.intro @z4a (And.intro @z28 (And.intro @z29 (And.intro @z47 (And.intro @z48 (And.intro @z4c (And.intro @z4d (And.intro @z46 (And.intro @z44 (And.intro @z45 (And.intro @z7y (And.intro @z7x (And.intro @z7w (And.intro @z7v (And.intro @z8p (And.intro @z10 (And.intro @z1w (And.intro @z1y (And.intro @z1x (And.intro @z8x (And.intro @z8r (And.intro @z39 (And.intro @z3a (And.intro @z6u (And.intro @z71 (And.intro @z8u (And.intro @z0u (And.intro @z0s (And.intro @z0t (And.intro @wp_some (And.intro @ws_some (And.intro @z2c (And.intro @z4g (And.intro @z8z (And.intro @z80 (And.intro @z90 (And.intro @z81 (And.intro @z82 (And.intro @z8y (And.intro @z4k (And.intro @z4h (And.intro @z4i (And.intro @z4j (And.intro @z3c (And.intro @z3b (And.intro @z2d (And.intro @z4b (And.intro @z8w (And.intro @z8t (And.intro @z8s (And.intro @z8q (And.intro @z3t (And.intro @z3s (And.intro @z1t (And.intro @z1s (And.intro @z3r (And.intro @z23 (And.intro @z24 (And.intro @z3o (And.intro @z0n (And.intro @z0o (And.intro @z1q (And.intro @z1r (And.intro @z21 (And.intro @z22 (And.intro @z1v (And.intro @z0q (And.intro @z0p (And.intro @z0r (And.intro @z1k (And.intro @z26 (And.intro @z27 (And.intro @z0m (And.intro @z1z (And.intro @z20 (And.intro @z4e (And.intro @z4f (And.intro @z25 (And.intro @z3x (And.intro @z49 (And.intro @z2a (And.intro @z2b (And.intro @z1p (And.intro @z0k (And.intro @z0d (And.intro @z0e (And.intro @z0f (And.intro @z8v (And.intro @z1m (@wt_some)))))))))))))))))))))))))))))))))))))))))))))))))))))))))))))))))))))))))))))))))))))))))))))))))))))))))))))))))))))))))))))))))))):=And.intro @z2w (And.intro @z2x (And.intro @z8j (And.intro @z3u (And.intro @z1n (And.intro @z7p (And.intro @z3y (And.intro @z3w (And.intro @z3v (And.intro @z1o (And.intro @z7e (And.intro @z7m (And.intro @z7l (And.intro @z38 (And.intro @z1e (And.intro @w_c (And.intro @z18 (And.intro @z17 (And.intro @w_T (And.intro @z3z (And.intro @z40 (And.intro @z41 (And.intro @z8k (And.intro @w_Yes (And.intro @z1j (And.intro @z3n (And.intro @z3p (And.intro @z3q (And.intro @z7o (And.intro @z7n (And.intro @z7q (And.intro @z1a (And.intro @z1l (And.intro @z0l (And.intro @q1_ (And.intro @q2_ (And.intro @z7f (And.intro @qL_ (And.intro @qc_ (And.intro @z7z (And.intro @qT_ (And.intro @z1u (And.intro @z4a (And.intro @z28 (And.intro @z29 (And.intro @z47 (And.intro @z48 (And.intro @z4c (And.intro @z4d (And.intro @z46 (And.intro @z44 (And.intro @z45 (And.intro @z7y (And.intro @z7x (And.intro @z7w (And.intro @z7v (And.intro @z8p (And.intro @z10 (And.intro @z1w (And.intro @z1y (And.intro @z1x (And.intro @z8x (And.intro @z8r (And.intro @z39 (And.intro @z3a (And.intro @z6u (And.intro @z71 (And.intro @z8u (And.intro @z0u (And.intro @z0s (And.intro @z0t (And.intro @wp_some (And.intro @ws_some (And.intro @z2c (And.intro @z4g (And.intro @z8z (And.intro @z80 (And.intro @z90 (And.intro @z81 (And.intro @z82 (And.intro @z8y (And.intro @z4k (And.intro @z4h (And.intro @z4i (And.intro @z4j (And.intro @z3c (And.intro @z3b (And.intro @z2d (And.intro @z4b (And.intro @z8w (And.intro @z8t (And.intro @z8s (And.intro @z8q (And.intro @z3t (And.intro @z3s (And.intro @z1t (And.intro @z1s (And.intro @z3r (And.intro @z23 (And.intro @z24 (And.intro @z3o (And.intro @z0n (And.intro @z0o (And.intro @z1q (And.intro @z1r (And.intro @z21 (And.intro @z22 (And.intro @z1v (And.intro @z0q (And.intro @z0p (And.intro @z0r (And.intro @z1k (And.intro @z26 (And.intro @z27 (And.intro @z0m (And.intro @z1z (And.intro @z20 (And.intro @z4e (And.intro @z4f (And.intro @z25 (And.intro @z3x (And.intro @z49 (And.intro @z2a (And.intro @z2b (And.intro @z1p (And.intro @z0k (And.intro @z0d (And.intro @z0e (And.intro @z0f (And.intro @z8v (And.intro @z1m (@wt_some)))))))))))))))))))))))))))))))))))))))))))))))))))))))))))))))))))))))))))))))))))))))))))))))))))))))))))))))))))))))))))))))))))
local macro_rules | `(tactic| simp_arith)=>`(tactic| simp only [wpA,List.set_cons_zero,List.set_cons_succ])
local macro_rules | `(tactic| simp_arith [$ts,*])=>`(tactic| simp only [$ts,*,wpA,List.set_cons_zero,List.set_cons_succ])
def Ls (μ:M) (d:D) (ds:List D):Prop:=z92 μ d=some ds∧∃ c,lsC μ d=some (ds,c)∧z95 c μ∧∀ μ',Gr μ μ'→z95 c μ'
theorem Ls.lst {μ:M} {ds:List D}:Ls μ (.lst ds) ds:=⟨rfl,none,rfl,trivial,fun _ _=>trivial⟩
theorem Ls.ref {μ:M} {k:Nat} {ds:List D} (h:μ[k]?=some (some (.lst ds))):Ls μ (.ref k) ds:=⟨z50 h,_,zod h,h,fun _ g=>g.get h⟩
theorem zc4 {μ:M} {d:D} {ds:List D} (h:Ls μ d ds):(∃ k,d=.ref k∧μ[k]?=some (some (.lst ds)))∨(d=.lst ds)∨d=.scr ds:=by
  obtain ⟨h1,_⟩:=h
  cases d with
  | lst xs=>cases h1;exact .inr (.inl rfl)
  | scr xs=>cases h1;exact .inr (.inr rfl)
  | ref k =>
    simp only [z92] at h1
    split at h1
    · rename_i xs hk;cases h1;exact .inl ⟨k,rfl,hk⟩
    · cases h1
  | _=>cases h1
structure On (s:Nat) (μ μ':M):Prop where
  len:μ'.length=μ.length
  at_:∀ j,j≠s→μ'[j]?=μ[j]?
theorem On.refl {s:Nat} {μ:M}:On s μ μ:=⟨rfl,fun _ _=>rfl⟩
theorem zf1 {s:Nat} {μ:M} {o:Option O}:On s μ (μ.set s o):=⟨by simp,fun j n=>z66 n⟩
theorem On.trans {s:Nat} {μ μ1 μ2:M} (h:On s μ μ1) (g:On s μ1 μ2):On s μ μ2:=⟨g.len.trans h.len,fun j n=>(g.at_ j n).trans (h.at_ j n)⟩
theorem On.gr {s:Nat} {μ μ1 μ2:M} (g:Gr μ μ1) (h:On s μ1 μ2) (hs:μ.length≤s):Gr μ μ2:=⟨by rw [h.len];exact g.len,fun j hj=>by rw [h.at_ j (by omega)];exact g.at_ j hj⟩
def Dk (μ:M) (k:Nat):Prop:=∃ a b c:Int,μ[k]?=some (some (.lst [.int a,.int b,.int c]))
theorem zko {μ:M} {k:Nat} {m:Int} (h:Dk μ k) (h0:0<m) (h1:m<2 ^ 200):∃ (r:Nat) (μ':M),z0a [.ref k,.int m] μ=some (.int (r:Nat),μ')∧(r:Int)<m∧Dk μ' k∧On k μ μ':=by
  obtain ⟨a,b,c,hk⟩:=h
  have hk1:=z9r (y:=some (O.lst [.int a,.int b,.int (c+1)])) hk
  have o1:On k μ (μ.set k (some (O.lst [.int a,.int b,.int (c+1)]))):=zf1
  by_cases ha:0<a
  · have q1:zdh a 65536:=by unfold zdh;decide
    have q2:zci a 65536:=by unfold zci;decide
    have q3:zdh (a % 65536) m:=h0
    have hn:=Int.emod_nonneg (a % 65536) (b:=m) (by omega)
    have hlt:=Int.emod_lt_of_pos (a % 65536) h0
    refine ⟨(a % 65536 % m).toNat,(μ.set k (some (O.lst [.int a,.int b,.int (c+1)]))).set k (some (O.lst [.int (a / 65536),.int b,.int (c+1)])),?_,by omega,⟨_,_,_,z9r hk1⟩,⟨by simp,fun j n=>by rw [z66 n,z66 n]⟩⟩
    have hr:(((a % 65536 % m).toNat:Nat):Int)=a % 65536 % m:=by omega
    rw [hr]
    generalize hμ1:μ.set k (some (O.lst [.int a,.int b,.int (c+1)]))=μ1 at hk1 ⊢
    simp [z0a,z5f,z89 hk,z3e,z83 hk,hμ1,z89 hk1,z83 hk1,ha,q1,q2,q3]
  · have s1:=Int.emod_nonneg ((b+7919*(c+1))*48271) (b:=2147483647) (by decide)
    have s2:=Int.emod_lt_of_pos ((b+7919*(c+1))*48271) (b:=2147483647) (by decide)
    generalize hst:(b+7919*(c+1))*48271 % 2147483647=st at s1 s2
    have t1:=Int.emod_nonneg (st*st) (b:=2147483629) (by decide)
    have t2:=Int.emod_lt_of_pos (st*st) (b:=2147483629) (by decide)
    generalize htt:st*st % 2147483629=tt at t1 t2
    generalize hz:(tt+40692*(c+1))*69621 % 2147483563 / 8=z
    have hn:=Int.emod_nonneg z (b:=m) (by omega)
    have hlt:=Int.emod_lt_of_pos z h0
    refine ⟨(z % m).toNat,μ.set k (some (O.lst [.int a,.int b,.int (c+1)])),?_,by omega,⟨_,_,_,hk1⟩,o1⟩
    have hr:(((z % m).toNat:Nat):Int)=z % m:=by omega
    rw [hr]
    generalize hμ1:μ.set k (some (O.lst [.int a,.int b,.int (c+1)]))=μ1 at hk1 ⊢
    have m1:CMul 7919 (c+1):=.inl ⟨by decide,by decide⟩
    have m2:CMul (b+7919*(c+1)) 48271:=.inr ⟨by decide,by decide⟩
    have m3:CMul st st:=.inl ⟨by omega,by omega⟩
    have m4:CMul 40692 (c+1):=.inl ⟨by decide,by decide⟩
    have m5:CMul (tt+40692*(c+1)) 69621:=.inr ⟨by decide,by decide⟩
    have p1:∀ x,zdh x 2147483647:=fun x=>by unfold zdh;decide
    have p2:∀ x,zdh x 2147483629:=fun x=>by unfold zdh;decide
    have p3:∀ x,zdh x 2147483563:=fun x=>by unfold zdh;decide
    have p4:∀ x,zci x 8:=fun x=>by unfold zci;decide
    have p5:zdh z m:=h0
    simp [z0a,z5f,z89 hk,z3e,z83 hk,hμ1,z89 hk1,ha,z1g,zvw,m1,m2,m3,m4,m5,p1,p2,p3,p4,p5,hst,htt,hz]
theorem zkq {μ:M} {c:Int}:∃ k μ',z3d [.int c] μ=some (.ref k,μ')∧Dk μ' k∧Gr μ μ'∧μ.length≤k:=by
  have p1:zdh c 2147483629:=by unfold zdh;decide
  have p2:zsj 10 18:=⟨by decide,by decide,by decide⟩
  refine ⟨μ.length,μ++[some (.lst [.int (if 1000000000000000000<c then c - 1000000000000000000 else 0),.int (c % 2147483629),.int 0])],?_,⟨(if 1000000000000000000<c then c - 1000000000000000000 else 0),c % 2147483629,0,by simp⟩,gr_app,Nat.le_refl _⟩
  simp [z3d,z6r,zd4,p1,p2]
theorem zg2 {μ:M} {ns:List Int}:∃ v:Int,z1d [.scr (ns.map D.int),.int 0] μ=some (.int v,μ):=by
  cases ns with
  | nil=>exact ⟨0,by simp [z1d,z3l,z5m,z92]⟩
  | cons a r =>
    have z:atI (D.int a::r.map D.int) 0=some (.int a):=by unfold atI;simp
    have hp:(0:Int)<(r.length:Int)+1:=by omega
    exact ⟨a,by simp [z1d,z3l,z5m,z92,hp,z]⟩
theorem zbk {μ:M} {k:Nat} {ds:List D} {y:D} (h:μ[k]?=some (some (.lst ds))) (hl:ds.length<1000000):∃ μ',zea (.ref k) y μ=some (.non,μ')∧μ'[k]?=some (some (.lst (ds++[y])))∧On k μ μ' :=
  ⟨_,by simp only [zea,z83 h,if_pos hl,zu0],z9r h,zf1⟩
theorem Dk.gr {μ μ':M} {k:Nat} (h:Dk μ k) (g:Gr μ μ'):Dk μ' k:=let ⟨a,b,c,e⟩:=h;⟨a,b,c,g.get e⟩
theorem Dk.on {μ μ':M} {k r:Nat} (h:Dk μ k) (n:k≠r) (g:On r μ μ'):Dk μ' k:=let ⟨a,b,c,e⟩:=h;⟨a,b,c,by rw [g.at_ k n];exact e⟩
theorem Dk.lt {μ:M} {k:Nat} (h:Dk μ k):k<μ.length:=let ⟨_,_,_,e⟩:=h;(List.getElem?_eq_some_iff.mp e).1
theorem z2j {α:Type} {c:Ck} {g:GV} {tc:BV} {te:EV} {dn:α→D} {keep:α→Bool} {val:α→D} (Pv:G→Prop) {μ:M} {Γ:G} (hc:z95 c μ) (l:List α) (h0:Pv Γ)
    (hs:∀ a∈l,∀ Γ,Pv Γ→Wp (g (dn a) Γ μ) fun Γ1 μ1=>μ1=μ∧Pv Γ1∧Wp (tc Γ1 μ) fun b μ2=>b=keep a∧μ2=μ∧(keep a=true→Wp (te Γ1 μ) fun x μ3=>x=val a∧μ3=μ)) {R:List D→M→Prop} (hR:R ((l.filter keep).map val) μ):Wp (z2h c g tc te (l.map dn) Γ μ) R:=by
  refine comp_inv (fun done r Γ μ'=>∃ i,i≤l.length∧μ'=μ∧Pv Γ∧r=(l.drop i).map dn∧done=((l.take i).filter keep).map val) _ ⟨0,by omega,rfl,h0,rfl,rfl⟩ ?_ ?_
  · rintro done d r Γ μ' ⟨i,hi,rfl,hp,e,rfl⟩
    have hi':i<l.length:=by
      rcases Nat.lt_or_ge i l.length with z | z
      · exact z
      · rw [List.drop_eq_nil_of_le z] at e;cases e
    rw [List.drop_eq_getElem_cons hi',List.map_cons] at e
    cases e
    have ht:l.take (i+1)=l.take i++[l[i]]:=by rw [List.take_append_getElem hi']
    refine (hs l[i] (List.getElem_mem hi') Γ hp).imp fun Γ1 μ1 ⟨e,hp1,h⟩=>?_
    subst e
    refine h.imp fun b μ2 ⟨e1,e2,h⟩=>?_
    subst e1;subst e2
    cases hk:keep l[i] with
    | true =>
      show Wp _ _
      refine (h hk).imp fun x μ3 ⟨e1,e2⟩=>?_
      subst e1;subst e2
      refine ⟨hc,i+1,hi',rfl,hp1,rfl,?_⟩
      rw [ht,List.filter_append,List.map_append]
      simp [hk]
    | false =>
      show z95 c _∧_
      refine ⟨hc,i+1,hi',rfl,hp1,rfl,?_⟩
      rw [ht,List.filter_append,List.map_append]
      simp [hk]
  · rintro done Γ μ' ⟨i,hi,rfl,_,e,rfl⟩
    have:l.length≤i:=by
      have:=congrArg List.length e
      simp at this
      omega
    rw [List.take_of_length_le this]
    exact hR
theorem zmt {μ:M} (l:List Bool):zrz (.lst (l.map D.bl)) μ=some (.bl (l.all id),μ):=by
  have:optAll inB (l.map D.bl)=some l:=by
    have:=z2u (f:=inB) (g:=D.bl) (h:=id) (l:=l) (fun x _=>rfl)
    simpa using this
  unfold zrz
  show (optAll inB (l.map D.bl)).bind _=_
  rw [this];rfl
noncomputable abbrev Az:=Int×Int×Bool
noncomputable def dZ (a:Az):D:=.tup [.int a.1,.int a.2.1,.bl a.2.2]
noncomputable def okZ (n:Int) (a:Az):Bool:=((decide (0≤a.1)&&decide (a.1<n))&&(decide (0≤a.2.1)&&decide (a.2.1<n)))&&!decide (a.1=a.2.1)
def Sm (i:Int):Prop:=i.natAbs<2 ^ 100
def SmZ (as:List Az):Prop:=∀ a∈as,Sm a.1∧Sm a.2.1
theorem Sm.log {i:Int} (h:Sm i):i.natAbs.log2<1920:=by
  by_cases h0:i.natAbs=0
  · rw [h0];decide
  · exact (Nat.log2_lt h0).mpr (Nat.lt_of_lt_of_le h (Nat.pow_le_pow_right (by decide) (by decide)))
theorem zfl {Γ:G} {μ:M} {ea eb ec:EV} {i j k:Int} (h1:ea Γ μ=some (.int i,μ)) (h2:eb Γ μ=some (.int j,μ)) (h3:ec Γ μ=some (.int k,μ)):z6x fLe fLt ea eb ec Γ μ=some (.bl (decide (i≤j)&&decide (j<k)),μ):=by
  unfold z6x
  rw [h1,bs]
  show (eb Γ μ).bind _=_
  rw [h2,bs]
  show (fLe (.int i) (.int j) μ).bind _=_
  rw [z81,bs]
  cases decide (i≤j) with
  | false=>rfl
  | true =>
    show (ec Γ μ).bind _=_
    rw [h3]
    rfl
section
variable {C CF CT CN:Addr} {n:Int} {d:D} {as:List Az} {μ:M}
theorem z5j {Γ:G} {ea:EV} {l:List EV} {i:Int} (h:ea Γ μ=some (.int i,μ)) (hs:Sm i):znj (ea::l) Γ μ=znj l Γ μ:=by
  show (ea Γ μ).bind _=_
  rw [h,bs]
  show (if i.natAbs.log2<1920 then _ else none)=_
  rw [if_pos hs.log]
theorem zg1 (hl:Ls μ d (as.map dZ)) (hn:Sm n) (hs:SmZ as):Wp (z1h C [.int n,d] μ) fun r μ'=>μ'=μ∧r=if n<0∨as.all (okZ n)=false then .ex C else .ok .non:=by
  unfold z1h z4w
  refine (zcn rfl).mpr ?_
  show Wt (z6l _ _ [some (.int n),some d,none,none,none] μ) _
  simp_arith
  by_cases h0:n<0
  · rw [decide_eq_true h0]
    simp_arith
    refine z63 (μ':=μ) ?_ ?_
    · rw [z5j rfl hn];rfl
    · simp_arith
      exact ⟨trivial,by rw [if_pos (.inl h0)]⟩
  rw [decide_eq_false h0]
  simp_arith
  obtain ⟨h1,c,h2,h3,h4⟩:=hl
  refine ⟨_,h2,?_⟩
  simp_arith
  refine L3.forX_inv (fun r Γ μ'=>μ'=μ∧∃ bs o2 o3 o4,r=bs.map dZ∧SmZ bs∧as.all (okZ n)=bs.all (okZ n)∧Γ=[some (.int n),some d,o2,o3,o4]) _ ⟨rfl,as,_,_,_,rfl,hs,rfl,rfl⟩ ?_ ?_
  · rintro x r Γ μ ⟨rfl,bs,o2,o3,o4,hr,hsb,ha,rfl⟩
    cases bs with
    | nil=>cases hr
    | cons a bs =>
      cases hr
      obtain ⟨s1,s2⟩:=hsb a (by simp)
      show Wp (z7a 3 _ (.tup [.int a.1,.int a.2.1,.bl a.2.2]) _ _) _
      rw [zb2 (n:=3) rfl]
      simp_arith
      rw [zfl (i:=0) (j:=a.1) (k:=n) rfl rfl rfl]
      simp_arith
      cases e1:(decide (0≤a.1)&&decide (a.1<n)) with
      | false =>
        simp_arith [Bool.not_false]
        refine z63 (μ':=μ) (by rw [z5j rfl s1,z5j rfl s2,z5j rfl hn];rfl) ?_
        simp_arith
        refine ⟨trivial,?_⟩
        exact (if_pos (.inr (by rw [ha,List.all_cons];simp [okZ,e1]))).symm
      | true =>
        simp_arith
        rw [zfl (i:=0) (j:=a.2.1) (k:=n) rfl rfl rfl]
        simp_arith
        cases e2:(decide (0≤a.2.1)&&decide (a.2.1<n)) with
        | false =>
          simp_arith [Bool.not_false]
          refine z63 (μ':=μ) (by rw [z5j rfl s1,z5j rfl s2,z5j rfl hn];rfl) ?_
          simp_arith
          refine ⟨trivial,?_⟩
          exact (if_pos (.inr (by rw [ha,List.all_cons];simp [okZ,e2]))).symm
        | true =>
          simp_arith [Bool.not_true]
          cases e3:decide (a.1=a.2.1) with
          | true =>
            simp_arith
            refine z63 (μ':=μ) (by rw [z5j rfl s1];rfl) ?_
            simp_arith
            refine ⟨trivial,?_⟩
            exact (if_pos (.inr (by rw [ha,List.all_cons];simp [okZ,e3]))).symm
          | false =>
            simp_arith
            refine ⟨h3,trivial,bs,_,_,_,rfl,fun b hb=>hsb b (by simp [hb]),?_,rfl⟩
            rw [ha,List.all_cons]
            simp [okZ,e1,e2,e3]
  · rintro Γ μ ⟨rfl,bs,o2,o3,o4,hr,hsb,ha,rfl⟩
    simp_arith
    refine ⟨trivial,?_⟩
    have hb:bs=[]:=by cases bs with | nil=>rfl | cons _ _=>cases hr
    subst hb
    rw [if_neg]
    rintro (z | z)
    · exact h0 z
    · rw [ha] at z;cases z
end
section
variable {μ:M} {d:D} {k n:Nat} {as:List Az}
theorem z42 {m:Int} (h:Dk μ k) (h0:0<m) (h1:m<2 ^ 200):Wp (z0a [.ref k,.int m] μ) fun d μ'=>∃ r:Nat,d=.int (r:Int)∧(r:Int)<m∧Dk μ' k∧On k μ μ':=by
  obtain ⟨r,μ',e,b,d,o⟩:=zko h h0 h1
  exact ⟨_,_,e,r,rfl,b,d,o⟩
theorem Ls.len {ds:List D} (h:Ls μ d ds):z5m d μ=some (.int ds.length,μ):=by unfold z5m;rw [h.1]
theorem Ls.sl {ds:List D} {lo hi:Option Int} (h:Ls μ d ds):fSl d lo hi μ=some (.lst (zdi ds lo hi),μ):=by unfold fSl;rw [h.1]
theorem Ls.ix {ds:List D} {r:Nat} (h:Ls μ d ds) (hr:r<ds.length):fIx d (.int (r:Int)) μ=some (ds[r],μ):=by
  show (match z92 μ d with | some ds=>(atI ds (r:Int)).bind fun d=>some (d,μ) | none=>_)=_
  rw [h.1]
  show (atI ds (r:Int)).bind _=_
  rw [zjh (List.getElem?_eq_getElem hr)]
  rfl
theorem zf9 {ds:List D} {r:Nat} (h:r<ds.length):fIx (.lst ds) (.int (r:Int)) μ=some (ds[r],μ):=Ls.lst.ix h
theorem zkj {i:Int} (h1:-(2*10 ^ 20)≤i) (h2:i≤2*10 ^ 20):Sm i:=by
  unfold Sm
  have e:(2:Nat) ^ 100=1267650600228229401496703205376:=by decide
  rw [e]
  omega
end
section
variable {μ:M} {k:Nat}
theorem Ls.listM {d:D} {ds:List D} (h:Ls μ d ds):zfe d μ=some (.ref μ.length,μ++[some (.lst ds)]):=by
  unfold zfe
  rcases zc4 h with ⟨j,rfl,hj⟩ | rfl | rfl
  · simp [zkd,hj,z50 hj]
  · rfl
  · rfl
end
noncomputable def LLs (n:Nat):Nat→List (List Int)
  | 0=>[[]]
  | k+1=>LLs n k++((LLs n k).filter fun l=>decide (2*((l.length:Int)+1)<(n:Int))).map fun l=>l++[(k:Int)]
theorem z8g (n:Nat):∀ k,(LLs n k).length≤2 ^ k
  | 0=>Nat.le_refl _
  | k+1=>by
    have h1:=z8g n k
    have h2:=List.length_filter_le (fun l:List Int=>decide (2*((l.length:Int)+1)<(n:Int))) (LLs n k)
    simp only [LLs,List.length_append,List.length_map]
    rw [Nat.pow_succ]
    omega
theorem z9l (n:Nat):∀ k,∀ l∈LLs n k,l.length≤k
  | 0,l,h=>by
    have:l=[]:=by simpa [LLs] using h
    subst this;simp
  | k+1,l,h=>by
    simp only [LLs] at h
    rcases List.mem_append.mp h with h | h
    · have:=z9l n k l h;omega
    · obtain ⟨m,hm,rfl⟩:=List.mem_map.mp h
      have:=z9l n k m (List.mem_filter.mp hm).1
      simp;omega
theorem z9q {k:Nat} (h:k≤10):2 ^ k≤1024:=Nat.le_trans (Nat.pow_le_pow_right (by decide) h) (by decide)
section
variable {C CF CT:Addr} {n:Nat} {d:D} {as:List Az} {μ:M}
theorem zfx {nss:List (List Int)}:z5c (.lst (nss.map dLI)) μ=some (.lst ((z43 nss).map dLI),μ):=by
  have:optAll zmh (nss.map dLI)=some nss:=by
    have:=z2u (f:=zmh) (g:=dLI) (h:=id) (l:=nss) (fun x _=>by
      show optAll inI (x.map D.int)=some x
      have:=z2u (f:=inI) (g:=D.int) (h:=id) (l:=x) (fun y _=>rfl)
      simpa using this)
    simpa using this
  unfold z5c
  show (optAll zmh (nss.map dLI)).bind _=_
  rw [this];rfl
theorem z5q (nss:List (List Int)):(z43 nss).length=nss.length:=(List.mergeSort_perm nss _).length_eq
theorem zho (hn:n≤10):Wp (z12 [.int (n:Int)] μ) fun x μ'=>x=.lst ((z43 (LLs n n)).map dLI)∧μ'=μ:=by
  unfold z12 z3h
  refine (z6h rfl).mpr ?_
  show Ws (z1i _ _ [some (.int (n:Int)),none,none] μ) _
  simp_arith
  rw [z73 (by simp)]
  simp_arith
  rw [z73 (by simp)]
  simp_arith
  rw [z9v (by omega)]
  simp_arith
  refine zca (fun k Γ μ'=>μ'=μ∧∃ o2,Γ=[some (.int (n:Int)),some (.lst ((LLs n k).map dLI)),o2]) ⟨rfl,_,rfl⟩ ?_ ?_
  · rintro k Γ μ hk ⟨rfl,o2,rfl⟩
    simp_arith [zcw]
    have l1:=z8g n k
    have l2:=z9q (k:=k) (by omega)
    refine ⟨by simp;omega,?_⟩
    show Wp (z2h none (z02 0) _ _ ((LLs n k).map dLI) [none,some (.int (k:Int)),some (.int (n:Int))] μ) _
    refine z2j (c:=none) (dn:=dLI) (keep:=fun l=>decide (2*((l.length:Int)+1)<(n:Int))) (val:=fun l=>dLI (l++[(k:Int)])) (fun Γ=>∃ o,Γ=[o,some (.int (k:Int)),some (.int (n:Int))]) trivial (LLs n k) ⟨_,rfl⟩ ?_ ?_
    · rintro l hl Γ ⟨o,rfl⟩
      have hll:=z9l n k l hl
      simp_arith
      refine ⟨trivial,⟨_,rfl⟩,?_⟩
      have e1:z5m (dLI l) μ=some (.int (l.length:Int),μ):=by unfold dLI;rw [z5d,List.length_map]
      rw [e1]
      simp_arith
      rw [z4s,if_pos (show CMul 2 ((l.length:Int)+1) from .inl ⟨by decide,by decide⟩)]
      simp_arith
      refine ⟨trivial,trivial,fun _=>?_⟩
      rw [z73 (by simp)]
      simp_arith
      unfold dLI
      rw [z6b,if_pos (by simp;omega)]
      simp_arith
      exact ⟨by simp,trivial⟩
    · have l3:=List.length_filter_le (fun l:List Int=>decide (2*((l.length:Int)+1)<(n:Int))) (LLs n k)
      rw [z6b,if_pos (by simp;omega)]
      simp_arith
      refine ⟨trivial,some (.int (k:Int)),?_⟩
      simp [LLs,Function.comp_def]
  · rintro Γ μ ⟨rfl,o2,rfl⟩
    simp_arith
    rw [zfx]
    simp_arith
    exact ⟨trivial,trivial⟩
theorem zg9 {μ:M} {d:D} {ns:List Int} {t:Int} (h:Ls μ d (ns.map D.int)):fIn true (.int t) d μ=some (.bl (!decide (t∈ns)),μ):=by
  have hs:zkd μ d=some (ns.map D.int):=by
    rcases zc4 h with ⟨k,rfl,hk⟩ | rfl | rfl
    · simp [zkd,z50 hk]
    · rfl
    · rfl
  have ho:∀ l:List Int,optAll flV (l.map D.int)=some (l.map V.int):=fun l=>by
    induction l with
    | nil=>rfl
    | cons a r ih=>simp [optAll,flV,ih]
  have hi:∀ l:List Int,inV (V.int t) (l.map V.int)=decide (t∈l):=fun l=>by
    induction l with
    | nil=>rfl
    | cons a r ih =>
      have e:eqV (V.int a) (V.int t)=decide (t=a):=by
        show decide (a=t)=_
        simp [eq_comm]
      simp [inV] at ih ⊢
      rw [e,ih]
  simp [fIn,flV,hs,ho,hi]
theorem zc2 {l:List Int} {t:Int}:fIn true (.int t) (dLI l) μ=some (.bl (!decide (t∈l)),μ):=zg9 (d:=dLI l) Ls.lst
noncomputable def z6f (as:List Az) (l:List Int):Bool:=as.all fun a=>decide (a.1∈l)||((!decide (a.2.1∈l))==a.2.2)
theorem zkp {l:List Int} (hl:Ls μ d (as.map dZ)):Wp (z2n [dLI l,d] μ) fun x μ'=>x=.bl (z6f as l)∧μ'=μ:=by
  unfold z2n z5h
  refine (z6h rfl).mpr ?_
  show Ws (z1i _ _ [some (dLI l),some d,none,none,none] μ) _
  simp_arith
  obtain ⟨h1,c,h2,h3,h4⟩:=hl
  refine ⟨_,h2,?_⟩
  simp_arith
  refine za9 (fun r Γ μ'=>μ'=μ∧∃ bs o2 o3 o4,r=bs.map dZ∧z6f as l=z6f bs l∧Γ=[some (dLI l),some d,o2,o3,o4]) _ ⟨rfl,as,_,_,_,rfl,rfl,rfl⟩ ?_ ?_
  · rintro x r Γ μ ⟨rfl,bs,o2,o3,o4,hr,ha,rfl⟩
    cases bs with
    | nil=>cases hr
    | cons a bs =>
      cases hr
      show Wp (z7a 3 _ (.tup [.int a.1,.int a.2.1,.bl a.2.2]) _ _) _
      rw [zb2 (n:=3) rfl]
      simp_arith
      rw [zc2]
      simp_arith
      have e:z6f (a::bs) l=((decide (a.1∈l)||((!decide (a.2.1∈l))==a.2.2))&&z6f bs l):=rfl
      cases h1:decide (a.1∈l) with
      | true =>
        simp_arith [Bool.not_true]
        refine ⟨h3,trivial,bs,_,_,_,rfl,?_,rfl⟩
        rw [ha,e,h1];rfl
      | false =>
        simp_arith [Bool.not_false]
        rw [zc2]
        simp_arith
        by_cases h2:(!decide (a.2.1∈l))=a.2.2
        · rw [decide_eq_true h2]
          simp_arith [Bool.not_true]
          refine ⟨h3,trivial,bs,_,_,_,rfl,?_,rfl⟩
          rw [ha,e,h1,h2];simp
        · rw [decide_eq_false h2]
          simp_arith [Bool.not_false]
          refine ⟨?_,trivial⟩
          rw [ha,e,h1]
          have:((!decide (a.2.1∈l))==a.2.2)=false:=by simpa using h2
          rw [this];rfl
  · rintro Γ μ ⟨rfl,bs,o2,o3,o4,hr,ha,rfl⟩
    have hb:bs=[]:=by cases bs with | nil=>rfl | cons _ _=>cases hr
    subst hb
    simp_arith
    exact ⟨by rw [ha];rfl,trivial⟩
noncomputable abbrev ze0 (C CT:Addr):FX:=z2l z12 z2n (z1h C) (z31 C CT) (.int 10)
noncomputable def z35 (n:Nat) (as:List Az):List (List Int):=(z43 (LLs n n)).filter (z6f as)
noncomputable def duL (n:Int) (as:List Az):Nat:=if n<1∨as.all (okZ n)=false then 1 else if 10<n then 3 else 0
def zvm (C CT:Addr) (k n:Nat) (as:List Az) (r:Rs D):Prop:=match k with
  | 1=>r=.ex C
  | 3=>r=.ex CT
  | _=>r=.ok (.lst ((z35 n as).map dLI))
theorem zhn {n:Int} (hl:Ls μ d (as.map dZ)) (hn:Sm n) (hs:SmZ as):Wp (ze0 C CT [.int n,d] μ) fun r μ'=>μ'=μ∧zvm C CT (duL n as) n.toNat as r:=by
  unfold ze0 z2l z3i duL
  refine (zcn rfl).mpr ?_
  show Wt (z6l _ _ [some (.int n),some d] μ) _
  simp_arith
  refine (zg1 hl hn hs).imp ?_
  rintro _ μ1 ⟨rfl,rfl⟩
  by_cases h1:n<0∨as.all (okZ n)=false
  · rw [if_pos h1]
    simp_arith
    refine ⟨trivial,?_⟩
    rw [if_pos (h1.imp (fun z=>by omega) id)]
    rfl
  · rw [if_neg h1]
    simp_arith
    have hall:as.all (okZ n)≠false:=fun z=>h1 (.inr z)
    have hn0:0≤n:=by
      refine Classical.byContradiction fun z=>h1 (.inl (by omega))
    unfold z31 z5i
    refine (zcn rfl).mpr ?_
    show Wt (z6l _ _ [some (.int n),some (.int 1),some (.int 10)] μ1) _
    simp_arith
    by_cases h2:n<1
    · rw [decide_eq_true h2]
      simp_arith
      refine z63 (μ':=μ1) (by rw [z5j rfl (by unfold Sm;decide),z5j rfl hn];rfl) ?_
      simp_arith
      refine ⟨trivial,?_⟩
      rw [if_pos (.inl h2)]
      rfl
    rw [decide_eq_false h2,if_neg (fun q=>q.elim h2 hall)]
    simp_arith
    by_cases h3:10<n
    · rw [decide_eq_true h3]
      simp_arith
      refine z63 (μ':=μ1) (by rw [z5j rfl (by unfold Sm;decide),z5j rfl hn];rfl) ?_
      simp_arith
      refine ⟨trivial,?_⟩
      rw [if_pos h3]
      rfl
    rw [decide_eq_false h3,if_neg h3]
    simp_arith
    obtain ⟨m,rfl⟩:∃ m:Nat,n=(m:Int):=⟨n.toNat,by omega⟩
    refine (zho (by omega)).imp ?_
    rintro _ μ2 ⟨rfl,rfl⟩
    simp_arith [zcw]
    have l1:=z8g m m
    have l2:=z9q (k:=m) (by omega)
    refine ⟨by rw [List.length_map,z5q];omega,?_⟩
    show Wp (z2h none (z02 0) _ _ ((z43 (LLs m m)).map dLI) [none,some d] μ2) _
    refine z2j (c:=none) (dn:=dLI) (keep:=z6f as) (val:=dLI) (fun Γ=>∃ o,Γ=[o,some d]) trivial _ ⟨_,rfl⟩ ?_ ?_
    · rintro l hl' Γ ⟨o,rfl⟩
      simp_arith
      refine ⟨trivial,⟨_,rfl⟩,?_⟩
      refine (zkp hl).imp ?_
      rintro _ μ3 ⟨rfl,rfl⟩
      simp_arith
      exact ⟨trivial,trivial,fun _=>⟨trivial,trivial⟩⟩
    · simp_arith
      exact ⟨trivial,rfl⟩
noncomputable abbrev zoz (C CF CT:Addr):FX:=z3j (ze0 C CT) CF
noncomputable def znd (n:Nat) (ls:List (List Int)):List Nat:=(List.range n).filter fun t=>ls.all fun l=>!decide ((t:Int)∈l)
noncomputable def duS (n:Int) (as:List Az):Nat:=if duL n as=0 then (if z35 n.toNat as=[] then 2 else 0) else duL n as
def zvl (C CF CT:Addr) (k n:Nat) (as:List Az) (r:Rs D):Prop:=match k with
  | 1=>r=.ex C
  | 2=>r=.ex CF
  | 3=>r=.ex CT
  | _=>r=.ok (.lst ((znd n (z35 n as)).map fun t:Nat=>D.int (t:Int)))
theorem znp {ds:List D} {RB:Bool→M→Prop}:qTr RB (.lst ds) μ↔RB (!ds.isEmpty) μ:=⟨fun ⟨_,e,q⟩=>by cases e;exact q,fun q=>⟨_,rfl,q⟩⟩
theorem zng {n:Int} (hl:Ls μ d (as.map dZ)) (hn:Sm n) (hs:SmZ as):Wp (zoz C CF CT [.int n,d] μ) fun r μ'=>μ'=μ∧zvl C CF CT (duS n as) n.toNat as r:=by
  unfold zoz z3j z55 duS
  refine (zcn rfl).mpr ?_
  show Wt (z6l _ _ [some (.int n),some d,none] μ) _
  simp_arith
  refine (zhn (C:=C) (CT:=CT) hl hn hs).imp ?_
  rintro r μ1 ⟨rfl,ho⟩
  have hd:duL n as=0∨duL n as=1∨duL n as=3:=by
    unfold duL
    split
    · exact .inr (.inl rfl)
    · split
      · exact .inr (.inr rfl)
      · exact .inl rfl
  rcases hd with h0 | h0 | h0
  · rw [h0] at ho ⊢
    have ho:r=.ok (.lst ((z35 n.toNat as).map dLI)):=ho
    subst ho
    rw [if_pos rfl]
    simp_arith [znp]
    cases hf:z35 n.toNat as with
    | nil =>
      simp_arith [List.map_nil,List.isEmpty_nil,Bool.not_true,Bool.not_false]
      exact ⟨trivial,by rw [if_pos trivial];rfl⟩
    | cons l ls =>
      rw [if_neg (by simp)]
      rw [← hf]
      have he:(((z35 n.toNat as).map dLI).isEmpty)=false:=by rw [hf];rfl
      simp_arith [he,Bool.not_false,Bool.not_true]
      have hn10:1≤n∧n≤10:=by
        unfold duL at h0
        split at h0
        · cases h0
        · rename_i h1
          split at h0
          · cases h0
          · rename_i h2
            exact ⟨Classical.byContradiction fun z=>h1 (.inl (by omega)),by omega⟩
      obtain ⟨m,rfl⟩:∃ m:Nat,n=(m:Int):=⟨n.toNat,by omega⟩
      rw [z9v (by omega)]
      simp_arith [zcw]
      refine ⟨by simp [z4l];omega,?_⟩
      have er:z4l 0 m=(List.range m).map fun t:Nat=>D.int (t:Int):=by simp [z4l]
      rw [er]
      generalize hF:z35 (m:Int).toNat as=F
      have hFl:F.length≤1024:=by
        rw [← hF]
        have l1:=z8g m m
        have l2:=z9q (k:=m) (by omega)
        have l3:=List.length_filter_le (z6f as) (z43 (LLs m m))
        rw [z5q] at l3
        show ((z43 (LLs (m:Int).toNat (m:Int).toNat)).filter (z6f as)).length≤_
        rw [Int.toNat_natCast]
        omega
      show Wp (z2h none (z02 0) _ _ ((List.range m).map fun t:Nat=>D.int (t:Int)) [none,some (.lst (F.map dLI))] μ1) _
      refine z2j (c:=none) (dn:=fun t:Nat=>D.int (t:Int)) (keep:=fun t=>F.all fun l=>!decide ((t:Int)∈l)) (val:=fun t:Nat=>D.int (t:Int)) (fun Γ=>∃ o,Γ=[o,some (.lst (F.map dLI))]) trivial _ ⟨_,rfl⟩ ?_ ?_
      · rintro t ht Γ ⟨o,rfl⟩
        simp_arith [zcw]
        refine ⟨trivial,⟨_,rfl⟩,by simp;omega,?_⟩
        show Wp (z2h none (z02 0) z96 _ (F.map dLI) [none,some (.int (t:Int))] μ1) _
        refine z2j (c:=none) (dn:=dLI) (keep:=fun _=>true) (val:=fun l=>D.bl (!decide ((t:Int)∈l))) (fun Γ=>∃ o,Γ=[o,some (.int (t:Int))]) trivial _ ⟨_,rfl⟩ ?_ ?_
        · rintro l hl' Γ ⟨o,rfl⟩
          simp_arith
          refine ⟨trivial,⟨_,rfl⟩,trivial,trivial,fun _=>?_⟩
          rw [zc2]
          simp_arith
          exact ⟨trivial,trivial⟩
        · have ef:F.filter (fun _=>true)=F:=List.filter_eq_self.mpr (by simp)
          have em:(F.map fun l=>D.bl (!decide ((t:Int)∈l)))=(F.map fun l=>!decide ((t:Int)∈l)).map D.bl:=by rw [List.map_map];rfl
          rw [ef,em,zmt]
          simp_arith
          refine ⟨?_,trivial,fun _=>⟨trivial,trivial⟩⟩
          rw [List.all_map];rfl
      · simp_arith
        refine ⟨trivial,?_⟩
        show Rs.ok _=Rs.ok _
        rw [show (m:Int).toNat=m by omega] at hF ⊢
        rw [hF]
        rfl
  · rw [h0] at ho ⊢
    have ho:r=.ex C:=ho
    subst ho
    simp_arith
    exact ⟨trivial,rfl⟩
  · rw [h0] at ho ⊢
    have ho:r=.ex CT:=ho
    subst ho
    simp_arith
    exact ⟨trivial,rfl⟩
end
section
variable {C CF CT:Addr} {n k:Nat} {d:D} {as:List Az} {μ:M} {f:List D→M→Option (D×M)} {cs:List Addr}
theorem zg0 (hd:Dk μ k) {Γ:G} {R:D→M→Prop} (hn:n≤1000) (hΓ:Γ[0]?=some (some (.ref k))) (hΓ1:Γ[1]?=some (some (.int (n:Int)))) (h:∀ (bs:List Bool) μ',bs.length=n→Dk μ' k→On k μ μ'→R (.lst (bs.map D.bl)) μ') :
    Wp (z4u ["teller"] [("deck",0)] (ivR (z05 1)) (z02 0) z96 (v2 fGt (vL z0a (z03 (z05 1) (z03 (vC (.int 3)) z1f))) (vC (.int 0))) Γ μ) R:=by
  simp_arith [zt3 hΓ1]
  rw [z9v (by omega)]
  simp_arith [zcw]
  refine ⟨by simp [z4l];omega,?_⟩
  have ec:zfn (["teller"]:List Str) [("deck",0)] Γ=[none,some (.ref k)]:=by simp [zfn,hΓ]
  rw [ec]
  refine zfh (fun i done Γ μ'=>∃ (bs:List Bool) (o:Option D),done=bs.map D.bl∧bs.length=i∧Γ=[o,some (.ref k)]∧Dk μ' k∧On k μ μ') ⟨[],_,rfl,rfl,rfl,hd,.refl⟩ ?_ ?_
  · rintro i done Γ μ1 hi ⟨bs,o,rfl,hl,rfl,d1,o1⟩
    simp_arith
    refine (z42 d1 (by decide) (by decide)).imp ?_
    rintro _ μ2 ⟨r,rfl,hr,d2,o2⟩
    simp_arith
    exact ⟨bs++[decide (0<(r:Int))],_,by simp,by simp [hl],rfl,d2,o1.trans o2⟩
  · rintro done Γ μ1 ⟨bs,o,rfl,hl,rfl,d1,o1⟩
    exact h bs μ1 hl d1 o1
end
noncomputable def tv (ts:List Bool) (i:Nat):Bool:=ts.getD i false
noncomputable def stP (ts:List Bool) (st:List Nat×List Az) (t:Nat):List Nat×List Az:=match st.1.getLast? with
  | none=>(st.1++[t],st.2)
  | some u=>if (tv ts u==tv ts t)=true then (st.1++[t],st.2++[((u:Int),(t:Int),true)]) else (st.1.dropLast,st.2++[((u:Int),(t:Int),false)])
noncomputable def plS (ts:List Bool):Nat→List Nat×List Az
  | 0=>([],[])
  | n+1=>stP ts (plS ts n) n
theorem z9x (ts:List Bool):∀ n,(plS ts n).1.length≤n∧(plS ts n).2.length≤n
  | 0=>by simp [plS]
  | n+1=>by
    obtain ⟨h1,h2⟩:=z9x ts n
    simp only [plS,stP]
    split
    · simp;omega
    · split <;> simp <;> omega
structure PL (L:List Int) (n:Nat) (p:List Nat):Prop where
  lt:∀ u∈p,u<n
  up:p.Pairwise fun x y:Nat=>(x:Int)∉L→(y:Int)∉L
  ct:((List.range n).countP fun t:Nat=>!decide ((t:Int)∈L))+(p.countP fun t:Nat=>decide ((t:Int)∈L))≤((List.range n).countP fun t:Nat=>decide ((t:Int)∈L))+(p.countP fun t:Nat=>!decide ((t:Int)∈L))
theorem z9i {as bs:List Az} {l:List Int}:z6f (as++bs) l=(z6f as l&&z6f bs l):=by unfold z6f;rw [List.all_append]
theorem zm9 {L:List Int} (ts:List Bool):∀ n,z6f (plS ts n).2 L=true→PL L n (plS ts n).1
  | 0,_=>⟨by simp [plS],by simp [plS],by simp [plS]⟩
  | n+1,h=>by
    have ih:z6f (plS ts n).2 L=true→PL L n (plS ts n).1:=zm9 ts n
    have hr:∀ f:Nat→Bool,(List.range (n+1)).countP f=(List.range n).countP f+if f n=true then 1 else 0:=fun f=>by
      rw [List.range_succ,List.countP_append];simp [List.countP_cons]
    simp only [plS,stP] at h ⊢
    split at h
    · rename_i hg
      have I:=ih h
      have hp:(plS ts n).1=[]:=List.getLast?_eq_none_iff.mp hg
      rw [hp] at I ⊢
      refine ⟨by simp,by simp,?_⟩
      have:=I.ct
      rw [hr,hr]
      cases hb:decide ((n:Int)∈L) <;> simp [hb] at this ⊢ <;> omega
    · rename_i u hg
      obtain ⟨q,hq⟩:∃ q,(plS ts n).1=q++[u]:=List.getLast?_eq_some_iff.mp hg
      split at h
      · rename_i hb
        rw [z9i,Bool.and_eq_true] at h
        have I:=ih h.1
        have h2:((u:Int)∈L)∨(n:Int)∉L:=by
          have:=h.2
          simp [z6f] at this
          exact this
        rw [if_pos hb]
        refine ⟨fun x hx=>?_,?_,?_⟩
        · rcases List.mem_append.mp hx with z | z
          · have:=I.lt x z;omega
          · have:x=n:=by simpa using z
            omega
        · refine List.pairwise_append.mpr ⟨I.up,by simp,fun x hx y hy hxl=>?_⟩
          have:y=n:=by simpa using hy
          subst this
          have hu:(u:Int)∉L:=by
            by_cases e:x=u
            · rw [← e];exact hxl
            · have hup:=I.up
              rw [hq] at hx hup
              have hxq:x∈q:=by
                rcases List.mem_append.mp hx with z | z
                · exact z
                · exact absurd (by simpa using z) e
              exact (List.pairwise_append.mp hup).2.2 x hxq u (by simp) hxl
          exact h2.resolve_left hu
        · have:=I.ct
          rw [hr,hr,List.countP_append,List.countP_append]
          cases hb2:decide ((n:Int)∈L) <;> simp [hb2,List.countP_cons] at this ⊢ <;> omega
      · rename_i hb
        rw [z9i,Bool.and_eq_true] at h
        have I:=ih h.1
        have h2:((u:Int)∈L)∨(n:Int)∈L:=by
          have:=h.2
          simp [z6f] at this
          exact this
        rw [if_neg hb]
        have hup:=I.up
        have hct:=I.ct
        have hlt:=I.lt
        rw [hq] at hup hct hlt ⊢
        rw [List.dropLast_concat]
        refine ⟨fun x hx=>?_,(List.pairwise_append.mp hup).1,?_⟩
        · have:=hlt x (by simp [hx]);omega
        · rw [List.countP_append,List.countP_append] at hct
          rw [hr,hr]
          cases hb1:decide ((u:Int)∈L) <;> cases hb2:decide ((n:Int)∈L) <;> simp [hb1,hb2,List.countP_cons] at hct ⊢ <;> first | omega | (simp at hb1 hb2;rcases h2 with z | z <;> contradiction)
theorem z8a {α:Type} (f:α→Bool):∀ l:List α,(l.countP fun t=>f t)+(l.countP fun t=>!f t)=l.length
  | []=>rfl
  | a::l=>by
    have ih:=z8a f l
    rw [List.countP_cons,List.countP_cons,List.length_cons]
    cases h:f a <;> simp <;> omega
theorem zen {L:List Int} {ts:List Bool} {n:Nat} (h:z6f (plS ts n).2 L=true) (hf:2*((List.range n).countP fun t:Nat=>decide ((t:Int)∈L))<n):∃ u,(plS ts n).1.getLast?=some u∧(u:Int)∉L∧u<n:=by
  have I:=zm9 ts n h
  have e1:=z8a (fun t:Nat=>decide ((t:Int)∈L)) (List.range n)
  rw [List.length_range] at e1
  have hct:=I.ct
  have hpos:0<(plS ts n).1.countP fun t:Nat=>!decide ((t:Int)∈L):=by omega
  obtain ⟨x,hx,hxl⟩:=List.countP_pos_iff.mp hpos
  have hxl:(x:Int)∉L:=by simpa using hxl
  have hne:(plS ts n).1≠[]:=List.ne_nil_of_mem hx
  have hs:=(List.dropLast_concat_getLast hne).symm
  refine ⟨(plS ts n).1.getLast hne,List.getLast?_eq_some_getLast hne,?_,I.lt _ (List.getLast_mem hne)⟩
  generalize hu:(plS ts n).1.getLast hne=u at hs
  have hup:=I.up
  rw [hs] at hx hup
  rcases List.mem_append.mp hx with z | z
  · exact (List.pairwise_append.mp hup).2.2 x z u (by simp) hxl
  · have:x=u:=by simpa using z
    rw [← this];exact hxl
noncomputable def z4x (ts:List Bool) (u n:Nat):List Az:=((List.range n).filter fun t:Nat=>!decide (t=u)).map fun t:Nat=>((u:Int),(t:Int),tv ts u==tv ts t)
noncomputable def za5 (ts:List Bool):List Int:=((List.range ts.length).filter fun t=>!tv ts t).map fun t:Nat=>(t:Int)
theorem z77 {ts:List Bool} {t:Nat} (h:t<ts.length):(t:Int)∈za5 ts↔tv ts t=false:=by
  unfold za5
  rw [List.mem_map]
  constructor
  · rintro ⟨j,hj,e⟩
    have:j=t:=by omega
    subst this
    simpa using (List.mem_filter.mp hj).2
  · exact fun z=>⟨t,List.mem_filter.mpr ⟨List.mem_range.mpr h,by simpa using z⟩,rfl⟩
theorem zty {L:List Int} {ts:List Bool} {u n:Nat} (h:z6f (z4x ts u n) L=true) (hu:(u:Int)∉L) {t:Nat} (ht:t<n) (hne:t≠u):((t:Int)∉L)↔(tv ts u=tv ts t):=by
  have:=List.all_eq_true.mp h ((u:Int),(t:Int),tv ts u==tv ts t) (List.mem_map.mpr ⟨t,List.mem_filter.mpr ⟨List.mem_range.mpr ht,by simpa using hne⟩,rfl⟩)
  simp [hu] at this
  by_cases z:(t:Int)∈L
  · simp [z] at this ⊢
    exact this
  · simp [z] at this ⊢
    exact this
structure Rise (k:Nat) (l:List Int):Prop where
  up:l.Pairwise (· < ·)
  ge:∀ x∈l,0≤x
  lt:∀ x∈l,x<(k:Int)
theorem z4q (n:Nat):∀ k,∀ l∈LLs n k,Rise k l
  | 0,l,h=>by
    have:l=[]:=by simpa [LLs] using h
    subst this;exact ⟨.nil,by simp,by simp⟩
  | k+1,l,h=>by
    simp only [LLs] at h
    rcases List.mem_append.mp h with h | h
    · have:=z4q n k l h
      exact ⟨this.up,this.ge,fun x hx=>by have:=this.lt x hx;omega⟩
    · obtain ⟨m,hm,rfl⟩:=List.mem_map.mp h
      have R:=z4q n k m (List.mem_filter.mp hm).1
      refine ⟨List.pairwise_append.mpr ⟨R.up,by simp,fun x hx y hy=>?_⟩,fun x hx=>?_,fun x hx=>?_⟩
      · have:=R.lt x hx
        have:y=(k:Int):=by simpa using hy
        omega
      · rcases List.mem_append.mp hx with z | z
        · exact R.ge x z
        · have:x=(k:Int):=by simpa using z
          omega
      · rcases List.mem_append.mp hx with z | z
        · have:=R.lt x z;omega
        · have:x=(k:Int):=by simpa using z
          omega
theorem zeg {n:Nat} (h1:1≤n):∀ k,∀ l∈LLs n k,2*l.length<n
  | 0,l,h=>by
    have:l=[]:=by simpa [LLs] using h
    subst this;simp;omega
  | k+1,l,h=>by
    simp only [LLs] at h
    rcases List.mem_append.mp h with h | h
    · exact zeg h1 k l h
    · obtain ⟨m,hm,rfl⟩:=List.mem_map.mp h
      have:=of_decide_eq_true (List.mem_filter.mp hm).2
      simp;omega
theorem zch {n:Nat}:∀ k l,Rise k l→2*l.length<n→l∈LLs n k
  | 0,l,R,_=>by
    have:l=[]:=by
      cases l with
      | nil=>rfl
      | cons a r=>have h1:=R.ge a (by simp);have h2:=R.lt a (by simp);omega
    subst this;simp [LLs]
  | k+1,l,R,hf=>by
    simp only [LLs]
    by_cases hk:(k:Int)∈l
    · have hne:l≠[]:=List.ne_nil_of_mem hk
      have hs:=(List.dropLast_concat_getLast hne).symm
      generalize l.getLast hne=z at hs
      generalize l.dropLast=m at hs
      subst hs
      have hup:=List.pairwise_append.mp R.up
      have hz:z=(k:Int):=by
        rcases List.mem_append.mp hk with y | y
        · have:=hup.2.2 _ y z (by simp)
          have:=R.lt z (by simp)
          omega
        · exact (by simpa using y:(k:Int)=z).symm
      subst hz
      rw [List.length_append,List.length_singleton] at hf
      refine List.mem_append.mpr (.inr (List.mem_map.mpr ⟨m,List.mem_filter.mpr ⟨zch k m ⟨hup.1,fun x hx=>R.ge x (by simp [hx]),fun x hx=>hup.2.2 x hx _ (by simp)⟩ (by omega),decide_eq_true (by omega)⟩,rfl⟩))
    · refine List.mem_append.mpr (.inl (zch k l ⟨R.up,R.ge,fun x hx=>?_⟩ hf))
      have h1:=R.lt x hx
      have h2:x≠(k:Int):=fun e=>hk (by rw [← e];exact hx)
      omega
theorem zd8 {l:List Int} (h:l.Nodup) (a:Int):l.count a=if a∈l then 1 else 0:=by
  induction l with
  | nil=>rfl
  | cons b r ih =>
    have hn:=List.nodup_cons.mp h
    rw [List.count_cons,ih hn.2]
    by_cases e:b=a
    · subst e
      rw [if_neg hn.1];simp
    · have e2:¬ a=b:=fun z=>e z.symm
      simp [e,e2]
theorem zga {l m:List Int} (h1:l.Nodup) (h2:m.Nodup) (h:∀ a,a∈l↔a∈m):l.Perm m:=by
  refine List.perm_iff_count.mpr fun a=>?_
  rw [zd8 h1,zd8 h2]
  by_cases z:a∈m
  · rw [if_pos z,if_pos ((h a).mpr z)]
  · rw [if_neg z,if_neg (fun y=>z ((h a).mp y))]
theorem zek {l:List Int} (h:l.Pairwise (· < ·)):l.Nodup:=h.imp fun z=>Int.ne_of_lt z
theorem zk3 {l m:List Int} (h1:l.Pairwise (· < ·)) (h2:m.Pairwise (· < ·)) (h:∀ a,a∈l↔a∈m):l=m:=by
  refine List.Perm.eq_of_pairwise (le:=(· < ·)) (fun a b _ _ x y=>?_) h1 h2 (zga (zek h1) (zek h2) h)
  omega
theorem zdu (ts:List Bool):∀ n,∀ u∈(plS ts n).1,u<n
  | 0=>by simp [plS]
  | n+1=>by
    intro u hu
    have ih:=zdu ts n
    simp only [plS,stP] at hu
    split at hu
    · rcases List.mem_append.mp hu with z | z
      · have:=ih u z;omega
      · have:u=n:=by simpa using z
        omega
    · split at hu
      · rcases List.mem_append.mp hu with z | z
        · have:=ih u z;omega
        · have:u=n:=by simpa using z
          omega
      · have:=ih u ((List.dropLast_sublist _).subset hu);omega
def Say (ts:List Bool) (n:Nat) (a:Az):Prop:=∃ i j:Nat,i<n∧j<n∧i≠j∧a=((i:Int),(j:Int),tv ts i==tv ts j)
theorem Say.mono {ts:List Bool} {n m:Nat} {a:Az} (h:Say ts n a) (hm:n≤m):Say ts m a:=let ⟨i,j,h1,h2,h3,e⟩:=h;⟨i,j,by omega,by omega,h3,e⟩
theorem z9w (ts:List Bool):∀ n,∀ a∈(plS ts n).2,Say ts n a
  | 0=>by simp [plS]
  | n+1=>by
    intro a ha
    have ih:=z9w ts n
    simp only [plS,stP] at ha
    split at ha
    · exact (ih a ha).mono (by omega)
    · rename_i u hg
      have hu:=zdu ts n u (List.mem_of_getLast? hg)
      split at ha
      · rename_i hb
        rcases List.mem_append.mp ha with z | z
        · exact (ih a z).mono (by omega)
        · have:a=((u:Int),(n:Int),true):=by simpa using z
          exact ⟨u,n,by omega,by omega,by omega,by rw [hb];exact this⟩
      · rename_i hb
        rcases List.mem_append.mp ha with z | z
        · exact (ih a z).mono (by omega)
        · have:a=((u:Int),(n:Int),false):=by simpa using z
          refine ⟨u,n,by omega,by omega,by omega,?_⟩
          rw [this]
          have:(tv ts u==tv ts n)=false:=by simpa using hb
          rw [this]
theorem zah {ts:List Bool} {u n:Nat} (hu:u<n):∀ a∈z4x ts u n,Say ts n a:=by
  intro a ha
  obtain ⟨t,ht,rfl⟩:=List.mem_map.mp ha
  obtain ⟨h1,h2⟩:=List.mem_filter.mp ht
  exact ⟨u,t,hu,List.mem_range.mp h1,fun e=>by subst e;simp at h2,rfl⟩
theorem zfc {ts:List Bool} {as:List Az} (h:∀ a∈as,Say ts ts.length a):z6f as (za5 ts)=true:=by
  refine List.all_eq_true.mpr fun a ha=>?_
  obtain ⟨i,j,hi,hj,_,rfl⟩:=h a ha
  have m1:=z77 hi
  have m2:=z77 hj
  cases e1:tv ts i <;> cases e2:tv ts j <;> simp [m1,m2,e1,e2]
theorem z5z (ts:List Bool):Rise ts.length (za5 ts):=by
  unfold za5
  refine ⟨?_,fun x hx=>?_,fun x hx=>?_⟩
  · rw [List.pairwise_map]
    exact (List.pairwise_lt_range.filter _).imp fun h=>by omega
  · obtain ⟨t,_,rfl⟩:=List.mem_map.mp hx;omega
  · obtain ⟨t,ht,rfl⟩:=List.mem_map.mp hx
    have:=List.mem_range.mp (List.mem_filter.mp ht).1
    omega
theorem zb8 {n:Nat} {L:List Int} (R:Rise n L):((List.range n).countP fun t:Nat=>decide ((t:Int)∈L))=L.length:=by
  have e:((List.range n).filter fun t:Nat=>decide ((t:Int)∈L)).map (fun t:Nat=>(t:Int))=L:=by
    refine zk3 ?_ R.up fun a=>?_
    · rw [List.pairwise_map]
      exact (List.pairwise_lt_range.filter _).imp fun h=>by omega
    · rw [List.mem_map]
      constructor
      · rintro ⟨t,ht,rfl⟩
        simpa using (List.mem_filter.mp ht).2
      · intro ha
        have h1:=R.ge a ha
        have h2:=R.lt a ha
        refine ⟨a.toNat,List.mem_filter.mpr ⟨List.mem_range.mpr (by omega),?_⟩,by omega⟩
        rw [show ((a.toNat:Nat):Int)=a by omega]
        exact decide_eq_true ha
  have:=congrArg List.length e
  rw [List.length_map,← List.countP_eq_length_filter] at this
  exact this
theorem ze9 {ts:List Bool} (hf:2*(za5 ts).length<ts.length):∃ u,(plS ts ts.length).1.getLast?=some u∧u<ts.length∧tv ts u=true∧∀ L,Rise ts.length L→2*L.length<ts.length→z6f ((plS ts ts.length).2++z4x ts u ts.length) L=true→L=za5 ts:=by
  have hfit:=zfc (z9w ts ts.length)
  obtain ⟨u,hu,hul,hun⟩:=zen hfit (by rw [zb8 (z5z ts)];exact hf)
  have htu:tv ts u=true:=by
    cases e:tv ts u with
    | true=>rfl
    | false=>exact absurd ((z77 hun).mpr e) hul
  refine ⟨u,hu,hun,htu,fun L R hL h=>?_⟩
  rw [z9i,Bool.and_eq_true] at h
  obtain ⟨v,hv,hvl,_⟩:=zen h.1 (by rw [zb8 R];exact hL)
  rw [hu] at hv
  cases hv
  refine zk3 R.up (z5z ts).up fun a=>?_
  have key:∀ t:Nat,t<ts.length→((t:Int)∈L↔(t:Int)∈za5 ts):=fun t ht=>by
    rw [z77 ht]
    by_cases e:t=u
    · subst e
      exact ⟨fun z=>absurd z hvl,fun z=>by rw [htu] at z;cases z⟩
    · have k:=zty h.2 hvl ht e
      rw [htu] at k
      constructor
      · intro z
        cases e2:tv ts t with
        | false=>rfl
        | true=>exact absurd z (k.mpr e2.symm)
      · intro z
        refine Classical.byContradiction fun y=>?_
        rw [← k.mp y] at z
        cases z
  constructor
  · intro ha
    have h1:=R.ge a ha
    have h2:=R.lt a ha
    have e:((a.toNat:Nat):Int)=a:=by omega
    rw [← e] at ha ⊢
    exact (key _ (by omega)).mp ha
  · intro ha
    have h1:=(z5z ts).ge a ha
    have h2:=(z5z ts).lt a ha
    have e:((a.toNat:Nat):Int)=a:=by omega
    rw [← e] at ha ⊢
    exact (key _ (by omega)).mpr ha
section
variable {μ:M} {ts:List Bool} {s:Nat}
noncomputable abbrev dT (ts:List Bool):D:=.lst (ts.map D.bl)
theorem zge {i:Nat} (h:i<ts.length):fIx (.lst (ts.map D.bl)) (.int (i:Int)) μ=some (.bl (tv ts i),μ):=by
  rw [zf9 (by simpa using h),List.getElem_map]
  have:tv ts i=ts[i]:=by simp [tv,h]
  rw [this]
theorem zev {sy:List Az} {i j:Nat} (hs:μ[s]?=some (some (.lst (sy.map dZ)))) (hi:i<ts.length) (hj:j<ts.length) (hl:sy.length<1000) :
    Wp (z1b [.lst (ts.map D.bl),.ref s,.int (i:Int),.int (j:Int)] μ) fun x μ'=>x=.bl (tv ts i==tv ts j)∧μ'[s]?=some (some (.lst ((sy++[((i:Int),(j:Int),tv ts i==tv ts j)]).map dZ)))∧On s μ μ':=by
  unfold z1b z62
  refine (z6h rfl).mpr ?_
  show Ws (z1i _ _ [some (.lst (ts.map D.bl)),some (.ref s),some (.int (i:Int)),some (.int (j:Int)),none] μ) _
  have eb:decide (tv ts i=tv ts j)=(tv ts i==tv ts j):=by cases tv ts i <;> cases tv ts j <;> rfl
  simp_arith [zge hi,zge hj,eb,z5u hs]
  rw [zg7 (by simp)]
  simp_arith
  obtain ⟨μ1,e1,h1,o1⟩:=zbk (y:=dZ ((i:Int),(j:Int),tv ts i==tv ts j)) hs (by simp;omega)
  have e1':zea (.ref s) (.tup [.int (i:Int),.int (j:Int),.bl (tv ts i==tv ts j)]) μ=some (.non,μ1):=e1
  rw [e1']
  simp_arith
  exact ⟨trivial,by rw [h1];simp,o1⟩
theorem zql {k:Nat} {ds:List D} {y:D} (h:μ[k]?=some (some (.lst (ds++[y])))):∃ μ',zsx (.ref k) μ=some (y,μ')∧μ'[k]?=some (some (.lst ds))∧On k μ μ' :=
  ⟨μ.set k (some (.lst ds)),by simp [zsx,z83 h],z9r h,zf1⟩
structure Kq (s:Nat) (μ μ':M):Prop where
  len:μ.length≤μ'.length
  at_:∀ j,j<μ.length→j≠s→μ'[j]?=μ[j]?
noncomputable def dN (n:Nat):D:=.int (n:Int)
theorem zfz {u:Nat} (hs:μ[s]?=some (some (.lst []))) (hl:ts.length≤200) (hu:(plS ts ts.length).1.getLast?=some u) :
    Wp (z11 z1b [.lst (ts.map D.bl),.ref s] μ) fun x μ'=>x=.int (u:Int)∧μ'[s]?=some (some (.lst ((plS ts ts.length).2.map dZ)))∧Kq s μ μ':=by
  have slt:s<μ.length:=(List.getElem?_eq_some_iff.mp hs).1
  unfold z11 z3g
  refine (z6h rfl).mpr ?_
  show Ws (z1i _ _ [some (.lst (ts.map D.bl)),some (.ref s),none,none] μ) _
  simp_arith
  rw [zi1 (by simp)]
  simp_arith
  rw [z5d,List.length_map]
  simp_arith
  rw [z9v (by omega)]
  simp_arith
  have hs0:(μ++[some (O.lst [])])[s]?=some (some (.lst [])):=gr_app.get hs
  refine zca (fun i Γ μ'=>∃ o3:Option D,Γ=[some (.lst (ts.map D.bl)),some (.ref s),some (.ref μ.length),o3]∧μ'[s]?=some (some (.lst ((plS ts i).2.map dZ)))∧μ'[μ.length]?=some (some (.lst ((plS ts i).1.map dN)))∧Kq s μ μ') ⟨_,rfl,hs0,by simp [plS],⟨by simp,fun j hj _=>List.getElem?_append_left hj⟩⟩ ?_ ?_
  · rintro i Γ μ1 hi ⟨o3,rfl,h1,h2,k1⟩
    obtain ⟨l1,l2⟩:=z9x ts i
    have hn:μ.length≠s:=by omega
    simp_arith
    have tr:tru μ1 (.ref μ.length)=some (!((plS ts i).1.map dN).isEmpty):=by simp [tru,h2]
    refine ⟨_,tr,?_⟩
    cases hg:(plS ts i).1.getLast? with
    | none =>
      have hp:(plS ts i).1=[]:=List.getLast?_eq_none_iff.mp hg
      rw [hp] at h2 ⊢
      simp_arith [List.map_nil,List.isEmpty_nil,Bool.not_true,Bool.not_false,z5u h2]
      obtain ⟨μ2,e2,h3,o2⟩:=zbk (y:=dN i) h2 (by simp)
      have e2':zea (.ref μ.length) (.int (i:Int)) μ1=some (.non,μ2):=e2
      rw [e2']
      simp_arith
      refine ⟨_,rfl,?_,?_,⟨by rw [o2.len];exact k1.len,fun j hj n=>by rw [o2.at_ j (by omega)];exact k1.at_ j hj n⟩⟩
      · rw [o2.at_ s (Ne.symm hn),h1];simp only [plS,stP,hg]
      · rw [h3];simp only [plS,stP,hg,hp];simp
    | some v =>
      obtain ⟨q,hq⟩:∃ q,(plS ts i).1=q++[v]:=List.getLast?_eq_some_iff.mp hg
      have hv:v<ts.length:=by have:=zdu ts i v (by rw [hq];simp);omega
      have h2':=h2
      rw [hq,List.map_append] at h2'
      have hix:fIx (.ref μ.length) (.int (-1)) μ1=some (.int (v:Int),μ1):=by rw [z89 h2'];show kD μ1 (atI (q.map dN++[dN v]) (-1))=_;rw [L3.atI_last];rfl
      have he:(((plS ts i).1.map dN).isEmpty)=false:=by rw [hq];simp
      simp_arith [he,Bool.not_true,Bool.not_false,hix]
      refine (zev h1 hv hi (by omega)).imp ?_
      rintro _ μ2 ⟨rfl,h3,o2⟩
      have hP2:μ2[μ.length]?=some (some (.lst (q.map dN++[dN v]))):=by rw [o2.at_ _ hn];exact h2'
      have k2:Kq s μ μ2:=⟨by rw [o2.len];exact k1.len,fun j hj n=>by rw [o2.at_ j n];exact k1.at_ j hj n⟩
      have hst:plS ts (i+1)=if (tv ts v==tv ts i)=true then ((plS ts i).1++[i],(plS ts i).2++[((v:Int),(i:Int),true)]) else ((plS ts i).1.dropLast,(plS ts i).2++[((v:Int),(i:Int),false)]):=by simp only [plS,stP,hg]
      cases hb:(tv ts v==tv ts i) with
      | true =>
        rw [hb] at h3 hst
        simp_arith [z5u hP2]
        obtain ⟨μ3,e4,h4,o4⟩:=zbk (y:=dN i) hP2 (by rw [hq] at l1;simp at l1 ⊢;omega)
        have e4':zea (.ref μ.length) (.int (i:Int)) μ2=some (.non,μ3):=e4
        rw [e4']
        simp_arith
        refine ⟨_,rfl,?_,?_,⟨by rw [o4.len];exact k2.len,fun j hj n=>by rw [o4.at_ j (by omega)];exact k2.at_ j hj n⟩⟩
        · rw [o4.at_ s (Ne.symm hn),h3,hst,if_pos rfl]
        · rw [h4,hst,if_pos rfl,hq];simp
      | false =>
        rw [hb] at h3 hst
        obtain ⟨μ3,e4,h4,o4⟩:=zql hP2
        simp_arith
        refine ⟨⟨_,z50 hP2⟩,?_⟩
        rw [e4]
        simp_arith
        refine ⟨_,rfl,?_,?_,⟨by rw [o4.len];exact k2.len,fun j hj n=>by rw [o4.at_ j (by omega)];exact k2.at_ j hj n⟩⟩
        · rw [o4.at_ s (Ne.symm hn),h3,hst,if_neg (by simp)]
        · rw [h4,hst,if_neg (by simp),hq];simp
  · rintro Γ μ1 ⟨o3,rfl,h1,h2,k1⟩
    simp_arith
    obtain ⟨q,hq⟩:=List.getLast?_eq_some_iff.mp hu
    rw [hq,List.map_append] at h2
    have hix:fIx (.ref μ.length) (.int (-1)) μ1=some (.int (u:Int),μ1):=by rw [z89 h2];show kD μ1 (atI (q.map dN++[dN u]) (-1))=_;rw [L3.atI_last];rfl
    rw [hix]
    simp_arith
    exact ⟨trivial,h1,k1⟩
end
section
variable {μ:M} {ts:List Bool} {CF:Addr}
theorem zpc {Γ:G} {i j:Nat} {Q:Out→G→M→Prop} (h:Q .nx ((Γ.set i (some (.ref μ.length))).set j (some (.ref (μ.length+1)))) (μ++[some (.lst [])]++[some (.lst [])])):Ws (zpw i j (z03 (vL zd4 z1f) (z03 (vL zd4 z1f) z1f)) Γ μ) Q:=by
  refine ⟨_,_,_,?_,h⟩
  simp [zpw,zd4]
theorem zc6 (ts:List Bool):(za5 ts).length=ts.count false:=by
  unfold za5
  rw [List.length_map,← List.countP_eq_length_filter]
  have e:ts=(List.range ts.length).map (tv ts):=by
    refine List.ext_getElem (by simp) fun i h1 h2=>?_
    simp [tv,h1]
  conv=>rhs;rw [e,List.count_eq_countP,List.countP_map]
  refine List.countP_congr fun t _=>?_
  show _↔((tv ts t)==false)=true
  cases tv ts t <;> simp
theorem z7c:z61 (.lst (ts.map D.bl)) (.bl false) μ=some (.int (ts.count false:Int),μ):=by
  rw [zlg (ds:=ts.map D.bl) rfl (zlj (e:=fun b=>b==false) (fun a=>rfl) ts),List.countP_map]
  rfl
noncomputable abbrev zoc (CF:Addr):FX:=z4p (z11 z1b) z1b CF
theorem z8f {u n:Nat}:z4x ts u (n+1)=z4x ts u n++if n=u then [] else [((u:Int),(n:Int),tv ts u==tv ts n)]:=by
  unfold z4x
  rw [List.range_succ,List.filter_append,List.map_append]
  congr 1
  by_cases e:n=u
  · simp [e]
  · simp [e]
theorem z7d {u:Nat}:∀ n,(z4x ts u n).length≤n
  | 0=>by simp [z4x]
  | n+1=>by
    have:=z7d (u:=u) n
    rw [z8f,List.length_append]
    split <;> simp <;> omega
theorem zcv {u:Nat} (hl:ts.length≤200) (hf:2*(za5 ts).length<ts.length) (hu:(plS ts ts.length).1.getLast?=some u) (hun:u<ts.length) (htu:tv ts u=true) :
    Wp (zoc CF [.lst (ts.map D.bl)] μ) fun r μ'=>∃ a b,r=.ok (.tup [.ref a,.ref b])∧μ'[a]?=some (some (.lst (((plS ts ts.length).2++z4x ts u ts.length).map dZ)))∧μ'[b]?=some (some (.lst (ts.map D.bl)))∧Gr μ μ'∧μ.length≤a:=by
  unfold zoc z4p z5g
  refine (zcn rfl).mpr ?_
  show Wt (z6l _ _ [some (.lst (ts.map D.bl)),none,none,none,none] μ) _
  rw [zc6] at hf
  simp_arith
  refine ⟨⟨_,rfl⟩,?_⟩
  simp_arith [z7c]
  rw [z4s,if_pos (show CMul 2 (ts.count false:Int) from .inl ⟨by decide,by decide⟩)]
  simp_arith
  rw [z5d,List.length_map]
  simp_arith
  rw [decide_eq_false (by omega)]
  simp_arith
  refine zpc ?_
  simp_arith
  have h1:(μ++[some (O.lst [])]++[some (O.lst [])])[μ.length]?=some (some (.lst [])):=by simp
  have h2:(μ++[some (O.lst [])]++[some (O.lst [])])[μ.length+1]?=some (some (.lst [])):=by simp
  have g0:Gr μ (μ++[some (O.lst [])]++[some (O.lst [])]):=gr_app.trans gr_app
  have hlen:(μ++[some (O.lst [])]++[some (O.lst [])]).length=μ.length+2:=by simp
  generalize μ++[some (O.lst [])]++[some (O.lst [])]=μ0 at h1 h2 g0 hlen
  refine (zfz h1 hl hu).imp ?_
  rintro _ μ1 ⟨rfl,h3,k1⟩
  simp_arith
  rw [z5d,List.length_map]
  simp_arith
  rw [z9v (by omega)]
  simp_arith
  have h4:μ1[μ.length+1]?=some (some (.lst (([]:List Bool).map D.bl))):=by rw [k1.at_ _ (by omega) (by omega)];exact h2
  have g1:Gr μ μ1:=⟨by have:=k1.len;omega,fun j hj=>by rw [k1.at_ j (by omega) (by omega)];exact g0.at_ j hj⟩
  have pl:=(z9x ts ts.length).2
  refine zca (fun i Γ μ'=>∃ o4:Option D,Γ=[some (.lst (ts.map D.bl)),some (.ref μ.length),some (.ref (μ.length+1)),some (.int (u:Int)),o4]∧μ'[μ.length]?=some (some (.lst (((plS ts ts.length).2++z4x ts u i).map dZ)))∧μ'[μ.length+1]?=some (some (.lst ((ts.take i).map D.bl)))∧Gr μ μ') ⟨_,rfl,by rw [h3];simp [z4x],by rw [h4];simp,g1⟩ ?_ ?_
  · rintro i Γ μ2 hi ⟨o4,rfl,h5,h6,g2⟩
    have al:=z7d (ts:=ts) (u:=u) i
    have ht:ts.take (i+1)=ts.take i++[tv ts i]:=by
      rw [← List.take_append_getElem hi]
      simp [tv,hi]
    have last:∀ (b:Bool) (μ3:M),b=tv ts i→μ3[μ.length]?=some (some (.lst (((plS ts ts.length).2++z4x ts u (i+1)).map dZ)))→μ3[μ.length+1]?=some (some (.lst ((ts.take i).map D.bl)))→Gr μ μ3→Wp (zea (.ref (μ.length+1)) (.bl b) μ3) fun _ μ'=>∃ o4:Option D,([some (.lst (ts.map D.bl)),some (.ref μ.length),some (.ref (μ.length+1)),some (.int (u:Int)),some (.int (i:Int))]:G)=[some (.lst (ts.map D.bl)),some (.ref μ.length),some (.ref (μ.length+1)),some (.int (u:Int)),o4]∧μ'[μ.length]?=some (some (.lst (((plS ts ts.length).2++z4x ts u (i+1)).map dZ)))∧μ'[μ.length+1]?=some (some (.lst ((ts.take (i+1)).map D.bl)))∧Gr μ μ':=by
      rintro b μ3 rfl q1 q2 q3
      obtain ⟨μ4,e4,q4,o⟩:=zbk (y:=.bl (tv ts i)) q2 (by simp;omega)
      refine zk1 e4 ⟨_,rfl,by rw [o.at_ _ (by omega)];exact q1,?_,o.gr q3 (by omega)⟩
      rw [q4,ht];simp
    simp_arith [z5u h6]
    by_cases e:i=u
    · have ed:decide ((i:Int)=(u:Int))=true:=decide_eq_true (by omega)
      simp_arith [ed]
      refine (last true μ2 (by rw [e,htu]) ?_ h6 g2).imp fun _ _ h=>h
      rw [z8f,if_pos e,List.append_nil];exact h5
    · have ed:decide ((i:Int)=(u:Int))=false:=decide_eq_false (by omega)
      simp_arith [ed]
      refine (zev h5 hun hi (by simp;omega)).imp ?_
      rintro _ μ3 ⟨rfl,h7,o3⟩
      simp_arith
      refine (last _ μ3 (by rw [htu];cases tv ts i <;> rfl) ?_ (by rw [o3.at_ _ (by omega)];exact h6) (o3.gr g2 (by omega))).imp fun _ _ h=>h
      rw [z8f,if_neg e,← List.append_assoc];exact h7
  · rintro Γ μ2 ⟨o4,rfl,h5,h6,g2⟩
    simp_arith
    rw [zg7 (by simp)]
    simp_arith
    exact ⟨_,_,rfl,h5,by rw [h6,List.take_length],g2,Nat.le_refl _⟩
end
theorem zki {a b:List Int} {x:Int} (h:a++[x]=b++[x]):a=b:=by
  have:=congrArg List.dropLast h
  simpa using this
theorem zak (n:Nat):∀ k,(LLs n k).Nodup
  | 0=>by simp [LLs]
  | k+1=>by
    have ih:=zak n k
    simp only [LLs]
    refine List.nodup_append.mpr ⟨ih,?_,?_⟩
    · refine List.Pairwise.map _ (fun a b hab e=>hab (zki e)) (ih.filter _)
    · intro a ha b hb e
      subst e
      obtain ⟨m,hm,rfl⟩:=List.mem_map.mp hb
      have:=(z4q n k _ ha).lt (k:Int) (by simp)
      omega
theorem zbi {α:Type} {x:α} {p:α→Bool}:∀ {l:List α},l.Nodup→x∈l→p x=true→(∀ y∈l,p y=true→y=x)→l.filter p=[x]
  | [],_,h,_,_=>by cases h
  | a::l,hn,h,hp,hq=>by
    have hn':=List.nodup_cons.mp hn
    by_cases e:a=x
    · subst e
      rw [List.filter_cons_of_pos hp]
      congr 1
      refine List.filter_eq_nil_iff.mpr fun y hy z=>hn'.1 ?_
      rw [← hq y (by simp [hy]) z];exact hy
    · have hx:x∈l:=by
        rcases List.mem_cons.mp h with z | z
        · exact absurd z.symm e
        · exact z
      rw [List.filter_cons_of_neg (fun z=>e (hq a (by simp) z))]
      exact zbi hn'.2 hx hp fun y hy=>hq y (by simp [hy])
theorem sortL_mem {nss:List (List Int)} {l:List Int}:l∈z43 nss↔l∈nss:=(List.mergeSort_perm nss _).mem_iff
theorem zgj {ts:List Bool} {u:Nat} (hf:2*(za5 ts).length<ts.length) (hu:(plS ts ts.length).1.getLast?=some u):z35 ts.length ((plS ts ts.length).2++z4x ts u ts.length)=[za5 ts]:=by
  obtain ⟨v,hv,hvn,htv,one⟩:=ze9 hf
  rw [hu] at hv
  cases hv
  unfold z35
  refine zbi ((List.mergeSort_perm (LLs ts.length ts.length) _).nodup_iff.mpr (zak _ _)) (sortL_mem.mpr (zch _ _ (z5z ts) hf)) (zfc fun a ha=>?_) fun L hL h=>?_
  · rcases List.mem_append.mp ha with z | z
    · exact z9w ts _ a z
    · exact zah hvn a z
  · have hL:=sortL_mem.mp hL
    exact one L (z4q _ _ L hL) (zeg (by omega) _ L hL) h
theorem zfw (ts:List Bool):znd ts.length [za5 ts]=(List.range ts.length).filter fun t=>tv ts t:=by
  unfold znd
  refine List.filter_congr fun t ht=>?_
  have:=z77 (ts:=ts) (List.mem_range.mp ht)
  cases e:tv ts t <;> simp [this,e]
theorem zix {n:Nat} {as bs:List Az}:∀ l∈z35 n (as++bs),l∈z35 n as:=fun l hl=>by
  obtain ⟨h1,h2⟩:=List.mem_filter.mp hl
  rw [z9i,Bool.and_eq_true] at h2
  exact List.mem_filter.mpr ⟨h1,h2.1⟩
noncomputable def zam (l:List Int) (a:Az):Az:=(a.1,a.2.1,a.2.2 != decide (a.1∈l))
theorem ziw {n:Nat} {as:List Az} {l:List Int} (h:l∈z35 n as):l∈z35 n (as.map (zam l)):=by
  obtain ⟨h1,h2⟩:=List.mem_filter.mp h
  refine List.mem_filter.mpr ⟨h1,List.all_eq_true.mpr fun b hb=>?_⟩
  obtain ⟨a,ha,rfl⟩:=List.mem_map.mp hb
  have:=List.all_eq_true.mp h2 a ha
  unfold zam
  by_cases z:a.1∈l
  · simp [z]
  · simp [z] at this ⊢
    exact this
noncomputable def z87 (n:Nat):List Int:=(List.range n).map fun i:Nat=>(i:Int)
noncomputable def at0 (s:List Int) (j:Int):Int:=s.getD j.toNat 0
theorem mem_nums {n:Nat} {j:Int}:j∈z87 n↔0≤j∧j<(n:Int):=by
  unfold z87
  rw [List.mem_map]
  exact ⟨fun ⟨i,h,e⟩=>by have:=List.mem_range.mp h;omega,fun ⟨h1,h2⟩=>⟨j.toNat,List.mem_range.mpr (by omega),by omega⟩⟩
section
variable {n:Nat} {o:List Int} {L:List Int}
theorem zo9 (h:o.Perm (z87 n)):o.length=n:=by rw [h.length_eq];simp [z87]
theorem zo8 (h:o.Perm (z87 n)):o.Nodup:=by
  refine h.nodup_iff.mpr ?_
  unfold z87
  refine List.Pairwise.map _ (fun a b hab e=>hab (by omega)) List.nodup_range
theorem zef (h:o.Perm (z87 n)) {j:Int} (h0:0≤j) (h1:j<(n:Int)):∃ hj:j.toNat<o.length,at0 o j=o[j.toNat]:=by
  have hj:j.toNat<o.length:=by rw [zo9 h];omega
  refine ⟨hj,?_⟩
  unfold at0
  rw [List.getD_eq_getElem?_getD,List.getElem?_eq_getElem hj];rfl
theorem z8e (h:o.Perm (z87 n)) {j:Int} (h0:0≤j) (h1:j<(n:Int)):0≤at0 o j∧at0 o j<(n:Int):=by
  obtain ⟨hj,e⟩:=zef h h0 h1
  rw [e]
  exact mem_nums.mp (h.mem_iff.mp (List.getElem_mem hj))
theorem zee (h:o.Perm (z87 n)) {i j:Int} (i0:0≤i) (i1:i<(n:Int)) (j0:0≤j) (j1:j<(n:Int)) (e:at0 o i=at0 o j):i=j:=by
  obtain ⟨hi,e1⟩:=zef h i0 i1
  obtain ⟨hj,e2⟩:=zef h j0 j1
  rw [e1,e2] at e
  have hp:=List.pairwise_iff_getElem.mp (zo8 h)
  refine Classical.byContradiction fun hne=>?_
  rcases Nat.lt_or_gt_of_ne (show i.toNat≠j.toNat by omega) with z | z
  · exact hp _ _ hi hj z e
  · exact hp _ _ hj hi z e.symm
noncomputable def ren (o l:List Int):List Int:=zdq (l.map (at0 o))
theorem z7t (l:List Int):(zdq l).Perm l:=List.mergeSort_perm l _
theorem znk:(ren o L).length=L.length:=by unfold ren;rw [(z7t _).length_eq,List.length_map]
theorem mem_ren {x:Int}:x∈ren o L↔∃ t∈L,at0 o t=x:=by unfold ren;rw [(z7t _).mem_iff,List.mem_map]
theorem z8n (h:o.Perm (z87 n)) (R:Rise n L) {j:Int} (h0:0≤j) (h1:j<(n:Int)):at0 o j∈ren o L↔j∈L:=by
  rw [mem_ren]
  constructor
  · rintro ⟨t,ht,e⟩
    rw [← zee h (R.ge t ht) (R.lt t ht) h0 h1 e];exact ht
  · exact fun z=>⟨j,z,rfl⟩
theorem zhi {l:List Int} (h1:l.Pairwise (·≤·)) (h2:l.Nodup):l.Pairwise (· < ·):=(List.pairwise_and_iff.mpr ⟨h1,h2⟩).imp fun z=>by have:=z.1;have:=z.2;omega
theorem zkh (l:List Int):(zdq l).Pairwise (·≤·):=by
  have:=List.pairwise_mergeSort (le:=fun a b:Int=>decide (a≤b)) (fun a b c x y=>by simp at *;omega) (fun a b=>by simp;omega) l
  exact this.imp fun h=>by simpa using h
theorem zex (h:o.Perm (z87 n)) (R:Rise n L):Rise n (ren o L):=by
  have hn:(ren o L).Nodup:=by
    unfold ren
    refine (z7t _).nodup_iff.mpr (List.pairwise_map.mpr ?_)
    refine List.Pairwise.imp_of_mem (fun {a b} ha hb hab e=>?_) R.up
    have:=zee h (R.ge a ha) (R.lt a ha) (R.ge b hb) (R.lt b hb) e
    omega
  refine ⟨zhi (zkh _) hn,fun x hx=>?_,fun x hx=>?_⟩
  · obtain ⟨t,ht,rfl⟩:=mem_ren.mp hx
    exact (z8e h (R.ge t ht) (R.lt t ht)).1
  · obtain ⟨t,ht,rfl⟩:=mem_ren.mp hx
    exact (z8e h (R.ge t ht) (R.lt t ht)).2
theorem znl (h:o.Perm (z87 n)) {L':List Int} (R:Rise n L) (R':Rise n L') (e:ren o L=ren o L'):L=L':=by
  refine zk3 R.up R'.up fun a=>⟨fun ha=>?_,fun ha=>?_⟩
  · have:=(z8n h R (R.ge a ha) (R.lt a ha)).mpr ha
    rw [e] at this
    exact (z8n h R' (R.ge a ha) (R.lt a ha)).mp this
  · have:=(z8n h R' (R'.ge a ha) (R'.lt a ha)).mpr ha
    rw [← e] at this
    exact (z8n h R (R'.ge a ha) (R'.lt a ha)).mp this
end
theorem zf0:∀ {l m:List (List Int)},l.Nodup→(∀ x∈l,x∈m)→m.length≤l.length→l.Perm m
  | [],m,_,_,h=>by
    have:m=[]:=List.length_eq_zero_iff.mp (by simpa using h)
    subst this;exact .nil
  | a::r,m,hn,hs,h=>by
    have hn':=List.nodup_cons.mp hn
    have hp:=List.perm_cons_erase (hs a (by simp))
    have hl:(m.erase a).length+1=m.length:=by have:=hp.length_eq;simp only [List.length_cons] at this;omega
    have ih:=zf0 (l:=r) (m:=m.erase a) hn'.2 (fun x hx=>by
      have hne:x≠a:=fun e=>hn'.1 (by rw [← e];exact hx)
      exact (List.mem_erase_of_ne hne).mpr (hs x (by simp [hx]))) (by rw [List.length_cons] at h;omega)
    exact (ih.cons a).trans hp.symm
theorem zjk {α:Type} {f g:α→Bool}:∀ {l:List α},(∀ a∈l,f a=g a)→l.all f=l.all g
  | [],_=>rfl
  | a::l,h=>by rw [List.all_cons,List.all_cons,h a (by simp),zjk fun b hb=>h b (by simp [hb])]
section
variable {n:Nat} {o:List Int}
theorem zow (h:o.Perm (z87 n)) (h1:1≤n):((LLs n n).map (ren o)).Perm (LLs n n):=by
  refine zf0 ?_ (fun x hx=>?_) (by rw [List.length_map];exact Nat.le_refl _)
  · refine List.pairwise_map.mpr (List.Pairwise.imp_of_mem (fun {a b} ha hb hab e=>hab (znl h (z4q n n a ha) (z4q n n b hb) e)) (zak n n))
  · obtain ⟨l,hl,rfl⟩:=List.mem_map.mp hx
    exact zch n _ (zex h (z4q n n l hl)) (by rw [znk];exact zeg h1 n l hl)
noncomputable def z6t (o:List Int) (a:Az):Az:=(at0 o a.1,at0 o a.2.1,a.2.2)
theorem zle (h:o.Perm (z87 n)) {as:List Az} (ho:as.all (okZ (n:Int))=true) {L:List Int} (R:Rise n L):z6f (as.map (z6t o)) (ren o L)=z6f as L:=by
  unfold z6f
  rw [List.all_map]
  refine zjk fun a ha=>?_
  have hk:=List.all_eq_true.mp ho a ha
  simp [okZ] at hk
  have e1:=z8n h R hk.1.1.1 hk.1.1.2
  have e2:=z8n h R hk.1.2.1 hk.1.2.2
  show (decide (at0 o a.1∈ren o L)||((!decide (at0 o a.2.1∈ren o L))==a.2.2))=_
  rw [decide_eq_decide.mpr e1,decide_eq_decide.mpr e2]
theorem zkg (ls:List (List Int)):(z43 ls).Pairwise fun a b=>L2.lexLt b a=false:=by
  have h3:(z43 ls).Pairwise (fun a b=>(!L2.lexLt b a)=true):=List.pairwise_mergeSort (le:=fun a b:List Int=>!L2.lexLt b a) (fun a b c x y=>by
    simp only [Bool.not_eq_true'] at *
    exact z79 c b a y x) (fun a b=>by
    cases h:L2.lexLt b a with
    | false=>rfl
    | true=>rw [z6a b a h];rfl) ls
  exact h3.imp fun h=>by simpa using h
theorem ziy (h:o.Perm (z87 n)) (h1:1≤n) {as:List Az} (ho:as.all (okZ (n:Int))=true):z35 n (as.map (z6t o))=z43 ((z35 n as).map (ren o)):=by
  refine zcr ?_ ((zkg _).filter _)
  unfold z35
  have p1:((z43 (LLs n n)).filter (z6f (as.map (z6t o)))).Perm ((LLs n n).filter (z6f (as.map (z6t o)))):=(List.mergeSort_perm (LLs n n) _).filter _
  have p2:=(zow h h1).filter (z6f (as.map (z6t o)))
  rw [List.filter_map] at p2
  have e:(LLs n n).filter (z6f (as.map (z6t o)) ∘ ren o)=(LLs n n).filter (z6f as):=List.filter_congr fun L hL=>zle h ho (z4q n n L hL)
  rw [e] at p2
  have p3:((z43 (LLs n n)).filter (z6f as)).Perm ((LLs n n).filter (z6f as)):=(List.mergeSort_perm (LLs n n) _).filter _
  exact p1.trans (p2.symm.trans (p3.map _).symm)
end
section
variable {n:Nat} {o:List Int}
noncomputable def zdn (n:Nat) (ls:List (List Int)):List Int:=(znd n ls).map fun t:Nat=>(t:Int)
theorem mem_sure {ls:List (List Int)} {x:Int}:x∈zdn n ls↔0≤x∧x<(n:Int)∧∀ l∈ls,x∉l:=by
  unfold zdn znd
  rw [List.mem_map]
  constructor
  · rintro ⟨t,ht,rfl⟩
    obtain ⟨h1,h2⟩:=List.mem_filter.mp ht
    have:=List.mem_range.mp h1
    refine ⟨by omega,by omega,fun l hl=>?_⟩
    simpa using List.all_eq_true.mp h2 l hl
  · rintro ⟨h0,h1,h2⟩
    refine ⟨x.toNat,List.mem_filter.mpr ⟨List.mem_range.mpr (by omega),List.all_eq_true.mpr fun l hl=>?_⟩,by omega⟩
    rw [show ((x.toNat:Nat):Int)=x by omega]
    simpa using h2 l hl
theorem zhf {ls:List (List Int)}:(zdn n ls).Pairwise (· < ·):=by
  unfold zdn znd
  rw [List.pairwise_map]
  exact (List.pairwise_lt_range.filter _).imp fun h=>by omega
theorem zhg (h:o.Perm (z87 n)) {ls:List (List Int)} (hr:∀ l∈ls,Rise n l):zdq ((zdn n ls).map (at0 o))=zdn n (z43 (ls.map (ren o))):=by
  have hR:Rise n (zdn n ls):=⟨zhf,fun x hx=>(mem_sure.mp hx).1,fun x hx=>(mem_sure.mp hx).2.1⟩
  show ren o (zdn n ls)=_
  refine zk3 (zex h hR).up zhf fun a=>?_
  rw [mem_ren,mem_sure]
  constructor
  · rintro ⟨t,ht,rfl⟩
    obtain ⟨h0,h1,h2⟩:=mem_sure.mp ht
    refine ⟨(z8e h h0 h1).1,(z8e h h0 h1).2,fun l hl=>?_⟩
    obtain ⟨m,hm,rfl⟩:=List.mem_map.mp (sortL_mem.mp hl)
    exact fun z=>h2 m hm ((z8n h (hr m hm) h0 h1).mp z)
  · rintro ⟨h0,h1,h2⟩
    obtain ⟨i,hi,e⟩:=List.mem_iff_getElem.mp (h.mem_iff.mpr (mem_nums.mpr ⟨h0,h1⟩))
    have hin:i<n:=by rw [← zo9 h];exact hi
    have e2:at0 o (i:Int)=a:=by
      unfold at0
      rw [Int.toNat_natCast,List.getD_eq_getElem?_getD,List.getElem?_eq_getElem hi]
      exact e
    refine ⟨(i:Int),mem_sure.mpr ⟨by omega,by omega,fun l hl z=>?_⟩,e2⟩
    refine h2 (ren o l) (sortL_mem.mpr (List.mem_map.mpr ⟨l,hl,rfl⟩)) ?_
    rw [← e2]
    exact (z8n h (hr l hl) (by omega) (by omega)).mpr z
end
section
variable {μ:M} {ts:List Bool} {CF:Addr}
theorem zrc {k:Nat} (h:μ[k]?=some (some (.lst (ts.map D.bl)))):fNe (.ref k) (.lst (ts.map D.bl)) μ=some (.bl false,μ):=by
  unfold fNe
  have:=zlk (α:=Bool) (μ:=μ) (k:=k) (l:=ts) (m:=ts) (by decide) h
  show (eqD (.ref k) (.lst (ts.map Enc.d)) μ).bind _=_
  rw [this]
  simp
theorem z9u (hl:ts.length≤200) (hf:2*(za5 ts).length<ts.length):Wp (z0y (dn (zoc CF)) [.lst (ts.map D.bl)] μ) fun x μ'=>x=.bl true∧Gr μ μ':=by
  obtain ⟨u,hu,hun,htu,_⟩:=ze9 hf
  unfold z0y z34
  refine (z6h rfl).mpr ?_
  show Ws (z1i _ _ [some (.lst (ts.map D.bl)),none,none] μ) _
  simp_arith
  refine zsk ((zcv (CF:=CF) hl hf hu hun htu).imp ?_)
  rintro _ μ1 ⟨a,b,rfl,h1,h2,g1,_⟩
  refine ⟨_,rfl,?_⟩
  simp only [z6u]
  rw [zb2 (n:=2) rfl]
  simp_arith [zrc h2]
  have pl:=(z9x ts ts.length).2
  have al:=z7d (ts:=ts) (u:=u) ts.length
  have hlt:((plS ts ts.length).2++z4x ts u ts.length).length<2*ts.length:=by
    have hal:(z4x ts u ts.length).length<ts.length:=by
      have:=List.countP_pos_iff (p:=fun t:Nat=>decide (t=u)) (l:=List.range ts.length)
      have h0:=this.mpr ⟨u,List.mem_range.mpr hun,by simp⟩
      have:=z8a (fun t:Nat=>decide (t=u)) (List.range ts.length)
      rw [List.length_range] at this
      unfold z4x
      rw [List.length_map,← List.countP_eq_length_filter]
      omega
    rw [List.length_append];omega
  have hS:∀ c∈(plS ts ts.length).2++z4x ts u ts.length,Say ts ts.length c:=fun c hc=>by
    rcases List.mem_append.mp hc with z | z
    · exact z9w ts _ c z
    · exact zah hun c z
  generalize (plS ts ts.length).2++z4x ts u ts.length=as at h1 hlt hS
  have e1:z5m (.ref a) μ1=some (.int (as.length:Int),μ1):=by have:=(Ls.ref h1).len;rw [List.length_map] at this;exact this
  rw [e1]
  simp_arith
  rw [z5d,List.length_map]
  simp_arith
  rw [z4s,if_pos (show CMul 2 (ts.length:Int) from .inl ⟨by decide,by decide⟩)]
  simp_arith
  rw [decide_eq_false (by omega)]
  simp_arith [zdt h1,zcw]
  refine ⟨by simp;omega,?_⟩
  show Wp (z2h (some (a,as.map dZ)) _ z96 _ (as.map dZ) [none,none,none,some (.lst (ts.map D.bl))] μ1) _
  refine z2j (c:=some (a,as.map dZ)) (dn:=dZ) (keep:=fun _=>true) (val:=fun _=>D.bl true) (fun Γ=>∃ o1 o2 o3,Γ=[o1,o2,o3,some (.lst (ts.map D.bl))]) h1 _ ⟨_,_,_,rfl⟩ ?_ ?_
  · rintro c hc Γ ⟨o1,o2,o3,rfl⟩
    obtain ⟨i,j,hi,hj,hij,rfl⟩:=hS c hc
    show Wp (z7a 3 _ (.tup [.int (i:Int),.int (j:Int),.bl (tv ts i==tv ts j)]) _ _) _
    rw [zb2 (n:=3) rfl]
    have ed:decide ((i:Int)=(j:Int))=false:=decide_eq_false (by omega)
    have eb:decide ((tv ts i==tv ts j)=decide (tv ts i=tv ts j))=true:=by cases tv ts i <;> cases tv ts j <;> rfl
    simp_arith [ed,Bool.not_false,zge hi,zge hj,eb]
    exact ⟨trivial,⟨_,_,_,rfl⟩,trivial,trivial,fun _=>⟨trivial,trivial⟩⟩
  · have ef:as.filter (fun _=>true)=as:=List.filter_eq_self.mpr (by simp)
    have em:(as.map fun _=>D.bl true)=(as.map fun _=>true).map D.bl:=by rw [List.map_map];rfl
    rw [ef,em,zmt]
    simp_arith
    refine ⟨?_,g1⟩
    congr 1
    rw [List.all_map]
    exact List.all_eq_true.mpr fun _ _=>rfl
end
section
variable {μ:M} {n:Nat} {d:D} {as:List Az} {C CF CT:Addr}
theorem zmg (hn:n≤10) (ho:as.all (okZ (n:Int))=true):SmZ as:=fun a ha=>by
  have:=List.all_eq_true.mp ho a ha
  simp [okZ] at this
  exact ⟨zkj (by omega) (by omega),zkj (by omega) (by omega)⟩
theorem zsa (h1:1≤n) (hn:n≤10) (ho:as.all (okZ (n:Int))=true):duL (n:Int) as=0:=by
  unfold duL
  rw [if_neg (fun q=>q.elim (fun z=>by omega) (fun z=>by rw [ho] at z;cases z)),if_neg (by omega)]
theorem zdm (hl:Ls μ d (as.map dZ)) (h1:1≤n) (hn:n≤10) (ho:as.all (okZ (n:Int))=true):Wp (dn (ze0 C CT) [.int (n:Int),d] μ) fun x μ'=>x=.lst ((z35 n as).map dLI)∧μ'=μ:=by
  refine zsk ((zhn (C:=C) (CT:=CT) hl (zkj (by omega) (by omega)) (zmg hn ho)).imp ?_)
  rintro r μ1 ⟨e,h⟩
  rw [zsa h1 hn ho,Int.toNat_natCast] at h
  exact ⟨_,h,rfl,e⟩
theorem zn5 (hl:Ls μ d (as.map dZ)) (h1:1≤n) (hn:n≤10) (ho:as.all (okZ (n:Int))=true) (hf:z35 n as≠[]):Wp (dn (zoz C CF CT) [.int (n:Int),d] μ) fun x μ'=>x=.lst ((zdn n (z35 n as)).map D.int)∧μ'=μ:=by
  refine zsk ((zng (C:=C) (CF:=CF) (CT:=CT) hl (zkj (by omega) (by omega)) (zmg hn ho)).imp ?_)
  rintro r μ1 ⟨e,h⟩
  have e0:duS (n:Int) as=0:=by
    unfold duS
    rw [if_pos (zsa h1 hn ho),Int.toNat_natCast,if_neg hf]
  rw [e0,Int.toNat_natCast] at h
  refine ⟨_,h,?_,e⟩
  unfold zdn
  rw [List.map_map]
  rfl
theorem zjj {a:List Int}:∀ l:List (List Int),((l.map fun x=>(Enc.p x:PyData)).any fun e=>PyData.eqv e (Enc.p a))=decide (a∈l)
  | []=>rfl
  | b::l=>by
    rw [List.map_cons,List.any_cons,zjj l]
    have:=Enc.eqv b a
    by_cases e:b=a
    · rw [this.mpr e];simp [e]
    · have e2:¬ a=b:=fun z=>e z.symm
      have:PyData.eqv (Enc.p b) (Enc.p a)=false:=by
        cases hq:PyData.eqv (Enc.p b) (Enc.p a) with
        | false=>rfl
        | true=>exact absurd (this.mp hq) e
      rw [this];simp [e2]
theorem z6n {F:List (List Int)} {a:List Int}:z3f (.lst (a.map D.int)) (.lst (F.map dLI)) μ=some (.bl (!decide (a∈F)),μ):=by
  have e1:=zcd (α:=List Int) (μ:=μ) (n:=65) (by decide) F
  have e2:py 65 μ (.lst (a.map D.int))=some (Enc.p a):=Enc.py_eq a μ 65 (by decide)
  have l1:=ze6 (α:=List Int) F
  have l2:=Enc.lay a
  have l3:(Enc.p a:PyData).depth≤1:=Enc.dep a
  unfold z3f
  show (optAll (py 65 μ) (F.map Enc.d)).bind _=_
  rw [e1,bs,e2,bs,l1,l2,if_pos (by simp;omega),zjj]
end
theorem Kq.refl {s:Nat} {μ:M}:Kq s μ μ:=⟨Nat.le_refl _,fun _ _ _=>rfl⟩
theorem Kq.on {s:Nat} {μ μ1 μ2:M} (h:Kq s μ μ1) (o:On s μ1 μ2):Kq s μ μ2:=⟨by rw [o.len];exact h.len,fun j hj n=>by rw [o.at_ j n];exact h.at_ j hj n⟩
theorem Kq.on' {s r:Nat} {μ μ1 μ2:M} (h:Kq s μ μ1) (o:On r μ1 μ2) (hr:μ.length≤r):Kq s μ μ2:=⟨by rw [o.len];exact h.len,fun j hj n=>by rw [o.at_ j (by omega)];exact h.at_ j hj n⟩
theorem Kq.app {s:Nat} {μ μ1 ex:M} (h:Kq s μ μ1):Kq s μ (μ1++ex):=⟨by rw [List.length_append];have:=h.len;omega,fun j hj n=>by rw [List.getElem?_append_left (by have:=h.len;omega)];exact h.at_ j hj n⟩
section
variable {C CF CT:Addr} {n k:Nat} {d:D} {as:List Az} {μ:M} {f:List D→M→Option (D×M)} {cs:List Addr}
theorem z8m (hd:Dk μ k) (hn:n≤20):Wp (z1c z0a [.ref k,.int (n:Int)] μ) fun x μ'=>∃ (r:Nat) (as:List Az),x=.ref r∧μ'[r]?=some (some (.lst (as.map dZ)))∧(∀ a∈as,okZ (n:Int) a=true)∧as.length≤30∧Dk μ' k∧r≠k∧μ.length≤r∧Kq k μ μ':=by
  unfold z1c z56
  refine (z6h rfl).mpr ?_
  show Ws (z1i _ _ [some (.ref k),some (.int (n:Int)),none,none,none,none,none,none,none] μ) _
  simp only [z2w,z2x]
  refine zg0 hd (by omega) rfl rfl fun bs μ1 hbs d1 o1=>?_
  simp_arith
  refine (z42 d1 (by decide) (by decide)).imp ?_
  rintro _ μ2 ⟨w,rfl,hw,d2,o2⟩
  simp_arith
  rw [zi1 (by simp)]
  have hr3:(μ2++[some (O.lst [])])[μ2.length]?=some (some (.lst (([]:List Az).map dZ))):=by simp
  have d3:Dk (μ2++[some (O.lst [])]) k:=d2.gr gr_app
  have hkr:k≠μ2.length:=by have:=d2.lt;omega
  have hge:μ.length≤μ2.length:=by rw [o2.len,o1.len];exact Nat.le_refl _
  have q3:Kq k μ (μ2++[some (O.lst [])]):=(((Kq.refl.on o1).on o2).app)
  generalize μ2++[some (O.lst [])]=μ3 at hr3 d3 q3
  generalize μ2.length=r at hr3 hkr hge
  simp_arith
  rw [z73 (by simp)]
  simp_arith
  refine (z42 d3 (by decide) (by decide)).imp ?_
  rintro _ μ4 ⟨t1,rfl,ht1,d4,o4⟩
  simp_arith
  obtain ⟨z,z0,z1,ez⟩:∃ z:Int,0<z∧z≤31∧fIx (.lst [.int 6,.int 31]) (.int (t1:Int)) μ4=some (.int z,μ4):=by
    have:t1=0∨t1=1:=by omega
    rcases this with rfl | rfl
    · exact ⟨6,by decide,by decide,rfl⟩
    · exact ⟨31,by decide,by decide,rfl⟩
  rw [ez]
  simp_arith
  refine (z42 d4 z0 (by omega)).imp ?_
  rintro _ μ5 ⟨t2,rfl,ht2,d5,o5⟩
  have hr5:μ5[r]?=some (some (.lst (([]:List Az).map dZ))):=by rw [o5.at_ r (Ne.symm hkr),o4.at_ r (Ne.symm hkr)];exact hr3
  simp_arith
  obtain ⟨m,hm30,hm0,em⟩:∃ m:Nat,m≤30∧(m≠0→2≤n)∧z1g (.int (t2:Int)) (.int (if decide (1<(n:Int))=true then 1 else 0)) μ5=some (.int (m:Int),μ5):=by
    by_cases h1:1<(n:Int)
    · refine ⟨t2,by omega,fun _=>by omega,?_⟩
      rw [decide_eq_true h1,if_pos rfl,z4s,if_pos (show CMul (t2:Int) 1 from .inl ⟨by omega,by omega⟩),Int.mul_one]
    · refine ⟨0,by omega,fun z=>absurd rfl z,?_⟩
      rw [decide_eq_false h1]
      rw [if_neg Bool.false_ne_true,z4s,if_pos (show CMul (t2:Int) 0 from .inl ⟨by omega,by omega⟩),Int.mul_zero]
      rfl
  rw [em]
  simp_arith
  rw [z9v (by omega)]
  simp_arith
  refine zca (fun i Γ μ'=>∃ (as:List Az) (p5 p6 p7 p8:Option D),Γ=[some (.ref k),some (.int (n:Int)),some (.lst (bs.map D.bl)),some (.int (w:Int)),some (.ref r),p5,p6,p7,p8]∧μ'[r]?=some (some (.lst (as.map dZ)))∧(∀ a∈as,okZ (n:Int) a=true)∧as.length=i∧Dk μ' k∧Kq k μ μ') ⟨[],_,_,_,_,rfl,hr5,(fun a h=>by cases h),rfl,d5,(q3.on o4).on o5⟩ ?_ ?_
  · rintro q Γ μ6 hq ⟨as,p5,p6,p7,p8,rfl,hr6,hok,hlen,d6,q6⟩
    have hn2:=hm0 (by omega)
    simp_arith
    refine (z42 d6 (by omega) (by omega)).imp ?_
    rintro _ μ7 ⟨i,rfl,hi,d7,o7⟩
    simp_arith
    refine (z42 d7 (by omega) (by omega)).imp ?_
    rintro _ μ8 ⟨t,rfl,ht,d8,o8⟩
    simp_arith
    rw [ztr (by omega)]
    have hj0:=Int.emod_nonneg ((i:Int)+1+(t:Int)) (b:=(n:Int)) (by omega)
    have hj1:=Int.emod_lt_of_pos ((i:Int)+1+(t:Int)) (b:=(n:Int)) (by omega)
    have hjne:((i:Int)+1+(t:Int)) % (n:Int)≠(i:Int):=by
      intro e
      by_cases hlt:(i:Int)+1+(t:Int)<(n:Int)
      · rw [Int.emod_eq_of_lt (by omega) hlt] at e;omega
      · have:((i:Int)+1+(t:Int)) % (n:Int)=(i:Int)+1+(t:Int) - (n:Int):=by
          rw [← Int.sub_emod_right,Int.emod_eq_of_lt (by omega) (by omega)]
        omega
    obtain ⟨j,hj⟩:∃ j:Nat,((i:Int)+1+(t:Int)) % (n:Int)=(j:Int):=⟨(((i:Int)+1+(t:Int)) % (n:Int)).toNat,by omega⟩
    rw [hj] at hj1 hjne ⊢
    have hoz:∀ b:Bool,okZ (n:Int) ((i:Int),(j:Int),b)=true:=fun b=>by
      have e1:(0:Int)≤(i:Int):=by omega
      have e2:(i:Int)<(n:Int):=by omega
      have e3:(0:Int)≤(j:Int):=by omega
      have e5:¬ (i:Int)=(j:Int):=fun z=>hjne z.symm
      unfold okZ
      rw [decide_eq_true e1,decide_eq_true e2,decide_eq_true e3,decide_eq_true hj1,decide_eq_false e5]
      rfl
    have hr8:μ8[r]?=some (some (.lst (as.map dZ))):=by rw [o8.at_ r (Ne.symm hkr),o7.at_ r (Ne.symm hkr)];exact hr6
    simp_arith
    have hjl:j<(bs.map D.bl).length:=by rw [List.length_map];omega
    have hil:i<(bs.map D.bl).length:=by rw [List.length_map];omega
    rw [zf9 hjl,List.getElem_map]
    generalize bs[j]'(by simpa using hjl)=sj
    simp_arith
    rw [zf9 hil,List.getElem_map]
    generalize bs[i]'(by simpa using hil)=si
    simp_arith
    have last:∀ (b:Bool) (μ9:M),Dk μ9 k→On k μ8 μ9→Ws (z1i (sIf (vT (v2 fEq (vL z0a (z03 (z05 0) (z03 (vC (.int 30)) z1f))) (vC (.int 0)))) (z36 (v1 zol (z05 8)) (z02 8)) sNx) (zbs (v2l zea (z05 4) (vL ziz (z03 (z05 6) (z03 (z05 7) (z03 (z05 8) z1f)))))) [some (.ref k),some (.int (n:Int)),some (.lst (bs.map D.bl)),some (.int (w:Int)),some (.ref r),some (.int (q:Int)),some (.int (i:Int)),some (.int (j:Int)),some (.bl b)] μ9)
        fun o Γ2 μ2=>match o with
        | .nx=>∃ (as:List Az) (p5 p6 p7 p8:Option D),Γ2=[some (.ref k),some (.int (n:Int)),some (.lst (bs.map D.bl)),some (.int (w:Int)),some (.ref r),p5,p6,p7,p8]∧μ2[r]?=some (some (.lst (as.map dZ)))∧(∀ a∈as,okZ (n:Int) a=true)∧as.length=q+1∧Dk μ2 k∧Kq k μ μ2
        | .ct=>∃ (as:List Az) (p5 p6 p7 p8:Option D),Γ2=[some (.ref k),some (.int (n:Int)),some (.lst (bs.map D.bl)),some (.int (w:Int)),some (.ref r),p5,p6,p7,p8]∧μ2[r]?=some (some (.lst (as.map dZ)))∧(∀ a∈as,okZ (n:Int) a=true)∧as.length=q+1∧Dk μ2 k∧Kq k μ μ2
        | _=>False:=by
      intro b μ9 d9 o9
      have hr9:μ9[r]?=some (some (.lst (as.map dZ))):=by rw [o9.at_ r (Ne.symm hkr)];exact hr8
      simp_arith
      refine (z42 d9 (by decide) (by decide)).imp ?_
      rintro _ μ10 ⟨u,rfl,hu,d10,o10⟩
      have hr10:μ10[r]?=some (some (.lst (as.map dZ))):=by rw [o10.at_ r (Ne.symm hkr)];exact hr9
      simp_arith
      have app:∀ b:Bool,Wp (zea (.ref r) (.tup [.int (i:Int),.int (j:Int),.bl b]) μ10) fun _ μ'=>∃ (as:List Az) (p5 p6 p7 p8:Option D),([some (.ref k),some (.int (n:Int)),some (.lst (bs.map D.bl)),some (.int (w:Int)),some (.ref r),some (.int (q:Int)),some (.int (i:Int)),some (.int (j:Int)),some (.bl b)]:G)=[some (.ref k),some (.int (n:Int)),some (.lst (bs.map D.bl)),some (.int (w:Int)),some (.ref r),p5,p6,p7,p8]∧μ'[r]?=some (some (.lst (as.map dZ)))∧(∀ a∈as,okZ (n:Int) a=true)∧as.length=q+1∧Dk μ' k∧Kq k μ μ':=fun b=>by
        obtain ⟨μ11,e11,hr11,o11⟩:=zbk (y:=dZ ((i:Int),(j:Int),b)) hr10 (by simp;omega)
        refine zk1 e11 ⟨as++[((i:Int),(j:Int),b)],_,_,_,_,rfl,by rw [hr11];simp,fun a ha=>?_,by simp;omega,d10.on hkr o11,((((q6.on o7).on o8).on o9).on o10).on' o11 hge⟩
        rcases List.mem_append.mp ha with ha | ha
        · exact hok a ha
        · have:a=((i:Int),(j:Int),b):=by simpa using ha
          subst this;exact hoz b
      cases hz:decide ((u:Int)=0) with
      | true =>
        simp_arith [z5u hr10]
        rw [zg7 (by simp)]
        simp_arith
        exact (app (!b)).imp fun _ _ h=>h
      | false =>
        simp_arith [z5u hr10]
        rw [zg7 (by simp)]
        simp_arith
        exact (app b).imp fun _ _ h=>h
    cases si with
    | true =>
      simp only [Bool.not_true,z3a,z7p,z10]
      refine (last sj μ8 d8 .refl).imp fun o Γ2 μ2 h=>?_
      cases o with
      | nx=>exact h
      | ct=>exact h
      | bk=>exact absurd h id
      | rt d=>exact absurd h id
    | false =>
      simp only [Bool.not_false,z39,z2x,z7m,z7l,z1e,z7e,z18,z17,q1_,z3b,wp_some,qc_]
      simp_arith
      refine (z42 d8 (by decide) (by decide)).imp ?_
      rintro _ μ9 ⟨v,rfl,hv,d9,o9⟩
      simp only [z82,wp_some,q2_,z7f,w_c,qc_,z18,z17,z1e,z38,z7z,qL_]
      rw [z73 (by simp)]
      simp only [wp_some,q2_,z7f,z18,z17]
      have hw':w=0∨w=1∨w=2:=by omega
      obtain ⟨b,eb⟩:∃ b:Bool,fIx (.lst [.bl (!sj),.bl (decide ((v:Int)=0)),.bl sj]) (.int (w:Int)) μ9=some (.bl b,μ9):=by
        rcases hw' with rfl | rfl | rfl
        · exact ⟨_,rfl⟩
        · exact ⟨_,rfl⟩
        · exact ⟨_,rfl⟩
      rw [eb]
      simp only [wp_some,z6u,z1a,z71,List.set_cons_zero,List.set_cons_succ,z10]
      refine (last b μ9 d9 o9).imp fun o Γ2 μ2 h=>?_
      cases o with
      | nx=>exact h
      | ct=>exact h
      | bk=>exact absurd h id
      | rt d=>exact absurd h id
  · rintro Γ μ6 ⟨as,p5,p6,p7,p8,rfl,hr6,hok,hlen,d6,q6⟩
    simp_arith
    exact ⟨r,as,rfl,hr6,hok,by omega,d6,Ne.symm hkr,hge,q6⟩
end
section
variable {μ:M} {ts:List Bool} {C CF CT:Addr} {k:Nat}
theorem zpv {n:Nat} {a:Az} (h:Say ts n a):okZ (n:Int) a=true:=by
  obtain ⟨i,j,h1,h2,h3,rfl⟩:=h
  simp [okZ]
  omega
theorem z93 {n:Nat} {tc:BV} {p:Nat→Bool} {R:List D→M→Prop} (ht:∀ t,t<n→Wp (tc [some (.int (t:Int)),some (.lst (ts.map D.bl))] μ) fun b μ'=>b=p t∧μ'=μ) (h:R (((List.range n).filter p).map fun t:Nat=>D.int (t:Int)) μ) :
    Wp (z2h none (z02 0) tc (z05 0) (z4l 0 n) [none,some (.lst (ts.map D.bl))] μ) R:=by
  have er:z4l 0 n=(List.range n).map fun t:Nat=>D.int (t:Int):=by simp [z4l]
  rw [er]
  refine z2j (c:=none) (dn:=fun t:Nat=>D.int (t:Int)) (keep:=p) (val:=fun t:Nat=>D.int (t:Int)) (fun Γ=>∃ o,Γ=[o,some (.lst (ts.map D.bl))]) trivial _ ⟨_,rfl⟩ ?_ h
  rintro t ht' Γ ⟨o,rfl⟩
  simp_arith
  refine ⟨trivial,⟨_,rfl⟩,(ht t (List.mem_range.mp ht')).imp ?_⟩
  rintro b μ1 ⟨rfl,rfl⟩
  exact ⟨rfl,rfl,fun _=>⟨trivial,trivial⟩⟩
theorem zob {ns ms:List Int}:fNe (.lst (ns.map D.int)) (.lst (ms.map D.int)) μ=some (.bl (!decide (ns=ms)),μ):=by
  unfold fNe
  have:=zab (α:=Int) (μ:=μ) (l:=ns) (m:=ms) (by decide)
  show (eqD (.lst (ns.map Enc.d)) (.lst (ms.map Enc.d)) μ).bind _=_
  rw [this];rfl
theorem ne_nil {F:List (List Int)}:fNe (.lst (F.map dLI)) (.lst []) μ=some (.bl (!decide (F=[])),μ):=by
  unfold fNe
  have:=zab (α:=List Int) (μ:=μ) (l:=F) (m:=[]) (by decide)
  show (eqD (.lst (F.map Enc.d)) (.lst (List.map Enc.d ([]:List (List Int)))) μ).bind _=_
  rw [this];rfl
theorem in_ints {d:D} {ns:List Int} {t:Int} (h:Ls μ d (ns.map D.int)):fIn false (.int t) d μ=some (.bl (decide (t∈ns)),μ):=by
  have hs:zkd μ d=some (ns.map D.int):=by
    rcases zc4 h with ⟨k,rfl,hk⟩ | rfl | rfl
    · simp [zkd,z50 hk]
    · rfl
    · rfl
  have ho:∀ l:List Int,optAll flV (l.map D.int)=some (l.map V.int):=fun l=>by
    induction l with
    | nil=>rfl
    | cons a r ih=>simp [optAll,flV,ih]
  have hi:∀ l:List Int,inV (V.int t) (l.map V.int)=decide (t∈l):=fun l=>by
    induction l with
    | nil=>rfl
    | cons a r ih =>
      have e:eqV (V.int a) (V.int t)=decide (t=a):=by
        show decide (a=t)=_
        simp [eq_comm]
      simp [inV] at ih ⊢
      rw [e,ih]
  simp [fIn,flV,hs,ho,hi]
theorem zj8 {F:List (List Int)} {lo hi:Option Int}:∃ r:List (List Int),zdi (F.map dLI) lo hi=r.map dLI∧(∀ x∈r,x∈F)∧r.length≤F.length:=by
  refine ⟨(F.drop (HT.sIx F.length 0 lo)).take (HT.sIx F.length F.length hi - HT.sIx F.length 0 lo),?_,fun x hx=>List.mem_of_mem_drop (List.mem_of_mem_take hx),by rw [List.length_take,List.length_drop];omega⟩
  unfold zdi
  rw [List.length_map,← List.map_drop,← List.map_take]
noncomputable abbrev zfd (C CF CT:Addr):List D→M→Option (D×M):=z2g (dn (zoc CF)) (dn (ze0 C CT)) (dn (zoz C CF CT)) (z1c z0a)
theorem zhm (hd:Dk μ k) (hl:ts.length≤10) (hf:2*(za5 ts).length<ts.length):Wp (zfd C CF CT [.ref k,.lst (ts.map D.bl)] μ) fun x μ'=>x=.bl true∧Dk μ' k:=by
  obtain ⟨u,hu,hun,htu,_⟩:=ze9 hf
  have h1:1≤ts.length:=by omega
  unfold zfd z2g z33
  refine (z6h rfl).mpr ?_
  show Ws (z1i _ _ [some (.ref k),some (.lst (ts.map D.bl)),none,none,none,none,none,none,none,none] μ) _
  simp_arith
  rw [z5d,List.length_map]
  simp_arith
  refine zsk ((zcv (CF:=CF) (μ:=μ) (by omega) hf hu hun htu).imp ?_)
  rintro _ μ1 ⟨a,b,rfl,ha,_,g1,hge⟩
  refine ⟨_,rfl,?_⟩
  have e0:fIx (.tup [.ref a,.ref b]) (.int 0) μ1=some (.ref a,μ1):=rfl
  simp_arith [e0]
  rw [z9v (by omega)]
  simp_arith [zcw]
  refine ⟨by simp [z4l];omega,?_⟩
  show Wp (z2h none (z02 0) _ (z05 0) (z4l 0 ts.length) [none,some (.lst (ts.map D.bl))] μ1) _
  refine z93 (p:=fun t=>!tv ts t) (fun t ht=>?_) ?_
  · simp_arith [zge ht]
    exact ⟨trivial,trivial⟩
  have el:(((List.range ts.length).filter fun t=>!tv ts t).map fun t:Nat=>D.int (t:Int))=(za5 ts).map D.int:=by unfold za5;rw [List.map_map];rfl
  rw [el]
  have hS:∀ c∈(plS ts ts.length).2++z4x ts u ts.length,Say ts ts.length c:=fun c hc=>by
    rcases List.mem_append.mp hc with z | z
    · exact z9w ts _ c z
    · exact zah hun c z
  have hfit:=zgj hf hu
  have hok:((plS ts ts.length).2++z4x ts u ts.length).all (okZ (ts.length:Int))=true:=List.all_eq_true.mpr fun c hc=>zpv (hS c hc)
  have hlen:((plS ts ts.length).2++z4x ts u ts.length).length≤20:=by
    have pl:=(z9x ts ts.length).2
    have al:=z7d (ts:=ts) (u:=u) ts.length
    rw [List.length_append];omega
  generalize (plS ts ts.length).2++z4x ts u ts.length=as at ha hfit hok hlen
  refine (zdm (C:=C) (CT:=CT) (Ls.ref ha) h1 hl hok).imp ?_
  rintro _ μ2 ⟨rfl,rfl⟩
  rw [hfit]
  have e1:z3f (.lst ((za5 ts).map D.int)) (.lst ([za5 ts].map dLI)) μ2=some (.bl false,μ2):=by rw [z6n];simp
  simp_arith [e1]
  refine (zn5 (C:=C) (CF:=CF) (CT:=CT) (Ls.ref ha) h1 hl hok (by rw [hfit];simp)).imp ?_
  rintro _ μ3 ⟨rfl,rfl⟩
  rw [hfit]
  simp_arith
  rw [z9v (by omega)]
  simp_arith [zcw]
  refine ⟨by simp [z4l];omega,?_⟩
  show Wp (z2h none (z02 0) _ (z05 0) (z4l 0 ts.length) [none,some (.lst (ts.map D.bl))] μ3) _
  refine z93 (p:=fun t=>tv ts t) (fun t ht=>?_) ?_
  · simp_arith [zge ht]
    exact ⟨trivial,trivial⟩
  have es:(((List.range ts.length).filter fun t=>tv ts t).map fun t:Nat=>D.int (t:Int))=(zdn ts.length [za5 ts]).map D.int:=by unfold zdn;rw [zfw,List.map_map];rfl
  rw [es,zob,decide_eq_true rfl]
  simp_arith [Bool.not_true]
  refine (z8m (hd.gr g1) (by omega)).imp ?_
  rintro _ μ4 ⟨r,cs,rfl,hr,hcok,hcl,d4,_,_,q4⟩
  have hcok':cs.all (okZ (ts.length:Int))=true:=List.all_eq_true.mpr hcok
  have hak:a≠k:=by have:=hd.lt;omega
  have ha4:μ4[a]?=some (some (.lst (as.map dZ))):=by rw [q4.at_ a (List.getElem?_eq_some_iff.mp ha).1 hak];exact ha
  simp_arith
  refine (zdm (C:=C) (CT:=CT) (Ls.ref hr) h1 hl hcok').imp ?_
  rintro _ μ5 ⟨rfl,rfl⟩
  simp_arith
  have esl:fSl (.ref a) none (some 1) μ5=some (.lst ((as.take 1).map dZ),μ5):=by
    rw [(Ls.ref ha4).sl]
    have:zdi (as.map dZ) none (some ((1:Nat):Int))=(as.map dZ).take (min 1 (as.map dZ).length):=by
      unfold zdi
      rw [HT.sIx_none,HT.sIx_nat,List.drop_zero,Nat.sub_zero]
    show some (D.lst (zdi (as.map dZ) none (some ((1:Nat):Int))),μ5)=_
    rw [this,List.map_take]
    congr 3
    cases as <;> simp
  rw [esl]
  simp_arith
  have epl:z3e (.ref r) (.lst ((as.take 1).map dZ)) μ5=some (.lst ((cs++as.take 1).map dZ),μ5):=by
    have hw:zjp μ5 (.ref r)=some (cs.map dZ):=(Ls.ref hr).1
    show (zjp μ5 (.ref r)).bind _=_
    rw [hw]
    show (if (cs.map dZ).length+((as.take 1).map dZ).length≤1000000 then _ else none)=_
    rw [if_pos (by simp;omega)]
    simp
  rw [epl]
  simp_arith
  have hmok:(cs++as.take 1).all (okZ (ts.length:Int))=true:=by
    rw [List.all_append,hcok',Bool.true_and]
    exact List.all_eq_true.mpr fun c hc=>List.all_eq_true.mp hok c (List.mem_of_mem_take hc)
  refine (zdm (C:=C) (CT:=CT) (d:=.lst ((cs++as.take 1).map dZ)) (Ls.lst) h1 hl hmok).imp ?_
  rintro _ μ6 ⟨rfl,rfl⟩
  have hF:∀ xs:List Az,(z35 ts.length xs).length≤1024:=fun xs=>by
    have l1:=z8g ts.length ts.length
    have l2:=z9q (k:=ts.length) hl
    have l3:=List.length_filter_le (z6f xs) (z43 (LLs ts.length ts.length))
    rw [z5q] at l3
    unfold z35
    omega
  simp_arith [zcw]
  refine ⟨by have:=hF (cs++as.take 1);simp;omega,?_⟩
  show Wp (z2h none (z02 0) _ (z05 0) ((z35 ts.length (cs++as.take 1)).map dLI) [none,some (.lst ((z35 ts.length cs).map dLI))] μ6) _
  refine z2j (c:=none) (dn:=dLI) (keep:=fun _=>false) (val:=dLI) (fun Γ=>∃ q,Γ=[q,some (.lst ((z35 ts.length cs).map dLI))]) trivial _ ⟨_,rfl⟩ ?_ ?_
  · rintro l hl' Γ ⟨q,rfl⟩
    have e2:z3f (dLI l) (.lst ((z35 ts.length cs).map dLI)) μ6=some (.bl false,μ6):=by
      show z3f (.lst (l.map D.int)) (.lst ((z35 ts.length cs).map dLI)) μ6=_
      rw [z6n,decide_eq_true (zix l hl')]
      rfl
    simp_arith [e2]
    exact ⟨trivial,⟨_,rfl⟩,trivial,trivial,fun z=>by cases z⟩
  have ef:(z35 ts.length (cs++as.take 1)).filter (fun _=>false)=[]:=List.filter_eq_nil_iff.mpr (by simp)
  have e3:fNe (.lst []) (.lst []) μ6=some (.bl false,μ6):=by have:=ne_nil (μ:=μ6) (F:=[]);simpa using this
  rw [ef]
  rw [z73 (by simp)]
  simp_arith [List.map_nil,e3]
  obtain ⟨c1,ec1,hc1,hl1⟩:=zj8 (F:=z35 ts.length cs) (lo:=none) (hi:=some 1)
  obtain ⟨c2,ec2,hc2,hl2⟩:=zj8 (F:=z35 ts.length cs) (lo:=some (-1)) (hi:=none)
  have es1:fSl (.lst ((z35 ts.length cs).map dLI)) none (some 1) μ6=some (.lst (c1.map dLI),μ6):=by rw [← ec1];rfl
  have es2:fSl (.lst ((z35 ts.length cs).map dLI)) (some (-1)) none μ6=some (.lst (c2.map dLI),μ6):=by rw [← ec2];rfl
  have hFc:=hF cs
  simp_arith [es1,es2]
  rw [z6b,if_pos (by simp;omega)]
  simp_arith
  refine za9 (fun q Γ μ'=>μ'=μ6∧(∀ x∈q,∃ l∈z35 ts.length cs,x=dLI l)∧∃ o8 o9,Γ=[some (.ref k),some (.lst (ts.map D.bl)),some (.int (ts.length:Int)),some (.ref a),some (.lst ((za5 ts).map D.int)),some (.ref r),some (.lst ((z35 ts.length cs).map dLI)),some (.lst ((z35 ts.length (cs++as.take 1)).map dLI)),o8,o9]) _ ⟨rfl,?_,_,_,rfl⟩ ?_ ?_
  · intro x hx
    rcases List.mem_append.mp hx with z | z
    · obtain ⟨l,hl',rfl⟩:=List.mem_map.mp z;exact ⟨l,hc1 l hl',rfl⟩
    · obtain ⟨l,hl',rfl⟩:=List.mem_map.mp z;exact ⟨l,hc2 l hl',rfl⟩
  · rintro x q Γ μ7 ⟨rfl,hq,o8,o9,rfl⟩
    obtain ⟨l,hlF,rfl⟩:=hq x (by simp)
    simp_arith [zdt hr,zcw]
    refine ⟨by simp;omega,?_⟩
    show Wp (z2h (some (r,cs.map dZ)) _ z96 _ (cs.map dZ) [none,none,none,some (dLI l)] μ7) _
    refine z2j (c:=some (r,cs.map dZ)) (dn:=dZ) (keep:=fun _=>true) (val:=fun c=>dZ (zam l c)) (fun Γ=>∃ o1 o2 o3,Γ=[o1,o2,o3,some (dLI l)]) hr _ ⟨_,_,_,rfl⟩ ?_ ?_
    · rintro c hc Γ ⟨o1,o2,o3,rfl⟩
      show Wp (z7a 3 _ (.tup [.int c.1,.int c.2.1,.bl c.2.2]) _ _) _
      rw [zb2 (n:=3) rfl]
      simp_arith
      refine ⟨trivial,⟨_,_,_,rfl⟩,trivial,trivial,fun _=>?_⟩
      rw [in_ints (d:=dLI l) Ls.lst]
      simp_arith
      rw [zg7 (by simp)]
      simp_arith
      refine ⟨?_,trivial⟩
      unfold dZ zam
      have:(!decide (c.2.2=decide (c.1∈l)))=(c.2.2 != decide (c.1∈l)):=by cases c.2.2 <;> cases decide (c.1∈l) <;> rfl
      rw [this]
    · have ef2:cs.filter (fun _=>true)=cs:=List.filter_eq_self.mpr (by simp)
      have em:(cs.map fun c=>dZ (zam l c))=(cs.map (zam l)).map dZ:=by rw [List.map_map];rfl
      rw [ef2,em]
      have htok:(cs.map (zam l)).all (okZ (ts.length:Int))=true:=by
        rw [List.all_map]
        exact hcok'
      refine (zdm (C:=C) (CT:=CT) (d:=.lst ((cs.map (zam l)).map dZ)) Ls.lst h1 hl htok).imp ?_
      rintro _ μ8 ⟨rfl,rfl⟩
      have e4:z3f (dLI l) (.lst ((z35 ts.length (cs.map (zam l))).map dLI)) μ8=some (.bl false,μ8):=by
        show z3f (.lst (l.map D.int)) (.lst ((z35 ts.length (cs.map (zam l))).map dLI)) μ8=_
        rw [z6n,decide_eq_true (ziw hlF)]
        rfl
      simp_arith [e4]
      exact ⟨trivial,trivial,fun y hy=>hq y (by simp [hy]),_,_,rfl⟩
  · rintro Γ μ7 ⟨rfl,_,o8,o9,rfl⟩
    simp_arith
    exact ⟨trivial,d4⟩
end
theorem zgk {μ:M} {l r:Nat} {ds:List D} (h:μ[l]?=some (some (.lst ds))) (hr:r<ds.length) (hl:ds.length≤1000):zaa (.ref l) (.int (r:Int)) μ=some (ds[r],μ.set l (some (.lst (ds.eraseIdx r)))):=by
  unfold zaa
  simp only
  rw [z83 h,if_pos (by omega)]
  simp [List.getElem?_eq_getElem hr]
noncomputable def iD:D→Int
  | .int i=>i
  | _=>0
theorem zg6 {es:List D} {ns:List Int} (h:es.Perm (ns.map D.int)):∃ ms:List Int,es=ms.map D.int∧ms.Perm ns:=by
  refine ⟨es.map iD,?_,?_⟩
  · rw [List.map_map]
    have:∀ x∈es,(D.int ∘ iD) x=id x:=fun x hx=>by
      obtain ⟨i,_,rfl⟩:=List.mem_map.mp (h.mem_iff.mp hx)
      rfl
    rw [List.map_congr_left this,List.map_id]
  · have:=h.map iD
    rw [List.map_map] at this
    have e:ns.map (iD ∘ D.int)=ns:=by
      have:(iD ∘ D.int)=id:=rfl
      rw [this,List.map_id]
    rw [e] at this
    exact this
theorem zgn {α:Type} {l:List α} {r:Nat} (h:r<l.length):([l[r]]++l.eraseIdx r).Perm l:=by
  have e:l=l.take r++l[r]::l.drop (r+1):=by rw [← List.drop_eq_getElem_cons h,List.take_append_drop]
  rw [List.eraseIdx_eq_take_drop_succ]
  have:=(List.perm_middle (a:=l[r]) (l₁:=l.take r) (l₂:=l.drop (r+1))).symm
  refine List.Perm.trans this ?_
  rw [← e]
section
variable {μ:M} {n k l:Nat}
theorem zfi {ds:List D} {R:List D→M→Prop} (hd:Dk μ k) (hl:μ[l]?=some (some (.lst ds))) (hn:l≠k) (hlen:ds.length≤1000) (h:∀ es μ',es.Perm ds→Dk μ' k→μ'.length=μ.length→(∀ j,j≠k→j≠l→μ'[j]?=μ[j]?)→R es μ') :
    Wp (z2h none (z02 0) z96 (v2l zaa (z05 1) (vL z0a (z03 (z05 2) (z03 (v1 z5m (z05 1)) z1f)))) (z4l 0 ds.length) [none,some (.ref l),some (.ref k)] μ) R:=by
  refine zfh (fun i done Γ μ'=>(∃ o,Γ=[o,some (.ref l),some (.ref k)])∧Dk μ' k∧μ'.length=μ.length∧(∀ j,j≠k→j≠l→μ'[j]?=μ[j]?)∧∃ ls,μ'[l]?=some (some (.lst ls))∧ls.length+i=ds.length∧(done++ls).Perm ds) ⟨⟨_,rfl⟩,hd,rfl,fun _ _ _=>rfl,ds,hl,rfl,.refl _⟩ ?_ ?_
  · rintro i done Γ μ1 hi ⟨⟨o,rfl⟩,d1,len1,k1,ls,hls,hln,hpm⟩
    have e1:z5m (.ref l) μ1=some (.int (ls.length:Int),μ1):=(Ls.ref hls).len
    simp_arith [z5u hls,e1]
    refine (z42 d1 (by omega) (by omega)).imp ?_
    rintro _ μ2 ⟨r,rfl,hr,d2,o2⟩
    have hls2:μ2[l]?=some (some (.lst ls)):=by rw [o2.at_ l hn];exact hls
    simp_arith [zgk hls2 (show r<ls.length by omega) (by omega)]
    refine ⟨⟨_,rfl⟩,?_,?_,?_,ls.eraseIdx r,z9r hls2,by rw [List.length_eraseIdx,if_pos (by omega)];omega,?_⟩
    · exact d2.on (Ne.symm hn) zf1
    · rw [List.length_set,o2.len];exact len1
    · intro j hj hjl
      rw [z66 hjl,o2.at_ j hj];exact k1 j hj hjl
    · rw [List.append_assoc]
      exact List.Perm.trans (List.Perm.append_left done (zgn (by omega))) hpm
  · rintro done Γ μ1 ⟨_,d1,len1,k1,ls,hls,hln,hpm⟩
    have:ls=[]:=List.length_eq_zero_iff.mp (by omega)
    subst this
    rw [List.append_nil] at hpm
    exact h done μ1 hpm d1 len1 k1
end
section
variable {μ:M} {n k r:Nat} {as:List Az} {C CF CT:Addr}
theorem zkr (n:Nat):z4l 0 n=(z87 n).map D.int:=by
  unfold z87
  rw [List.map_map]
  simp [z4l]
theorem zrh {n:Nat} (h:n≤1000000):zcb (.int (n:Int)) μ=some (.ref μ.length,μ++[some (.lst ((z87 n).map D.int))]):=by
  show (if 0≤(n:Int)∧(n:Int)≤1000000 then some (D.ref μ.length,μ++[some (O.lst (z4l 0 (n:Int).toNat))]) else none)=_
  rw [if_pos (by omega),Int.toNat_natCast,zkr]
theorem zil {l:List Int} {j:Int} (h0:0≤j) (h1:j<(l.length:Int)):fIx (.lst (l.map D.int)) (.int j) μ=some (.int (at0 l j),μ):=by
  have hi:j.toNat<l.length:=by omega
  have:(D.int j)=.int ((j.toNat:Nat):Int):=by rw [show ((j.toNat:Nat):Int)=j by omega]
  rw [this,zf9 (by simpa using hi),List.getElem_map]
  unfold at0
  rw [List.getD_eq_getElem?_getD,List.getElem?_eq_getElem hi]
  rfl
theorem zb4 {ns:List Int}:z7b (.lst (ns.map D.int)) μ=some (.lst ((zdq ns).map D.int),μ):=by
  unfold z7b
  have:optAll inI (ns.map D.int)=some ns:=by
    have:=z2u (f:=inI) (g:=D.int) (h:=id) (l:=ns) (fun x _=>rfl)
    simpa using this
  show (optAll inI (ns.map D.int)).bind _=_
  rw [this]
  rfl
theorem zdp {k:Nat} {nss:List (List Int)} (h:μ[k]?=some (some (.lst (nss.map dLI)))):z5c (.ref k) μ=some (.lst ((z43 nss).map dLI),μ):=by
  have:optAll zmh (nss.map dLI)=some nss:=by
    have:=z2u (f:=zmh) (g:=dLI) (h:=id) (l:=nss) (fun x _=>by
      show optAll inI (x.map D.int)=some x
      have:=z2u (f:=inI) (g:=D.int) (h:=id) (l:=x) (fun y _=>rfl)
      simpa using this)
    simpa using this
  unfold z5c
  rw [z50 h]
  show (optAll zmh (nss.map dLI)).bind _=_
  rw [this];rfl
theorem zfj {c:Ck} {o:List Int} {js:List Int} {R:List D→M→Prop} (hc:z95 c μ) (hj:∀ j∈js,0≤j∧j<(o.length:Int)) (h:R ((js.map (at0 o)).map D.int) μ) :
    Wp (z2h c (z02 0) z96 (v2 fIx (z05 1) (z05 0)) (js.map D.int) [none,some (.lst (o.map D.int))] μ) R:=by
  refine z2j (c:=c) (dn:=D.int) (keep:=fun _=>true) (val:=fun j=>D.int (at0 o j)) (fun Γ=>∃ q,Γ=[q,some (.lst (o.map D.int))]) hc _ ⟨_,rfl⟩ ?_ ?_
  · rintro j hj' Γ ⟨q,rfl⟩
    simp_arith [zil (hj j hj').1 (hj j hj').2]
    exact ⟨trivial,⟨_,rfl⟩,trivial,trivial,fun _=>⟨trivial,trivial⟩⟩
  · have ef:js.filter (fun _=>true)=js:=List.filter_eq_self.mpr (by simp)
    rw [ef]
    have:js.map (fun j=>D.int (at0 o j))=(js.map (at0 o)).map D.int:=by rw [List.map_map];rfl
    rw [this]
    exact h
theorem zor {o:List Int} (h:o.Perm (z87 n)) (ho:as.all (okZ (n:Int))=true):(as.map (z6t o)).all (okZ (n:Int))=true:=by
  rw [List.all_map]
  refine List.all_eq_true.mpr fun a ha=>?_
  have hk:=List.all_eq_true.mp ho a ha
  simp [okZ] at hk
  obtain ⟨⟨⟨a0,a1⟩,b0,b1⟩,hne⟩:=hk
  have m1:=z8e h a0 a1
  have m2:=z8e h b0 b1
  have m3:¬ at0 o a.1=at0 o a.2.1:=fun e=>hne (zee h a0 a1 b0 b1 e)
  show okZ (n:Int) (at0 o a.1,at0 o a.2.1,a.2.2)=true
  simp [okZ,m1,m2,m3]
theorem zl7 {F G:List (List Int)}:fNe (.lst (F.map dLI)) (.lst (G.map dLI)) μ=some (.bl (!decide (F=G)),μ):=by
  unfold fNe
  have:=zab (α:=List Int) (μ:=μ) (l:=F) (m:=G) (by decide)
  show (eqD (.lst (F.map Enc.d)) (.lst (G.map Enc.d)) μ).bind _=_
  rw [this];rfl
theorem zli {F G:List (List Int)}:fEq (.lst (F.map dLI)) (.lst (G.map dLI)) μ=some (.bl (decide (F=G)),μ):=by
  unfold fEq
  have:=zab (α:=List Int) (μ:=μ) (l:=F) (m:=G) (by decide)
  show (eqD (.lst (F.map Enc.d)) (.lst (G.map Enc.d)) μ).bind _=_
  rw [this];rfl
theorem zml {F:List (List Int)} {q:Nat} (h:μ[q]?=some (some (.lst []))):fEq (.lst (F.map dLI)) (.ref q) μ=some (.bl (decide (F=[])),μ):=by
  unfold fEq
  have h2:Rds μ (.ref q) (List (List Int)) []:=zhq (α:=List Int) (l:=[]) (by decide) h
  have h1:Rds μ (.lst (F.map dLI)) (List (List Int)) F:=zks (α:=List (List Int)) (by decide) F
  rw [zec (α:=List (List Int)) (by decide) h1 h2 rfl rfl]
  rfl
theorem zom {ns ms:List Int}:fEq (.lst (ns.map D.int)) (.lst (ms.map D.int)) μ=some (.bl (decide (ns=ms)),μ):=by
  unfold fEq
  have:=zab (α:=Int) (μ:=μ) (l:=ns) (m:=ms) (by decide)
  show (eqD (.lst (ns.map Enc.d)) (.lst (ms.map Enc.d)) μ).bind _=_
  rw [this];rfl
end
section
variable {μ:M} {n k r:Nat} {as:List Az} {C CF CT:Addr}
noncomputable abbrev zcc (C CF CT:Addr):List D→M→Option (D×M):=z2e z0a (dn (ze0 C CT)) (dn (zoz C CF CT))
theorem zg3 (hd:Dk μ k) (hr:μ[r]?=some (some (.lst (as.map dZ)))) (hrk:r≠k) (h1:1≤n) (hn:n≤10) (ho:as.all (okZ (n:Int))=true) (hlen:as.length≤30):Wp (zcc C CF CT [.ref k,.int (n:Int),.ref r] μ) fun x μ'=>x=.bl true:=by
  unfold zcc z2e z2s
  refine (z6h rfl).mpr ?_
  show Ws (z1i _ _ [some (.ref k),some (.int (n:Int)),some (.ref r),none,none,none,none,none,none] μ) _
  simp_arith [zrh (n:=n) (by omega)]
  have g0:Gr μ (μ++[some (O.lst ((z87 n).map D.int))]):=gr_app
  have hl0:(μ++[some (O.lst ((z87 n).map D.int))])[μ.length]?=some (some (.lst ((z87 n).map D.int))):=by simp
  have hr0:=g0.get hr
  have hd0:=hd.gr g0
  have hkl:μ.length≠k:=by have:=hd.lt;omega
  have hrl:r≠μ.length:=by have:=(List.getElem?_eq_some_iff.mp hr).1;omega
  generalize μ++[some (O.lst ((z87 n).map D.int))]=μ0 at g0 hl0 hr0 hd0
  generalize μ.length=l at hl0 hkl hrl
  rw [z9v (by omega)]
  simp_arith [zcw]
  refine ⟨by simp [z4l];omega,?_⟩
  have hnl:((z87 n).map D.int).length=n:=by simp [z87]
  have ern:z4l 0 n=z4l 0 ((z87 n).map D.int).length:=by rw [hnl]
  rw [ern]
  show Wp (z2h none (z02 0) z96 _ _ [none,some (.ref l),some (.ref k)] μ0) _
  refine zfi hd0 hl0 hkl (by omega) fun es μ1 hes d1 len1 k1=>?_
  obtain ⟨o,rfl,hop⟩:=zg6 hes
  have hol:=zo9 hop
  have hr1:μ1[r]?=some (some (.lst (as.map dZ))):=by rw [k1 r hrk hrl];exact hr0
  simp_arith [zdt hr1,zcw]
  refine ⟨by simp;omega,?_⟩
  show Wp (z2h (some (r,as.map dZ)) _ z96 _ (as.map dZ) [none,none,none,some (.lst (o.map D.int))] μ1) _
  refine z2j (c:=some (r,as.map dZ)) (dn:=dZ) (keep:=fun _=>true) (val:=fun a=>dZ (z6t o a)) (fun Γ=>∃ o1 o2 o3,Γ=[o1,o2,o3,some (.lst (o.map D.int))]) hr1 _ ⟨_,_,_,rfl⟩ ?_ ?_
  · rintro a ha Γ ⟨o1,o2,o3,rfl⟩
    have hk:=List.all_eq_true.mp ho a ha
    simp [okZ] at hk
    obtain ⟨⟨⟨a0,a1⟩,b0,b1⟩,_⟩:=hk
    show Wp (z7a 3 _ (.tup [.int a.1,.int a.2.1,.bl a.2.2]) _ _) _
    rw [zb2 (n:=3) rfl]
    simp_arith [zil (μ:=μ1) (l:=o) a0 (by rw [hol];exact a1),zil (μ:=μ1) (l:=o) b0 (by rw [hol];exact b1)]
    rw [zg7 (by simp)]
    simp_arith
    exact ⟨trivial,⟨_,_,_,rfl⟩,trivial,trivial,fun _=>⟨rfl,trivial⟩⟩
  have ef:as.filter (fun _=>true)=as:=List.filter_eq_self.mpr (by simp)
  have em:(as.map fun a=>dZ (z6t o a))=(as.map (z6t o)).map dZ:=by rw [List.map_map];rfl
  rw [ef,em]
  rw [zi1 (by simp)]
  have g2:Gr μ1 (μ1++[some (O.lst [])]):=gr_app
  have hdue:(μ1++[some (O.lst [])])[μ1.length]?=some (some (.lst ((([]:List (List Int)).map (ren o)).map dLI))):=by simp
  have hr2:=g2.get hr1
  have hrd:r≠μ1.length:=by have:=(List.getElem?_eq_some_iff.mp hr1).1;omega
  generalize μ1++[some (O.lst [])]=μ2 at g2 hdue hr2
  generalize μ1.length=du at hdue hrd
  simp_arith
  refine (zdm (C:=C) (CT:=CT) (Ls.ref hr2) h1 hn ho).imp ?_
  rintro _ μ3 ⟨rfl,rfl⟩
  simp_arith
  have hF:(z35 n as).length≤1024:=by
    have l1:=z8g n n
    have l2:=z9q (k:=n) hn
    have l3:=List.length_filter_le (z6f as) (z43 (LLs n n))
    rw [z5q] at l3
    unfold z35
    omega
  have hrise:∀ L∈z35 n as,Rise n L:=fun L hL=>z4q n n L (sortL_mem.mp (List.mem_filter.mp hL).1)
  refine za9 (fun q Γ μ'=>∃ (i:Nat) (o7:Option D),i≤(z35 n as).length∧q=((z35 n as).drop i).map dLI∧Γ=[some (.ref k),some (.int (n:Int)),some (.ref r),some (.ref l),some (.lst (o.map D.int)),some (.lst ((as.map (z6t o)).map dZ)),some (.ref du),o7,none]∧μ'[du]?=some (some (.lst ((((z35 n as).take i).map (ren o)).map dLI)))∧μ'[r]?=some (some (.lst (as.map dZ)))) _ ⟨0,_,by omega,rfl,rfl,by simpa using hdue,hr2⟩ ?_ ?_
  · rintro x q Γ μ4 ⟨i,o7,hi,e,rfl,h4,h5⟩
    have hi':i<(z35 n as).length:=by
      rcases Nat.lt_or_ge i (z35 n as).length with z | z
      · exact z
      · rw [List.drop_eq_nil_of_le z] at e;cases e
    rw [List.drop_eq_getElem_cons hi',List.map_cons] at e
    cases e
    have ht:(z35 n as).take (i+1)=(z35 n as).take i++[(z35 n as)[i]]:=by rw [List.take_append_getElem hi']
    have hm:(z35 n as)[i]∈z35 n as:=List.getElem_mem hi'
    generalize (z35 n as)[i]=L at ht hm
    have R:=hrise L hm
    have hLl:L.length≤10:=by have:=z9l n n L (sortL_mem.mp (List.mem_filter.mp hm).1);omega
    simp_arith [z5u h4]
    unfold dLI
    simp_arith [zcw]
    refine ⟨by simp;omega,?_⟩
    show Wp (z2h none (z02 0) z96 _ (L.map D.int) [none,some (.lst (o.map D.int))] μ4) _
    refine zfj (o:=o) trivial (fun j hj=>⟨R.ge j hj,by rw [hol];exact R.lt j hj⟩) ?_
    rw [zb4]
    simp_arith
    obtain ⟨μ5,e5,h6,o5⟩:=zbk (y:=dLI (ren o L)) h4 (by simp;omega)
    have e5':zea (.ref du) (.lst ((zdq (L.map (at0 o))).map D.int)) μ4=some (.non,μ5):=e5
    rw [e5']
    simp_arith
    refine ⟨trivial,i+1,_,hi',rfl,rfl,?_,by rw [o5.at_ r hrd];exact h5⟩
    rw [h6,ht,List.map_append,List.map_append];rfl
  rintro Γ μ4 ⟨i,o7,hi,e,rfl,h4,h5⟩
  have hi2:(z35 n as).length≤i:=by
    have:=congrArg List.length e
    simp at this
    omega
  rw [List.take_of_length_le hi2] at h4
  simp_arith [zdp h4]
  have hcok:=zor hop ho
  have hcall:=ziy hop h1 ho
  refine (zdm (C:=C) (CT:=CT) (d:=.lst ((as.map (z6t o)).map dZ)) Ls.lst h1 hn hcok).imp ?_
  rintro _ μ5 ⟨rfl,rfl⟩
  have e6:fNe (.lst ((z35 n (as.map (z6t o))).map dLI)) (.lst ((z43 ((z35 n as).map (ren o))).map dLI)) μ5=some (.bl false,μ5):=by rw [zl7,hcall];simp
  simp_arith [e6]
  rw [zi1 (by simp)]
  have g6:Gr μ5 (μ5++[some (O.lst [])]):=gr_app
  have hq6:(μ5++[some (O.lst [])])[μ5.length]?=some (some (.lst [])):=by simp
  have hr6:=g6.get h5
  generalize μ5++[some (O.lst [])]=μ6 at g6 hq6 hr6
  generalize μ5.length=q6 at hq6
  simp_arith [zml hq6]
  by_cases hz:z43 ((z35 n as).map (ren o))=[]
  · rw [decide_eq_true hz]
    simp_arith
    rw [zi1 (by simp)]
    have hq7:(μ6++[some (O.lst [])])[μ6.length]?=some (some (.lst [])):=by simp
    generalize μ6++[some (O.lst [])]=μ7 at hq7
    generalize μ6.length=q7 at hq7
    simp_arith [zml hq7,decide_eq_true hz]
    refine (zdm (C:=C) (CT:=CT) (d:=.lst ((as.map (z6t o)).map dZ)) Ls.lst h1 hn hcok).imp ?_
    rintro _ μ8 ⟨rfl,rfl⟩
    simp_arith [zli,hcall]
    simp
  · rw [decide_eq_false hz]
    simp_arith
    have hne:z35 n as≠[]:=fun z=>hz (List.length_eq_zero_iff.mp (by rw [z5q,z];rfl))
    refine (zn5 (C:=C) (CF:=CF) (CT:=CT) (Ls.ref hr6) h1 hn ho hne).imp ?_
    rintro _ μ7 ⟨rfl,rfl⟩
    simp_arith [zcw]
    have hsl:(zdn n (z35 n as)).length≤10:=by
      have:=List.length_filter_le (fun t:Nat=>(z35 n as).all fun l=>!decide ((t:Int)∈l)) (List.range n)
      rw [List.length_range] at this
      unfold zdn znd
      rw [List.length_map]
      omega
    refine ⟨by simp;omega,?_⟩
    show Wp (z2h none (z02 0) z96 _ ((zdn n (z35 n as)).map D.int) [none,some (.lst (o.map D.int))] μ7) _
    refine zfj (o:=o) trivial (fun j hj=>⟨(mem_sure.mp hj).1,by rw [hol];exact (mem_sure.mp hj).2.1⟩) ?_
    rw [zb4,zhg hop hrise]
    simp_arith
    refine (zn5 (C:=C) (CF:=CF) (CT:=CT) (d:=.lst ((as.map (z6t o)).map dZ)) Ls.lst h1 hn hcok (by rw [hcall];exact hz)).imp ?_
    rintro _ μ8 ⟨rfl,rfl⟩
    simp_arith [zom,hcall]
    simp
end
section
variable {μ:M} {k:Nat}
noncomputable def bD:D→Bool
  | .bl b=>b
  | _=>false
theorem zi0 {es:List D} {bs:List Bool} (h:es.Perm (bs.map D.bl)):∃ cs:List Bool,es=cs.map D.bl∧cs.length=bs.length:=by
  refine ⟨es.map bD,?_,by rw [List.length_map,h.length_eq,List.length_map]⟩
  rw [List.map_map]
  have:∀ x∈es,(D.bl ∘ bD) x=id x:=fun x hx=>by
    obtain ⟨i,_,rfl⟩:=List.mem_map.mp (h.mem_iff.mp hx)
    rfl
  rw [List.map_congr_left this,List.map_id]
theorem zds (hd:Dk μ k):Wp (z2m z0a [.ref k,.int 200] μ) fun x μ'=>∃ bs:List Bool,x=.lst (bs.map D.bl)∧bs.length≤200∧Dk μ' k:=by
  unfold z2m z5e
  refine (z6h rfl).mpr ?_
  show Ws (z1i _ _ [some (.ref k),some (.int 200),none,none,none,none,none,none,none] μ) _
  simp_arith
  rw [z73 (by simp)]
  simp_arith
  refine (z42 hd (by decide) (by decide)).imp ?_
  rintro _ μ1 ⟨t,rfl,ht,d1,_⟩
  simp_arith
  obtain ⟨z,hz,ez⟩:∃ z:Nat,z≤2∧fIx (.lst [.int 0,.int 0,.int 0,.int 0,.int 0,.int 1,.int 1,.int 2]) (.int (t:Int)) μ1=some (.int (z:Int),μ1):=by
    have:t=0∨t=1∨t=2∨t=3∨t=4∨t=5∨t=6∨t=7:=by omega
    rcases this with rfl | rfl | rfl | rfl | rfl | rfl | rfl | rfl
    · exact ⟨0,by decide,rfl⟩
    · exact ⟨0,by decide,rfl⟩
    · exact ⟨0,by decide,rfl⟩
    · exact ⟨0,by decide,rfl⟩
    · exact ⟨0,by decide,rfl⟩
    · exact ⟨1,by decide,rfl⟩
    · exact ⟨1,by decide,rfl⟩
    · exact ⟨2,by decide,rfl⟩
  rw [ez]
  simp_arith
  refine (z42 d1 (by decide) (by decide)).imp ?_
  rintro _ μ2 ⟨t8,rfl,h8,d2,_⟩
  simp_arith
  refine (z42 d2 (by decide) (by decide)).imp ?_
  rintro _ μ3 ⟨t41,rfl,h41,d3,_⟩
  simp_arith
  rw [z73 (by simp)]
  simp_arith
  obtain ⟨m,hm,em⟩:∃ m:Nat,m≤200∧fIx (.lst [.int (t8:Int),.int (t41:Int),.int 200]) (.int (z:Int)) μ3=some (.int (m:Int),μ3):=by
    have:z=0∨z=1∨z=2:=by omega
    rcases this with rfl | rfl | rfl
    · exact ⟨t8,by omega,rfl⟩
    · exact ⟨t41,by omega,rfl⟩
    · exact ⟨200,by decide,rfl⟩
  rw [em]
  simp_arith
  rw [zts (by decide) (by decide)]
  simp_arith
  obtain ⟨h,hh,eh⟩:∃ h:Nat,h≤100∧(if ((m:Int) - 1) / 2 > 0 then ((m:Int) - 1) / 2 else 0)=(h:Int):=by
    by_cases q:((m:Int) - 1) / 2 > 0
    · exact ⟨(((m:Int) - 1) / 2).toNat,by omega,by rw [if_pos q];omega⟩
    · exact ⟨0,by omega,by rw [if_neg q];rfl⟩
  rw [eh]
  refine (z42 d3 (by omega) (by omega)).imp ?_
  rintro _ μ4 ⟨ta,rfl,_,d4,_⟩
  simp_arith
  refine (z42 d4 (by omega) (by omega)).imp ?_
  rintro _ μ5 ⟨tb,rfl,_,d5,_⟩
  simp_arith
  rw [z73 (by simp)]
  simp_arith
  refine (z42 d5 (by decide) (by decide)).imp ?_
  rintro _ μ6 ⟨tc,rfl,hc,d6,_⟩
  simp_arith
  obtain ⟨y,ey⟩:∃ y:Int,fIx (.lst [.int (ta:Int),.int (h:Int),.int ((h:Int)+1),.int (tb:Int)]) (.int (tc:Int)) μ6=some (.int y,μ6):=by
    have:tc=0∨tc=1∨tc=2∨tc=3:=by omega
    rcases this with rfl | rfl | rfl | rfl
    · exact ⟨_,rfl⟩
    · exact ⟨_,rfl⟩
    · exact ⟨_,rfl⟩
    · exact ⟨_,rfl⟩
  rw [ey]
  simp_arith
  rw [z9v (by omega)]
  simp_arith [zcw]
  refine ⟨by simp [z4l];omega,?_⟩
  show Wp (z2h none (z02 0) z96 _ (z4l 0 m) [none,some (.int y)] μ6) _
  have er:z4l 0 m=(List.range m).map fun t:Nat=>D.int (t:Int):=by simp [z4l]
  rw [er]
  refine z2j (c:=none) (dn:=fun t:Nat=>D.int (t:Int)) (keep:=fun _=>true) (val:=fun t:Nat=>D.bl (decide (y≤(t:Int)))) (fun Γ=>∃ q,Γ=[q,some (.int y)]) trivial _ ⟨_,rfl⟩ ?_ ?_
  · rintro t ht' Γ ⟨q,rfl⟩
    simp_arith
    exact ⟨trivial,⟨_,rfl⟩,trivial,trivial,fun _=>⟨trivial,trivial⟩⟩
  have ef:(List.range m).filter (fun _=>true)=List.range m:=List.filter_eq_self.mpr (by simp)
  obtain ⟨bs,hbs,ebs⟩:∃ bs:List Bool,bs.length=m∧((List.range m).map fun t:Nat=>D.bl (decide (y≤(t:Int))))=bs.map D.bl:=⟨(List.range m).map fun t:Nat=>decide (y≤(t:Int)),by simp,by rw [List.map_map];rfl⟩
  rw [ef,ebs]
  refine (z42 d6 (by decide) (by decide)).imp ?_
  rintro _ μ7 ⟨w,rfl,hw,d7,_⟩
  simp_arith
  by_cases w0:(w:Int)=0
  · rw [decide_eq_true w0]
    simp_arith
    exact ⟨bs,rfl,by omega,d7⟩
  rw [decide_eq_false w0]
  simp_arith
  by_cases w1:(w:Int)=1
  · rw [decide_eq_true w1]
    have e:zrx (.lst (bs.map D.bl)) μ7=some (.lst (bs.reverse.map D.bl),μ7):=by simp [List.map_reverse]
    simp_arith [e]
    exact ⟨bs.reverse,rfl,by simp;omega,d7⟩
  rw [decide_eq_false w1]
  simp_arith
  rw [Ls.listM Ls.lst]
  have g8:Gr μ7 (μ7++[some (O.lst (bs.map D.bl))]):=gr_app
  have hl8:(μ7++[some (O.lst (bs.map D.bl))])[μ7.length]?=some (some (.lst (bs.map D.bl))):=by simp
  have d8:=d7.gr g8
  have hkl:μ7.length≠k:=by have:=d7.lt;omega
  generalize μ7++[some (O.lst (bs.map D.bl))]=μ8 at g8 hl8 d8
  generalize μ7.length=l at hl8 hkl
  simp_arith
  rw [z9v (by omega)]
  simp_arith [zcw]
  refine ⟨by simp [z4l];omega,?_⟩
  have ern:z4l 0 m=z4l 0 (bs.map D.bl).length:=by rw [List.length_map,hbs]
  rw [ern]
  show Wp (z2h none (z02 0) z96 _ _ [none,some (.ref l),some (.ref k)] μ8) _
  refine zfi d8 hl8 hkl (by simp;omega) fun es μ9 hes d9 _ _=>?_
  obtain ⟨cs,rfl,hcs⟩:=zi0 hes
  exact ⟨cs,rfl,by omega,d9⟩
end
section
variable {μ:M} {k:Nat} {C CF CT:Addr}
theorem zmp {bs:List Bool} {lo hi:Option Int}:∃ r:List Bool,zdi (bs.map D.bl) lo hi=r.map D.bl∧r.length=min (HT.sIx bs.length bs.length hi - HT.sIx bs.length 0 lo) (bs.length - HT.sIx bs.length 0 lo):=by
  refine ⟨(bs.drop (HT.sIx bs.length 0 lo)).take (HT.sIx bs.length bs.length hi - HT.sIx bs.length 0 lo),?_,by rw [List.length_take,List.length_drop]⟩
  unfold zdi
  rw [List.length_map,← List.map_drop,← List.map_take]
theorem zhp {m:Nat} (hm:m≤1000):z1g (.lst [.bl true]) (.int (m:Int)) μ=some (.lst ((List.replicate m true).map D.bl),μ):=by
  have e:(List.replicate m [D.bl true]).flatten=(List.replicate m true).map D.bl:=by simp
  show (if -1000000≤(m:Int)∧(m:Int)≤1000000∧[D.bl true].length*(m:Int).toNat≤1000000 then some (D.lst (List.replicate (m:Int).toNat [D.bl true]).flatten,μ) else none)=_
  rw [if_pos ⟨by omega,by omega,by simp;omega⟩,Int.toNat_natCast,e]
theorem z60 {bs:List Bool}:z5m (.lst (bs.map D.bl)) μ=some (.int (bs.length:Int),μ):=by rw [z5d,List.length_map]
theorem zk4 {n:Nat}:z1g (.int 2) (.int (n:Int)) μ=some (.int (2*(n:Int)),μ):=by
  rw [z4s,if_pos (show CMul 2 (n:Int) from .inl ⟨by decide,by decide⟩)]
end
section
variable {μ:M} {k:Nat} {C CF CT:Addr}
theorem zlm {Γ:G} {ea eb ec:EV} {i j k:Int} (h1:ea Γ μ=some (.int i,μ)) (h2:eb Γ μ=some (.int j,μ)) (h3:ec Γ μ=some (.int k,μ)):z6x fLt fLt ea eb ec Γ μ=some (.bl (decide (i<j)&&decide (j<k)),μ):=by
  unfold z6x
  rw [h1,bs]
  show (eb Γ μ).bind _=_
  rw [h2,bs]
  show (fLt (.int i) (.int j) μ).bind _=_
  rw [z80,bs]
  cases decide (i<j) with
  | false=>rfl
  | true =>
    show (ec Γ μ).bind _=_
    rw [h3]
    rfl
theorem zbu {f:D→D→M→Option (D×M)} {eb:EV} {Γ:G} {R:D→M→Prop} {ds:List D}:qm2 f eb Γ R (.lst ds) μ↔Wp (eb Γ μ) (q2b f (.lst ds) R):=⟨fun q=>q.2,fun q=>⟨⟨_,rfl⟩,q⟩⟩
theorem zvg {a0 a1 a2 a4:Option D} {bs:List Bool} {Q:Out→G→M→Prop} (hb:bs.length≤200) (q:∀ b2:List Bool,b2.length≤401→Q .nx [a0,a1,a2,some (.lst (b2.map D.bl)),a4] μ) :
    Ws (sIf (vT (v2 fGe (v2 z1g (vC (.int 2)) (v2l z61 (z05 3) (vC (.bl false)))) (v1 z5m (z05 3))))
        (z36 (v2 z3e (z05 3) (v2 z1g (vL zav (z03 (vC (.bl true)) z1f)) (v2 z3e (v1 z5m (z05 3)) (vC (.int 1))))) (z02 3))
        sNx [a0,a1,a2,some (.lst (bs.map D.bl)),a4] μ) Q:=by
  simp_arith [zbu,z7c,zk4,z60]
  cases decide ((bs.length:Int)≤2*(bs.count false:Int)) with
  | false =>
    simp_arith
    exact q bs (by omega)
  | true =>
    simp_arith [z60]
    rw [z73 (by simp)]
    simp_arith [z60]
    rw [show (bs.length:Int)+1=((bs.length+1:Nat):Int) by omega,zhp (by omega)]
    simp_arith
    rw [z6b,if_pos (by simp;omega),← List.map_append]
    simp_arith
    exact q _ (by simp;omega)
theorem zvf {a0 a1 a2 a4:Option D} {bs:List Bool} {Q:Out→G→M→Prop} (hb:bs.length≤200) (q:∀ b2:List Bool,b2.length≤200→2*b2.count false<b2.length→Q .nx [a0,a1,a2,some (.lst (b2.map D.bl)),a4] μ) :
    Ws (sIf (vT (v2 fGe (v2 z1g (vC (.int 2)) (v2l z61 (z05 3) (vC (.bl false)))) (v1 z5m (z05 3))))
        (z36 (v2 z1g (vL zav (z03 (vC (.bl true)) z1f)) (vC (.int 200))) (z02 3))
        sNx [a0,a1,a2,some (.lst (bs.map D.bl)),a4] μ) Q:=by
  simp_arith [zbu,z7c,zk4,z60]
  cases hd:decide ((bs.length:Int)≤2*(bs.count false:Int)) with
  | false =>
    simp_arith
    have:=of_decide_eq_false hd
    exact q bs (by omega) (by omega)
  | true =>
    simp_arith
    rw [z73 (by simp)]
    have e:z1g (.lst [.bl true]) (.int 200) μ=some (.lst ((List.replicate 200 true).map D.bl),μ):=zhp (m:=200) (by omega)
    simp_arith [e]
    exact q _ (by simp) (by rw [List.count_replicate];simp)
noncomputable abbrev ztx (C CF CT:Addr):List D→M→Option (D×M):=zf4 z1d z3d (z2m z0a) (z0y (dn (zoc CF))) z0a (zfd C CF CT) (z1c z0a) (zcc C CF CT)
theorem znh (ns:List Int) (hn:ns.length≤63):∃ μ',ztx C CF CT [.scr (ns.map D.int)] []=some (.bl true,μ'):=by
  suffices h:Wp (ztx C CF CT [.scr (ns.map D.int)] []) fun d _=>d=.bl true by
    obtain ⟨d,μ',e,rfl⟩:=h
    exact ⟨μ',e⟩
  unfold ztx zf4 zj1
  refine (z6h rfl).mpr ?_
  show Ws (z1i _ _ [some (.scr (ns.map D.int)),none,none,none,none] []) _
  simp_arith
  have e1:fSl (.scr (ns.map D.int)) none (some 4) []=some (.lst ((ns.take 4).map D.int),[]):=by
    show some (D.lst (zdi (ns.map D.int) none (some ((4:Nat):Int))),([]:M))=_
    unfold zdi
    rw [HT.sIx_none,HT.sIx_nat,List.drop_zero,Nat.sub_zero]
    congr 3
    rw [← List.map_take]
    by_cases h:4≤(ns.map D.int).length
    · rw [Nat.min_eq_left h]
    · rw [Nat.min_eq_right (by omega),List.length_map,List.take_length,List.take_of_length_le (by rw [List.length_map] at h;omega)]
  rw [e1]
  simp_arith
  obtain ⟨v,e0⟩:=zg2 (μ:=[]) (ns:=ns)
  refine zk1 e0 ?_
  simp_arith
  rw [z73 (by simp)]
  simp_arith
  rw [z6b,if_pos (by simp;omega)]
  simp_arith
  refine za9 (fun r Γ μ'=>(∀ x∈r,∃ c:Int,x=.int c)∧∃ o1 o2 o3 o4,Γ=[some (.scr (ns.map D.int)),o1,o2,o3,o4]) _ ⟨?_,_,_,_,_,rfl⟩ ?_ ?_
  · intro x hx
    rcases List.mem_append.mp hx with h | h
    · obtain ⟨c,_,rfl⟩:=List.mem_map.mp h;exact ⟨c,rfl⟩
    · exact ⟨v,by simpa using h⟩
  · rintro x r Γ μ0 ⟨hr,o1,o2,o3,o4,rfl⟩
    obtain ⟨c,rfl⟩:=hr x (by simp)
    simp_arith
    obtain ⟨k,μ1,e1,d1,_,_⟩:=zkq (μ:=μ0) (c:=c)
    refine zk1 e1 ?_
    simp_arith
    refine (zds d1).imp ?_
    rintro _ μ2 ⟨bs,rfl,hbs,d2⟩
    simp only [z1a,z2x,z2w,z10,z6u,z71,List.set_cons_zero,List.set_cons_succ]
    refine zvg hbs fun b2 hb2=>?_
    obtain ⟨b3,e3,l3⟩:=zmp (bs:=b2) (lo:=some (-200)) (hi:=none)
    have hb3:b3.length≤200:=by
      have e9:HT.sIx b2.length 0 (some (-200))=((-200:Int)+(b2.length:Int)).toNat:=rfl
      rw [l3,HT.sIx_none,e9]
      omega
    have es3:fSl (.lst (b2.map D.bl)) (some (-200)) none μ2=some (.lst (b3.map D.bl),μ2):=by rw [← e3];rfl
    rw [z10,z2w]
    simp only [z2x,z7q,z17,z18,z7x,z7n,z7e,w_c,q1_,z3c,wp_some,z7y,z7w,z7o,z7v,es3,z6u,z1a,z71,List.set_cons_zero,List.set_cons_succ,z10,z2w]
    refine zvf hb3 fun b4 hb4 hf4=>?_
    rw [z10]
    rw [← zc6] at hf4
    simp_arith
    refine (z9u (CF:=CF) hb4 hf4).imp ?_
    rintro _ μ3 ⟨rfl,g3⟩
    have d3:=d2.gr g3
    simp_arith [Bool.not_true]
    rw [z73 (by simp)]
    simp_arith
    refine (z42 d3 (by decide) (by decide)).imp ?_
    rintro _ μ4 ⟨t,rfl,ht,d4,_⟩
    simp_arith
    obtain ⟨z,hz,ez⟩:∃ z:Nat,z≤10∧fIx (.lst [.int 3,.int 7,.int 10]) (.int (t:Int)) μ4=some (.int (z:Int),μ4):=by
      have:t=0∨t=1∨t=2:=by omega
      rcases this with rfl | rfl | rfl
      · exact ⟨3,by decide,rfl⟩
      · exact ⟨7,by decide,rfl⟩
      · exact ⟨10,by decide,rfl⟩
    rw [ez]
    simp_arith
    obtain ⟨b5,e5,l5⟩:=zmp (bs:=b4) (lo:=none) (hi:=some (z:Int))
    have hb5:b5.length≤10:=by rw [l5,HT.sIx_nat,HT.sIx_none];omega
    have es5:fSl (.lst (b4.map D.bl)) none (some (z:Int)) μ4=some (.lst (b5.map D.bl),μ4):=by rw [← e5];rfl
    rw [es5]
    simp_arith
    rw [z73 (by simp)]
    simp_arith [zbu,z7c,zk4,z60]
    obtain ⟨m,hm,em⟩:∃ m:Nat,m≤1∧(if decide ((b5.length:Int)≤2*(b5.count false:Int))=true then (1:Int) else 0)=(m:Int):=by
      cases decide ((b5.length:Int)≤2*(b5.count false:Int))
      · exact ⟨0,by decide,rfl⟩
      · exact ⟨1,by decide,rfl⟩
    rw [em,zhp (by omega)]
    simp_arith
    rw [z6b,if_pos (by simp;omega),← List.map_append]
    generalize b5++List.replicate m true=b6
    simp_arith
    rw [zlm (i:=0) (j:=(b6.length:Int)) (k:=11) rfl (by show v1 z5m (z05 4) _ _=_;unfold v1;show z5m (.lst (b6.map D.bl)) μ4=_;exact z60) rfl]
    simp_arith
    have fin:(∀ y∈r,∃ c:Int,y=D.int c):=fun y hy=>hr y (by simp [hy])
    cases hc1:(decide ((0:Int)<(b6.length:Int))&&decide ((b6.length:Int)<11)) with
    | false =>
      simp_arith
      exact ⟨trivial,fin,_,_,_,_,rfl⟩
    | true =>
      rw [Bool.and_eq_true,decide_eq_true_eq,decide_eq_true_eq] at hc1
      simp_arith [zbu,z7c,zk4,z60]
      cases hc2:decide (2*(b6.count false:Int)<(b6.length:Int)) with
      | false =>
        simp_arith
        exact ⟨trivial,fin,_,_,_,_,rfl⟩
      | true =>
        have hc2:=of_decide_eq_true hc2
        have hf6:2*(za5 b6).length<b6.length:=by rw [zc6];omega
        simp_arith
        refine (zhm (C:=C) (CF:=CF) (CT:=CT) d4 (by omega) hf6).imp ?_
        rintro _ μ5 ⟨rfl,d5⟩
        simp_arith [Bool.not_true,z60]
        refine (z8m d5 (by omega)).imp ?_
        rintro _ μ6 ⟨q,as,rfl,hq,hok,hal,d6,hqk,_,_⟩
        simp_arith
        refine (zg3 (C:=C) (CF:=CF) (CT:=CT) d6 hq hqk (by omega) (by omega) (List.all_eq_true.mpr hok) hal).imp ?_
        rintro _ μ7 rfl
        simp_arith [Bool.not_true]
        exact ⟨trivial,fin,_,_,_,_,rfl⟩
  · rintro Γ μ1 ⟨hr,o1,o2,o3,o4,rfl⟩
    simp_arith
end
@[elab_as_elim] theorem zsr {α:Type} {P:List α→Prop} (us:List α) (h:us.length=1) (k:∀ a,P [a]):P us:=match us,h with | [a],_=>k a
@[elab_as_elim] theorem zjs {α:Type} {P:List α→Prop} (us:List α) (h:us.length=2) (k:∀ a b,P [a,b]):P us:=match us,h with | [a,b],_=>k a b
@[elab_as_elim] theorem zuu {α:Type} {P:List α→Prop} (us:List α) (h:us.length=3) (k:∀ a b c,P [a,b,c]):P us:=match us,h with | [a,b,c],_=>k a b c
@[elab_as_elim] theorem zvo {α:Type} {P:List α→Prop} (us:List α) (h:us.length=4) (k:∀ a b c d,P [a,b,c,d]):P us:=match us,h with | [a,b,c,d],_=>k a b c d
theorem all_mk {l:PySem.W.OpenLaw} {w:World} {K:PySem.W.Frag} {h:Heap} {mg:Str→Option Value} {fa f1 f2 f3 f4 f5 f6 f7 f8 f9 f10 f11 f12 f13 f14 f15 f16 f17 f18 c_NoThing c_TooMany c_NoFit:Addr} (X:K.In h) (G:h.Ns mainGlobals mg) (hfa:mg "law" = some (.ref fa))
    {od1 an1 od2 an2 od3 an3 od4 an4 od5 an5 od6 an6 od7 an7 od8 an8 od9 an9 od10 an10 od11 an11 od12 an12 od13 an13 od14 an14 od15 an15 od16 an16 od17 an17 od18 an18:Option Addr} {sl1 sl2 sl3 sl4 sl5 sl6 sl7 sl8 sl9 sl10 sl11 sl12 sl13 sl14 sl15 sl16 sl17 sl18:Array (Option Value)} {oc1 kV1 dc1 pm1 cd1 ct1 oc2 kV2 dc2 pm2 cd2 ct2 oc3 kV3 dc3 pm3 cd3 ct3 oc4 kV4 dc4 pm4 cd4 ct4 oc5 kV5 dc5 pm5 cd5 ct5 oc6 kV6 dc6 pm6 cd6 ct6 oc7 kV7 dc7 pm7 cd7 ct7 oc8 kV8 dc8 pm8 cd8 ct8 oc9 kV9 dc9 pm9 cd9 ct9 oc10 kV10 dc10 pm10 cd10 ct10 oc11 kV11 dc11 pm11 cd11 ct11 oc12 kV12 dc12 pm12 cd12 ct12 oc13 kV13 dc13 pm13 cd13 ct13 oc14 kV14 dc14 pm14 cd14 ct14 oc15 kV15 dc15 pm15 cd15 ct15 oc16 kV16 dc16 pm16 cd16 ct16 oc17 kV17 dc17 pm17 cd17 ct17 oc18 kV18 dc18 pm18 cd18 ct18:Value}
    (a1:PySem.W.nsIn K mainGlobals "check_things" = some (some (.ref f1)))
    (l1:K.lookup f1=some ⟨oc1,od1,.func (PySem.W.fnOf "check_things" "check_things" (z14 (top 6)) (z0i (top 6)) (z06 (top 6)) .none kV1 dc1 pm1 an1 cd1 ct1),sl1⟩) (c1:PySem.W.codeIn K cd1 "check_things" = true) (k1:PySem.W.keepIn K (.ref f1)=true)
    (a2:PySem.W.nsIn K mainGlobals "check_many" = some (some (.ref f2)))
    (l2:K.lookup f2=some ⟨oc2,od2,.func (PySem.W.fnOf "check_many" "check_many" (z14 (top 8)) (z0i (top 8)) (z06 (top 8)) .none kV2 dc2 pm2 an2 cd2 ct2),sl2⟩) (c2:PySem.W.codeIn K cd2 "check_many" = true) (k2:PySem.W.keepIn K (.ref f2)=true)
    (a3:PySem.W.nsIn K mainGlobals "lists_of_liars" = some (some (.ref f3)))
    (l3:K.lookup f3=some ⟨oc3,od3,.func (PySem.W.fnOf "lists_of_liars" "lists_of_liars" (z14 (top 11)) (z0i (top 11)) (z06 (top 11)) .none kV3 dc3 pm3 an3 cd3 ct3),sl3⟩) (c3:PySem.W.codeIn K cd3 "lists_of_liars" = true) (k3:PySem.W.keepIn K (.ref f3)=true)
    (a4:PySem.W.nsIn K mainGlobals "fits_liars" = some (some (.ref f4)))
    (l4:K.lookup f4=some ⟨oc4,od4,.func (PySem.W.fnOf "fits_liars" "fits_liars" (z14 (top 12)) (z0i (top 12)) (z06 (top 12)) .none kV4 dc4 pm4 an4 cd4 ct4),sl4⟩) (c4:PySem.W.codeIn K cd4 "fits_liars" = true) (k4:PySem.W.keepIn K (.ref f4)=true)
    (a5:PySem.W.nsIn K mainGlobals "liars_that_fit" = some (some (.ref f5)))
    (l5:K.lookup f5=some ⟨oc5,od5,.func (PySem.W.fnOf "liars_that_fit" "liars_that_fit" (z14 (top 13)) (z0i (top 13)) (z06 (top 13)) .none kV5 dc5 pm5 an5 cd5 ct5),sl5⟩) (c5:PySem.W.codeIn K cd5 "liars_that_fit" = true) (k5:PySem.W.keepIn K (.ref f5)=true)
    (a6:PySem.W.nsIn K mainGlobals "surely_true" = some (some (.ref f6)))
    (l6:K.lookup f6=some ⟨oc6,od6,.func (PySem.W.fnOf "surely_true" "surely_true" (z14 (top 14)) (z0i (top 14)) (z06 (top 14)) .none kV6 dc6 pm6 an6 cd6 ct6),sl6⟩) (c6:PySem.W.codeIn K cd6 "surely_true" = true) (k6:PySem.W.keepIn K (.ref f6)=true)
    (a7:PySem.W.nsIn K mainGlobals "says_true" = some (some (.ref f7)))
    (l7:K.lookup f7=some ⟨oc7,od7,.func (PySem.W.fnOf "says_true" "says_true" (z14 (top 15)) (z0i (top 15)) (z06 (top 15)) .none kV7 dc7 pm7 an7 cd7 ct7),sl7⟩) (c7:PySem.W.codeIn K cd7 "says_true" = true) (k7:PySem.W.keepIn K (.ref f7)=true)
    (a8:PySem.W.nsIn K mainGlobals "upmost_at_last" = some (some (.ref f8)))
    (l8:K.lookup f8=some ⟨oc8,od8,.func (PySem.W.fnOf "upmost_at_last" "upmost_at_last" (z14 (top 16)) (z0i (top 16)) (z06 (top 16)) .none kV8 dc8 pm8 an8 cd8 ct8),sl8⟩) (c8:PySem.W.codeIn K cd8 "upmost_at_last" = true) (k8:PySem.W.keepIn K (.ref f8)=true)
    (a9:PySem.W.nsIn K mainGlobals "in_a_chain" = some (some (.ref f9)))
    (l9:K.lookup f9=some ⟨oc9,od9,.func (PySem.W.fnOf "in_a_chain" "in_a_chain" (z14 (top 17)) (z0i (top 17)) (z06 (top 17)) .none kV9 dc9 pm9 an9 cd9 ct9),sl9⟩) (c9:PySem.W.codeIn K cd9 "in_a_chain" = true) (k9:PySem.W.keepIn K (.ref f9)=true)
    (a10:PySem.W.nsIn K mainGlobals "_law_cell_at" = some (some (.ref f10)))
    (l10:K.lookup f10=some ⟨oc10,od10,.func (PySem.W.fnOf "_law_cell_at" "_law_cell_at" (z14 (top 19)) (z0i (top 19)) (z06 (top 19)) .none kV10 dc10 pm10 an10 cd10 ct10),sl10⟩) (c10:PySem.W.codeIn K cd10 "_law_cell_at" = true) (k10:PySem.W.keepIn K (.ref f10)=true)
    (a11:PySem.W.nsIn K mainGlobals "_law_deck" = some (some (.ref f11)))
    (l11:K.lookup f11=some ⟨oc11,od11,.func (PySem.W.fnOf "_law_deck" "_law_deck" (z14 (top 20)) (z0i (top 20)) (z06 (top 20)) .none kV11 dc11 pm11 an11 cd11 ct11),sl11⟩) (c11:PySem.W.codeIn K cd11 "_law_deck" = true) (k11:PySem.W.keepIn K (.ref f11)=true)
    (a12:PySem.W.nsIn K mainGlobals "_law_take" = some (some (.ref f12)))
    (l12:K.lookup f12=some ⟨oc12,od12,.func (PySem.W.fnOf "_law_take" "_law_take" (z14 (top 21)) (z0i (top 21)) (z06 (top 21)) .none kV12 dc12 pm12 an12 cd12 ct12),sl12⟩) (c12:PySem.W.codeIn K cd12 "_law_take" = true) (k12:PySem.W.keepIn K (.ref f12)=true)
    (a13:PySem.W.nsIn K mainGlobals "_law_sayings" = some (some (.ref f13)))
    (l13:K.lookup f13=some ⟨oc13,od13,.func (PySem.W.fnOf "_law_sayings" "_law_sayings" (z14 (top 22)) (z0i (top 22)) (z06 (top 22)) .none kV13 dc13 pm13 an13 cd13 ct13),sl13⟩) (c13:PySem.W.codeIn K cd13 "_law_sayings" = true) (k13:PySem.W.keepIn K (.ref f13)=true)
    (a14:PySem.W.nsIn K mainGlobals "_law_truths" = some (some (.ref f14)))
    (l14:K.lookup f14=some ⟨oc14,od14,.func (PySem.W.fnOf "_law_truths" "_law_truths" (z14 (top 24)) (z0i (top 24)) (z06 (top 24)) .none kV14 dc14 pm14 an14 cd14 ct14),sl14⟩) (c14:PySem.W.codeIn K cd14 "_law_truths" = true) (k14:PySem.W.keepIn K (.ref f14)=true)
    (a15:PySem.W.nsIn K mainGlobals "_law_chain_right" = some (some (.ref f15)))
    (l15:K.lookup f15=some ⟨oc15,od15,.func (PySem.W.fnOf "_law_chain_right" "_law_chain_right" (z14 (top 25)) (z0i (top 25)) (z06 (top 25)) .none kV15 dc15 pm15 an15 cd15 ct15),sl15⟩) (c15:PySem.W.codeIn K cd15 "_law_chain_right" = true) (k15:PySem.W.keepIn K (.ref f15)=true)
    (a16:PySem.W.nsIn K mainGlobals "_law_small_right" = some (some (.ref f16)))
    (l16:K.lookup f16=some ⟨oc16,od16,.func (PySem.W.fnOf "_law_small_right" "_law_small_right" (z14 (top 26)) (z0i (top 26)) (z06 (top 26)) .none kV16 dc16 pm16 an16 cd16 ct16),sl16⟩) (c16:PySem.W.codeIn K cd16 "_law_small_right" = true) (k16:PySem.W.keepIn K (.ref f16)=true)
    (a17:PySem.W.nsIn K mainGlobals "_law_called_right" = some (some (.ref f17)))
    (l17:K.lookup f17=some ⟨oc17,od17,.func (PySem.W.fnOf "_law_called_right" "_law_called_right" (z14 (top 27)) (z0i (top 27)) (z06 (top 27)) .none kV17 dc17 pm17 an17 cd17 ct17),sl17⟩) (c17:PySem.W.codeIn K cd17 "_law_called_right" = true) (k17:PySem.W.keepIn K (.ref f17)=true)
    (a18:PySem.W.nsIn K mainGlobals "law" = some (some (.ref f18)))
    (l18:K.lookup f18=some ⟨oc18,od18,.func (PySem.W.fnOf "law" "law" (z14 (top 28)) (z0i (top 28)) (z06 (top 28)) .none kV18 dc18 pm18 an18 cd18 ct18),sl18⟩) (c18:PySem.W.codeIn K cd18 "law" = true) (k18:PySem.W.keepIn K (.ref f18)=true)
    {t_MOST_TELLERS:Tok} (z_MOST_TELLERS:PySem.W.nsIn K mainGlobals "MOST_TELLERS" = some (some (.int 10 t_MOST_TELLERS)))
    (z_range:PySem.W.nsIn K mainGlobals "range" = some none)
    (z_len:PySem.W.nsIn K mainGlobals "len" = some none)
    (z_sorted:PySem.W.nsIn K mainGlobals "sorted" = some none)
    (z_all:PySem.W.nsIn K mainGlobals "all" = some none)
    (z_max:PySem.W.nsIn K mainGlobals "max" = some none)
    (z_int:PySem.W.nsIn K mainGlobals "int" = some none)
    (z_list:PySem.W.nsIn K mainGlobals "list" = some none)
    (zc_NoThing:PySem.W.nsIn K mainGlobals "NoThing" = some (some (.ref c_NoThing)))
    (zc_TooMany:PySem.W.nsIn K mainGlobals "TooMany" = some (some (.ref c_TooMany)))
    (zc_NoFit:PySem.W.nsIn K mainGlobals "NoFit" = some (some (.ref c_NoFit)))
    {nm_NoFit qn_NoFit N_NoFit bs_NoFit bm_NoFit hd_NoFit sn_NoFit su_NoFit ab_NoFit co_NoFit dd_NoFit k0_NoFit k1_NoFit k2_NoFit k3_NoFit k5_NoFit:_} (el_NoFit:K.lookup c_NoFit=some (excClassObj nm_NoFit qn_NoFit c_NoFit N_NoFit bs_NoFit bm_NoFit hd_NoFit sn_NoFit su_NoFit ab_NoFit co_NoFit dd_NoFit k0_NoFit k1_NoFit k2_NoFit k3_NoFit k5_NoFit "ValueError.__new__")) (et_NoFit:PySem.W.tailIn K zpd bm_NoFit=true) (en_NoFit:PySem.W.nsOkIn K N_NoFit=true) (ez_NoFit:PySem.W.nsIn K N_NoFit "__init__" = some none)
    {nm_NoThing qn_NoThing N_NoThing bs_NoThing bm_NoThing hd_NoThing sn_NoThing su_NoThing ab_NoThing co_NoThing dd_NoThing k0_NoThing k1_NoThing k2_NoThing k3_NoThing k5_NoThing:_} (el_NoThing:K.lookup c_NoThing=some (excClassObj nm_NoThing qn_NoThing c_NoThing N_NoThing bs_NoThing bm_NoThing hd_NoThing sn_NoThing su_NoThing ab_NoThing co_NoThing dd_NoThing k0_NoThing k1_NoThing k2_NoThing k3_NoThing k5_NoThing "ValueError.__new__")) (et_NoThing:PySem.W.tailIn K zpd bm_NoThing=true) (en_NoThing:PySem.W.nsOkIn K N_NoThing=true) (ez_NoThing:PySem.W.nsIn K N_NoThing "__init__" = some none)
    {nm_TooMany qn_TooMany N_TooMany bs_TooMany bm_TooMany hd_TooMany sn_TooMany su_TooMany ab_TooMany co_TooMany dd_TooMany k0_TooMany k1_TooMany k2_TooMany k3_TooMany k5_TooMany:_} (el_TooMany:K.lookup c_TooMany=some (excClassObj nm_TooMany qn_TooMany c_TooMany N_TooMany bs_TooMany bm_TooMany hd_TooMany sn_TooMany su_TooMany ab_TooMany co_TooMany dd_TooMany k0_TooMany k1_TooMany k2_TooMany k3_TooMany k5_TooMany "ValueError.__new__")) (et_TooMany:PySem.W.tailIn K zpd bm_TooMany=true) (en_TooMany:PySem.W.nsOkIn K N_TooMany=true) (ez_TooMany:PySem.W.nsIn K N_TooMany "__init__" = some none) :
    ∃ fd:FuncData,(∀ (s:Shared) (v:Value),BindsTo s fd ⟨[v],[]⟩ [("script",v)])∧∀ base:Heap,K.In base→base.Ns mainGlobals mg→FnOk l.prog w K mg base CX0 5 fa fd ["script"] (zke K):=by
  have e:=hfa.symm.trans (PySem.W.mg_of X G a18)
  cases e
  have F1:=z37 (st:=(top 6)) l1 c1 k1
  have b1:=F1.binds (ps:=["many", "answers"]) fun _ _ _ _ _ _ us hl=>zjs us hl fun _ _=>rfl
  have g1:=PySem.W.mg_of X G a1
  have F2:=z37 (st:=(top 8)) l2 c2 k2
  have b2:=F2.binds (ps:=["many", "least", "greatest"]) fun _ _ _ _ _ _ us hl=>zuu us hl fun _ _ _=>rfl
  have g2:=PySem.W.mg_of X G a2
  have F3:=z37 (st:=(top 11)) l3 c3 k3
  have b3:=F3.binds (ps:=["many"]) fun _ _ _ _ _ _ us hl=>zsr us hl fun _=>rfl
  have g3:=PySem.W.mg_of X G a3
  have F4:=z37 (st:=(top 12)) l4 c4 k4
  have b4:=F4.binds (ps:=["liars", "sayings"]) fun _ _ _ _ _ _ us hl=>zjs us hl fun _ _=>rfl
  have g4:=PySem.W.mg_of X G a4
  have F5:=z37 (st:=(top 13)) l5 c5 k5
  have b5:=F5.binds (ps:=["many", "sayings"]) fun _ _ _ _ _ _ us hl=>zjs us hl fun _ _=>rfl
  have g5:=PySem.W.mg_of X G a5
  have F6:=z37 (st:=(top 14)) l6 c6 k6
  have b6:=F6.binds (ps:=["many", "sayings"]) fun _ _ _ _ _ _ us hl=>zjs us hl fun _ _=>rfl
  have g6:=PySem.W.mg_of X G a6
  have F7:=z37 (st:=(top 15)) l7 c7 k7
  have b7:=F7.binds (ps:=["truths", "sayings", "i", "j"]) fun _ _ _ _ _ _ us hl=>zvo us hl fun _ _ _ _=>rfl
  have g7:=PySem.W.mg_of X G a7
  have F8:=z37 (st:=(top 16)) l8 c8 k8
  have b8:=F8.binds (ps:=["truths", "sayings"]) fun _ _ _ _ _ _ us hl=>zjs us hl fun _ _=>rfl
  have g8:=PySem.W.mg_of X G a8
  have F9:=z37 (st:=(top 17)) l9 c9 k9
  have b9:=F9.binds (ps:=["truths"]) fun _ _ _ _ _ _ us hl=>zsr us hl fun _=>rfl
  have g9:=PySem.W.mg_of X G a9
  have F10:=z37 (st:=(top 19)) l10 c10 k10
  have b10:=F10.binds (ps:=["script", "k"]) fun _ _ _ _ _ _ us hl=>zjs us hl fun _ _=>rfl
  have g10:=PySem.W.mg_of X G a10
  have F11:=z37 (st:=(top 20)) l11 c11 k11
  have b11:=F11.binds (ps:=["cell"]) fun _ _ _ _ _ _ us hl=>zsr us hl fun _=>rfl
  have g11:=PySem.W.mg_of X G a11
  have F12:=z37 (st:=(top 21)) l12 c12 k12
  have b12:=F12.binds (ps:=["deck", "many"]) fun _ _ _ _ _ _ us hl=>zjs us hl fun _ _=>rfl
  have g12:=PySem.W.mg_of X G a12
  have F13:=z37 (st:=(top 22)) l13 c13 k13
  have b13:=F13.binds (ps:=["deck", "many"]) fun _ _ _ _ _ _ us hl=>zjs us hl fun _ _=>rfl
  have g13:=PySem.W.mg_of X G a13
  have F14:=z37 (st:=(top 24)) l14 c14 k14
  have b14:=F14.binds (ps:=["deck", "most"]) fun _ _ _ _ _ _ us hl=>zjs us hl fun _ _=>rfl
  have g14:=PySem.W.mg_of X G a14
  have F15:=z37 (st:=(top 25)) l15 c15 k15
  have b15:=F15.binds (ps:=["truths"]) fun _ _ _ _ _ _ us hl=>zsr us hl fun _=>rfl
  have g15:=PySem.W.mg_of X G a15
  have F16:=z37 (st:=(top 26)) l16 c16 k16
  have b16:=F16.binds (ps:=["deck", "truths"]) fun _ _ _ _ _ _ us hl=>zjs us hl fun _ _=>rfl
  have g16:=PySem.W.mg_of X G a16
  have F17:=z37 (st:=(top 27)) l17 c17 k17
  have b17:=F17.binds (ps:=["deck", "many", "sayings"]) fun _ _ _ _ _ _ us hl=>zuu us hl fun _ _ _=>rfl
  have g17:=PySem.W.mg_of X G a17
  have F18:=z37 (st:=(top 28)) l18 c18 k18
  have m_range:=PySem.W.mg_none_of X G z_range
  have m_len:=PySem.W.mg_none_of X G z_len
  have m_sorted:=PySem.W.mg_none_of X G z_sorted
  have m_all:=PySem.W.mg_none_of X G z_all
  have m_max:=PySem.W.mg_none_of X G z_max
  have m_int:=PySem.W.mg_none_of X G z_int
  have m_list:=PySem.W.mg_none_of X G z_list
  have g_MOST_TELLERS:mg "MOST_TELLERS" = some (.int 10 t_MOST_TELLERS)∧RelV (.int 10) (.int 10 t_MOST_TELLERS)∧∀ W,DR K W (.int 10) (.int 10):=⟨PySem.W.mg_of X G z_MOST_TELLERS,⟨_,rfl⟩,fun _=>.int _⟩
  have e_NoThing:mg "NoThing" = some (.ref c_NoThing)∧z4n K c_NoThing:=⟨PySem.W.mg_of X G zc_NoThing,_,_,_,_,_,_,_,_,_,_,_,_,_,_,_,_,el_NoThing,et_NoThing,en_NoThing,ez_NoThing⟩
  have e_TooMany:mg "TooMany" = some (.ref c_TooMany)∧z4n K c_TooMany:=⟨PySem.W.mg_of X G zc_TooMany,_,_,_,_,_,_,_,_,_,_,_,_,_,_,_,_,el_TooMany,et_TooMany,en_TooMany,ez_TooMany⟩
  have e_NoFit:mg "NoFit" = some (.ref c_NoFit)∧z4n K c_NoFit:=⟨PySem.W.mg_of X G zc_NoFit,_,_,_,_,_,_,_,_,_,_,_,_,_,_,_,_,el_NoFit,et_NoFit,en_NoFit,ez_NoFit⟩
  refine ⟨PySem.W.fnOf "law" "law" (z14 (top 28)) (z0i (top 28)) (z06 (top 28)) .none kV18 dc18 pm18 an18 cd18 ct18,fun s v=>.of_eq rfl,fun base _ _=>?_⟩
  have D_check_things:DfX l.prog w K mg base 1 "check_things" ["many", "answers"] (spX K (z1h c_NoThing)):=⟨_,_,za0 F1 e_NoThing,b1,k1,g1⟩
  have D_check_many:DfX l.prog w K mg base 1 "check_many" ["many", "least", "greatest"] (spX K (z31 c_NoThing c_TooMany)):=⟨_,_,zc0 F2 e_NoThing e_TooMany,b2,k2,g2⟩
  have D_lists_of_liars:Df l.prog w K mg base 1 "lists_of_liars" ["many"] (spM K (z12)):=⟨_,_,z85 F3 m_range m_len m_sorted,b3,k3,g3⟩
  have D_fits_liars:Df l.prog w K mg base 1 "fits_liars" ["liars", "sayings"] (spM K (z2n)):=⟨_,_,zbz F4,b4,k4,g4⟩
  have D_liars_that_fit:DfX l.prog w K mg base 2 "liars_that_fit" ["many", "sayings"] (spX K (ze0 c_NoThing c_TooMany)):=⟨_,_,z86 F5 (D_lists_of_liars) (by omega) (D_fits_liars) (by omega) (D_check_things) (by omega) (D_check_many) (by omega) g_MOST_TELLERS,b5,k5,g5⟩
  have D_surely_true:DfX l.prog w K mg base 3 "surely_true" ["many", "sayings"] (spX K (zoz c_NoThing c_NoFit c_TooMany)):=⟨_,_,zar F6 (D_liars_that_fit) (by omega) e_NoFit m_range m_all,b6,k6,g6⟩
  have D_says_true:Df l.prog w K mg base 1 "says_true" ["truths", "sayings", "i", "j"] (spM K (z1b)):=⟨_,_,zcy F7,b7,k7,g7⟩
  have D_upmost_at_last:Df l.prog w K mg base 2 "upmost_at_last" ["truths", "sayings"] (spM K (z11 z1b)):=⟨_,_,z84 F8 (D_says_true) (by omega) m_len m_range,b8,k8,g8⟩
  have D_in_a_chain:DfX l.prog w K mg base 3 "in_a_chain" ["truths"] (spX K (zoc c_NoFit)):=⟨_,_,zby F9 (D_upmost_at_last) (by omega) (D_says_true) (by omega) e_NoFit m_len m_range,b9,k9,g9⟩
  have D_law_cell_at:Df l.prog w K mg base 1 "_law_cell_at" ["script", "k"] (spM K (z1d)):=⟨_,_,zat F10 m_len,b10,k10,g10⟩
  have D_law_deck:Df l.prog w K mg base 1 "_law_deck" ["cell"] (spM K (z3d)):=⟨_,_,zdx F11 m_max,b11,k11,g11⟩
  have D_law_take:Df l.prog w K mg base 1 "_law_take" ["deck", "many"] (spM K (z0a)):=⟨_,_,zdw F12,b12,k12,g12⟩
  have D_law_sayings:Df l.prog w K mg base 2 "_law_sayings" ["deck", "many"] (spM K (z1c z0a)):=⟨_,_,zas F13 (D_law_take) (by omega) m_range m_int,b13,k13,g13⟩
  have D_law_truths:Df l.prog w K mg base 2 "_law_truths" ["deck", "most"] (spM K (z2m z0a)):=⟨_,_,zbx F14 (D_law_take) (by omega) m_max m_range m_list m_len,b14,k14,g14⟩
  have D_law_chain_right:Df l.prog w K mg base 4 "_law_chain_right" ["truths"] (spM K (z0y (dn (zoc c_NoFit)))):=⟨_,_,z75 F15 (Df.dn (D_in_a_chain)) (by omega) m_len m_all,b15,k15,g15⟩
  have D_law_small_right:Df l.prog w K mg base 4 "_law_small_right" ["deck", "truths"] (spM K (zfd c_NoThing c_NoFit c_TooMany)):=⟨_,_,z74 F16 (Df.dn (D_in_a_chain)) (by omega) (Df.dn (D_liars_that_fit)) (by omega) (Df.dn (D_surely_true)) (by omega) (D_law_sayings) (by omega) m_len m_range,b16,k16,g16⟩
  have D_law_called_right:Df l.prog w K mg base 4 "_law_called_right" ["deck", "many", "sayings"] (spM K (zcc c_NoThing c_NoFit c_TooMany)):=⟨_,_,z6m F17 (D_law_take) (by omega) (Df.dn (D_liars_that_fit)) (by omega) (Df.dn (D_surely_true)) (by omega) m_list m_range m_len m_sorted,b17,k17,g17⟩
  exact zri (zr7 F18 (D_law_cell_at) (by omega) (D_law_deck) (by omega) (D_law_truths) (by omega) (D_law_chain_right) (by omega) (D_law_take) (by omega) (D_law_small_right) (by omega) (D_law_sayings) (by omega) (D_law_called_right) (by omega) m_len m_int) (znh (C:=c_NoThing) (CF:=c_NoFit) (CT:=c_TooMany))
theorem walk {l:PySem.W.OpenLaw} {q:Program} {loose:List Str} {XP:(Str→Option Value)→Heap→Prop} {YP:World→Heap→Prop} {d:DefRec} {K:Params→PySem.W.Frag} (hn:l.most=some 63) (hdf:d.params.defaults=[])
    (hY:∀ (w:World) (h:Heap),YP w h→(K w.params).In h)
    (F:∀ (w:World) (mg:Str→Option Value) (fa:Addr) (h:Heap),(K w.params).In h→h.Ns mainGlobals mg→mg d.name=some (.ref fa) →
      ∃ fd:FuncData,(∀ (s:Shared) (u:Value),BindsTo s fd ⟨[u],[]⟩ [("script",u)])∧∀ base:Heap,(K w.params).In base→base.Ns mainGlobals mg→FnOk l.prog w (K w.params) mg base CX0 5 fa fd ["script"] (zke (K w.params))) :
    PySem.W.WalkO q loose XP YP l.row.toRowW d [] (fun f vs=>PySem.call f vs) :=
  L2.walk_of (n:=63) (k:=5) (x := "script") (CX:=fun _=>CX0) (sp:=fun w=>zke (K w.params)) hn (by decide) hdf ⟨rfl,by decide,by decide⟩ hY F (fun _ _ a ns hl hO hS=>⟨a,ns,rfl,hO,hS,hl,fun _=>rfl⟩) fun _ _ _ _ _ z=>z
end Law
open PySem PySem.W PyProof.Rows
set_option maxRecDepth 100000 in
set_option maxHeartbeats 0 in
theorem PySem.Challenge.cw_morethanhalf_k39_whole_tellers_holds : PySem.Challenge.rw_morethanhalf_k39_whole_tellers.Holds := by
  w_on;o_law;k_head;(case hw=>w_witness2)
  k_fill
  refine Law.walk (l:=PySem.Challenge.rw_morethanhalf_k39_whole_tellers) rfl rfl (fun w h Y=>PySem.W.kIn_of Y) ?F
  case F =>
    intro w mg fa h KX G hmg
    refine' Law.all_mk KX G hmg ?a1 ?l1 ?c1 ?k1 ?a2 ?l2 ?c2 ?k2 ?a3 ?l3 ?c3 ?k3 ?a4 ?l4 ?c4 ?k4 ?a5 ?l5 ?c5 ?k5 ?a6 ?l6 ?c6 ?k6 ?a7 ?l7 ?c7 ?k7 ?a8 ?l8 ?c8 ?k8 ?a9 ?l9 ?c9 ?k9 ?a10 ?l10 ?c10 ?k10 ?a11 ?l11 ?c11 ?k11 ?a12 ?l12 ?c12 ?k12 ?a13 ?l13 ?c13 ?k13 ?a14 ?l14 ?c14 ?k14 ?a15 ?l15 ?c15 ?k15 ?a16 ?l16 ?c16 ?k16 ?a17 ?l17 ?c17 ?k17 ?a18 ?l18 ?c18 ?k18 ?z_MOST_TELLERS ?z_range ?z_len ?z_sorted ?z_all ?z_max ?z_int ?z_list ?zc_NoThing ?zc_TooMany ?zc_NoFit ?el_NoFit ?et_NoFit ?en_NoFit ?ez_NoFit ?el_NoThing ?et_NoThing ?en_NoThing ?ez_NoThing ?el_TooMany ?et_TooMany ?en_TooMany ?ez_TooMany
    (case zc_NoThing=>k_is)
    (case zc_TooMany=>k_is)
    (case zc_NoFit=>k_is)
    (case a1=>k_is)
    (case l1=>k_is)
    (case c1=>k_is)
    (case k1=>k_is)
    (case a2=>k_is)
    (case l2=>k_is)
    (case c2=>k_is)
    (case k2=>k_is)
    (case a3=>k_is)
    (case l3=>k_is)
    (case c3=>k_is)
    (case k3=>k_is)
    (case a4=>k_is)
    (case l4=>k_is)
    (case c4=>k_is)
    (case k4=>k_is)
    (case a5=>k_is)
    (case l5=>k_is)
    (case c5=>k_is)
    (case k5=>k_is)
    (case a6=>k_is)
    (case l6=>k_is)
    (case c6=>k_is)
    (case k6=>k_is)
    (case a7=>k_is)
    (case l7=>k_is)
    (case c7=>k_is)
    (case k7=>k_is)
    (case a8=>k_is)
    (case l8=>k_is)
    (case c8=>k_is)
    (case k8=>k_is)
    (case a9=>k_is)
    (case l9=>k_is)
    (case c9=>k_is)
    (case k9=>k_is)
    (case a10=>k_is)
    (case l10=>k_is)
    (case c10=>k_is)
    (case k10=>k_is)
    (case a11=>k_is)
    (case l11=>k_is)
    (case c11=>k_is)
    (case k11=>k_is)
    (case a12=>k_is)
    (case l12=>k_is)
    (case c12=>k_is)
    (case k12=>k_is)
    (case a13=>k_is)
    (case l13=>k_is)
    (case c13=>k_is)
    (case k13=>k_is)
    (case a14=>k_is)
    (case l14=>k_is)
    (case c14=>k_is)
    (case k14=>k_is)
    (case a15=>k_is)
    (case l15=>k_is)
    (case c15=>k_is)
    (case k15=>k_is)
    (case a16=>k_is)
    (case l16=>k_is)
    (case c16=>k_is)
    (case k16=>k_is)
    (case a17=>k_is)
    (case l17=>k_is)
    (case c17=>k_is)
    (case k17=>k_is)
    (case a18=>k_is)
    (case l18=>k_is)
    (case c18=>k_is)
    (case k18=>k_is)
    (case z_MOST_TELLERS=>k_is)
    (case z_range=>k_is)
    (case z_len=>k_is)
    (case z_sorted=>k_is)
    (case z_all=>k_is)
    (case z_max=>k_is)
    (case z_int=>k_is)
    (case z_list=>k_is)
    (case el_NoFit=>k_is)
    (case et_NoFit=>kernel_rfl)
    (case en_NoFit=>kernel_rfl)
    (case ez_NoFit=>k_is)
    (case el_NoThing=>k_is)
    (case et_NoThing=>kernel_rfl)
    (case en_NoThing=>kernel_rfl)
    (case ez_NoThing=>k_is)
    (case el_TooMany=>k_is)
    (case et_TooMany=>kernel_rfl)
    (case en_TooMany=>kernel_rfl)
    (case ez_TooMany=>k_is)
